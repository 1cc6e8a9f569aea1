import PyProof.Rows.All
import Wide.All
import OpenK.AllK
import Wide.FinOn
import Lean
import PyProof.EqAt
import PyProof.EqKinds
import PyProof.TupleCall
import PySem.Challenge.RW_oneglance_k35_moments_of_many_attempts
local macro_rules|`(tactic|trivial)=>`(tactic|exact Or.inl rfl)
local macro_rules|`(tactic|trivial)=>`(tactic|exact Or.inr rfl)
set_option maxHeartbeats 4000000
set_option Elab.async false
set_option linter.all false
set_option maxRecDepth 100000
noncomputable section
open Option renaming bind_eq_some_iff→Q0, bind_some→QX, isSome_iff_exists→Qm, map_some→ZV, map_eq_some_iff→ZK, isSome_some→Zr
open PySem.W renaming Frag→Q1
open PySem renaming Value→Q2, Shared→Q3, wpAny_bind→Q5, starEach→QJ, sizeLine→QD, Expr→QC, wpAny_pure→QL, model→Qj, Program→Qv, World→Qe, Around→Qa, Stmt→Z0, bootBuiltins→Z7, backTo→ZQ, wpAny_mono→ZX, FuncData→ZN, swapsWith→ZP, Scope→Zq
open List renaming getElem?_eq_getElem→Q4, getElem?_eq_some_iff→Q6, mem_cons_of_mem→QQ, mem_cons_self→QZ, length_map→QV, length_cons→QY, mem_append_right→QR, replicate→QU, mem_singleton→QB, getD_eq_getElem?_getD→QH, size_toArray→QF, mem_cons→QM, map_cons→QN, range→Qz, append_assoc→Qk, mem_append→Qw, length_append→Qr, getElem?_map→Qu, getElem?_set_ne→Qg, find?_cons→Qd, append_nil→Qc, getElem?_append_right→Qn, filterMap_append→Qp, getElem?_append_left→Qt, map_congr_left→Ql, mem_map→Qi, map_map→Qo, length_set→Z8, getElem?_set→Z9, mem_append_left→ZZ, toArray→ZJ, mem_range→ZY, nodup_cons→ZR, map_nil→ZU, getElem?_replicate→ZG, any_cons→ZH, nil_append→ZE, getElem?_eq_none→ZD, lookup_cons→ZF, nodup_append→ZT, mem_filter→ZL, replicate_succ→ZI, filter_cons→ZO, cons_append→ZS, not_mem_nil→Zj, getElem?_cons_zero→Zv, getElem?_cons_succ→Zk, flatten_cons→Zu, mem_of_getElem?→Zg, mem_iff_getElem→Zh
open PySem.Heap renaming get?_push_of_some→Q7, lt_size→QK, get?_push_size→Qx, size_push→Zy
open Nat renaming le_refl→Q8, lt_of_lt_of_le→Qq, ne_of_lt→Qy, le_trans→Qb, zero_le→Z6, lt_irrefl→ZC
open Bool renaming false_ne_true→Q9, false_eq_true→Qs, eq_iff_iff→Zz, and_eq_true→Zw
open Array renaming length_toList→Qh, getD_eq_getD_getElem?→Zb
open Int renaming toNat_natCast→Zx, le_refl→Ze
namespace L2
open PySem PySem.Spec PyProof.Rows
abbrev Key:=Sum Int Str
def n4:Key->Q2->Bool
 |.inl k,v=>Value.isInt k v
 |.inr x,v=>Value.isStrOf x v
def JW(w:Qe):Key->Int
 |.inl k=>hashInt k
 |.inr x=>hashStr w x
theorem br:∀{k:Key} {v:Q2},n4 k v=true->(∃i t,k=Sum.inl i/\v=Value.int i t)\/(∃x t,k=Sum.inr x/\v=Value.str x t)
 |.inl i,v,h=>by
  obtain⟨t,e⟩:=Value.isInt_shape (k:=i) (v:=v) h;exact .inl ⟨i,t,rfl,e⟩
 |.inr x,v,h=>by
  obtain⟨t,e⟩:=Value.isStrOf_shape (x:=x) (v:=v) h;exact .inr ⟨x,t,rfl,e⟩
def vO(i:Int)(t:Tok):n4 (.inl i) (.int i t)=true:=by simp[n4,Value.isInt]
def vN(x:Str)(t:Tok):n4 (.inr x) (.str x t)=true:=by simp[n4,Value.isStrOf]
theorem E9(a b:Int):decide ((Sum.inl a:Key)=Sum.inl b)=(a == b):=by
 by_cases e:a=b
 ·subst e;simp
 ·have h:¬(Sum.inl a:Key)=Sum.inl b:=fun q=>e (Sum.inl.inj q);rw[decide_eq_false h];exact(beq_eq_false_iff_ne.mpr e).symm
theorem E6(a b:Str):decide ((Sum.inr a:Key)=Sum.inr b)=decide (a=b):=by
 by_cases e:a=b
 ·subst e;simp
 ·have h:¬(Sum.inr a:Key)=Sum.inr b:=fun q=>e (Sum.inr.inj q);rw[decide_eq_false h,decide_eq_false e]
def E8(a:Int)(b:Str):decide ((Sum.inl a:Key)=Sum.inr b)=false:=decide_eq_false (fun q=>nomatch q)
def E7(a:Str)(b:Int):decide ((Sum.inr a:Key)=Sum.inl b)=false:=decide_eq_false (fun q=>nomatch q)
def bO(prog:Qv)(w:Qe):PySem.KeyKind prog w Key where
 is:=n4
 hash:=JW w
 inj:=fun v a b ha hb=>by
  rcases br ha with⟨i,t,rfl,rfl⟩|⟨x,t,rfl,rfl⟩
  ·rcases br hb with⟨j,u,rfl,e⟩|⟨y,u,rfl,e⟩
   ·injection e with e1 _;rw[e1]
   ·exact nomatch e
  ·rcases br hb with⟨j,u,rfl,e⟩|⟨y,u,rfl,e⟩
   ·exact nomatch e
   ·injection e with e1 _;rw[e1]
 byValue:=fun k v h=>by
  rcases br h with⟨i,t,rfl,rfl⟩|⟨x,t,rfl,rfl⟩<;>rfl
 pyHash:=fun hv h=>by
  rcases br hv with⟨i,t,rfl,rfl⟩|⟨x,t,rfl,rfl⟩
  ·exact wpAny_pyHash_int h
  ·exact wpAny_pyHash_str h
 eqBool:=fun hu hv h=>by
  rcases br hu with⟨i,t,rfl,rfl⟩|⟨x,t,rfl,rfl⟩
  ·rcases br hv with⟨j,u,rfl,rfl⟩|⟨y,u,rfl,rfl⟩
   ·rw[E9]at h;exact wpAny_eqBool_int h
   ·rw[E8]at h;exact SeqAt.EqAt.int_str i t y u _ _ _ _ h
  ·rcases br hv with⟨j,u,rfl,rfl⟩|⟨y,u,rfl,rfl⟩
   ·rw[E7]at h;exact SeqAt.EqAt.str_int x t j u _ _ _ _ h
   ·rw[E6]at h;exact wpAny_eqBool_str h
 «strs»:=fun k x t v h=>by
  rcases br h with⟨i,u,rfl,e⟩|⟨y,u,rfl,e⟩
  ·exact nomatch e
  ·injection e with e1 _;subst e1;cases v<;>rfl
def pT(prog:Qv)(w:Qe)(i:Int)(t:Tok):(bO prog w).is (.inl i) (.int i t)=true:=vO i t
def pS(prog:Qv)(w:Qe)(x:Str)(t:Tok):(bO prog w).is (.inr x) (.str x t)=true:=vN x t
inductive V where
 |non|bl (b:Bool)|int (i:Int)|str (x:Str)|byt (b:Array UInt8)|flt (b:UInt64)|ref (a:Addr)|ty (n:String)
 deriving DecidableEq
def bR:V->Q2->Prop
 |.non,u=>u=Value.none
 |.bl b,u=>u=Value.bool b
 |.int i,u=>∃t,u=Value.int i t
 |.str x,u=>∃t,u=Value.str x t
 |.byt b,u=>∃t,u=Value.bytes b t
 |.flt b,u=>∃t,u=Value.float b t
 |.ref a,u=>u=Value.ref a
 |.ty n,u=>u=Value.type n
abbrev bD:List V->List Q2->Prop:=Paired bR
def bD.length{xs:List V}{us:List Q2}(r:bD xs us):xs.length=us.length:=Paired.length r
theorem bD.get:∀{xs:List V} {us:List Q2} {i:Nat} {x:V},bD xs us->xs[i]?=some x->∃u,us[i]?=some u/\bR x u
 |_,_,_,_,.nil,e=>by simp at e
 |_,_,0,_,.cons r _,e=>by simp at e;subst e;exact⟨_,rfl,r⟩
 |_,_,i+1,x,.cons _ t,e=>by
  obtain⟨u,h1,h2⟩:=bD.get (i:=i) (x:=x) t (by simpa using e);exact⟨u,by simpa using h1,h2⟩
theorem bD.set{x:V}{u:Q2}(r:bR x u):∀{xs:List V} {us:List Q2} (i:Nat),bD xs us->bD (xs.set i x) (us.set i u)
 |_,_,_,.nil=>.nil
 |_,_,0,.cons _ t=>.cons r t
 |_,_,i+1,.cons q t=>.cons q (bD.set r i t)
theorem bD.append:∀{xs ys:List V} {us ws:List Q2},bD xs us->bD ys ws->bD (xs++ys) (us++ws)
 |_,_,_,_,.nil,s=>s
 |_,_,_,_,.cons r t,s=>.cons r (bD.append t s)
theorem bD.take:∀{xs:List V} {us:List Q2} (n:Nat),bD xs us->bD (xs.take n) (us.take n)
 |_,_,0,_=>.nil
 |_,_,_+1,.nil=>.nil
 |_,_,n+1,.cons r t=>.cons r (bD.take n t)
theorem bD.drop:∀{xs:List V} {us:List Q2} (n:Nat),bD xs us->bD (xs.drop n) (us.drop n)
 |_,_,0,r=>r
 |_,_,_+1,.nil=>.nil
 |_,_,n+1,.cons _ t=>bD.drop n t
def nr:Option V->Option Q2->Prop
 |some v,some u=>bR v u
 |none,none=>True
 |_,_=>False
def KV{κ:Type}:List (κ×V)->List (κ×Q2)->Prop:=Paired fun(p:κ×V) (q:κ×Q2)=>p.1=q.1/\bR p.2 q.2
def kV:Key->V
 |.inl i=>.int i
 |.inr x=>.str x
inductive HO where
 |lst (xs:List V)
 |tup (xs:List V)
 |dK (kvs:List (Key×V))|dT (kvs:List (List Key×V))
 |set (S:Int->Bool) (n:Nat)
 |ins (C dx:Addr) (fs:List (Str×V))
 |own (x:Addr)
 |xd (fs:List (Str×V))
 |met (f x:Addr)
 |rng (lo hi:Int)
 |frz (o:Obj) (u:HO)
 |tbl (ps:Array Q2)
 |ext (φ:Heap->Prop)
abbrev Hp:=Addr->Option HO
def upd(H:Hp)(a:Addr)(o:HO):Hp:=fun b=>if b=a then some o else H b
def aA{H:Hp}{a:Addr}{o:HO}:upd H a o a=some o:=by unfold upd;rw[if_pos rfl]
def aB{H:Hp}{a b:Addr}{o:HO}(h:b≠a):upd H a o b=H b:=by unfold upd;rw[if_neg h]
theorem HR{H:Hp}{a b:Addr}{o u:HO}(h:H a=some o)(h':H b=some u)(d:o≠u):a≠b:=by
 intro e;subst e;rw[h]at h';exact d (Option.some.inj h')
theorem cP{H:Hp}{a b:Addr}{o:HO}(h:H a=some o)(h':H b=none):a≠b:=by
 intro e;subst e;rw[h]at h';cases h'
def zb(h:Heap)(a:Addr)(items:Array Q2):Prop:=∃o,h.get? a=some o/\(o.cls=.type "tuple"/\o.dict=none)/\∃n,o.data=.seq items n
def zb.tup{h:Heap}{a:Addr}{items:Array Q2}(x:zb h a items):IsTup h a items:=let ⟨o,g,c,d⟩:=x;⟨o,g,c.1,d⟩
theorem zb.new(h:Heap)(items:Array Q2):zb (h.push { cls:=.type "tuple",data:=.seq items }) h.objs.size items:=⟨_,Qx _ rfl,⟨rfl,rfl⟩,_,rfl⟩
section
variable(P:Qv)(w:Qe)
def c8(H:Hp)(h:Heap)(a:Addr):HO->Prop
 |.lst xs=>xs.length<=QD/\∃(its:List Q2) (n:Nat),bD xs its/\h.get? a=some { cls:=.type "list",data:=.seq its.toArray n }
 |.tup xs=>xs.length<=QD/\∃its:List Q2,bD xs its/\zb h a its.toArray
 |.dK kvs=>kvs.length<=QD/\(a == sysModules)=false/\∃vs,KV kvs vs/\h.DictOf (bO P w) a vs
 | .dT kvs=>kvs.length<=QD/\(a == sysModules)=false/\∃xs:List (List Key×Addr×Q2),
   Paired (fun(p:List Key×V) (q:List Key×Addr×Q2)=>p.1=q.1/\H q.2.1=some (.tup (p.1.map kV))/\bR p.2 q.2.2) kvs xs/\
   ∃o es ep,h.get? a=some o/\o.ExactDict/\o.data=.dict es ep/\es.toList=xs.map (entryOfKey (tupleKind (bO P w)))/\(xs.map (·.1)).Nodup
 |.set S n=>h.SetOf (intKind P w) a S n
 | .ins C dx fs=>H dx=some (.own a)/\fs.length<=1000/\dx≠a/\h.get? a=some (PySem.W.instObj C dx)/\
   ∃mA,h.Ns1 dx mA/\(∀f,nr (fs.lookup f) (mA f))/\PySem.Within mA (fs.map (·.1))
 |.own _=>∃o,h.get? a=some o
 |.xd fs=>∃mA,h.Ns1 a mA/\∀f,nr (fs.lookup f) (mA f)
 |.rng lo hi=>∃t u v,h.get? a=some { cls:=.type "range",data:=.fields #[.int lo t,.int hi u,.int 1 v] }
 |.frz o u=>h.get? a=some o/\c8 H h a u
 |.tbl ps=>h.get? a=some { cls:=.none,data:=.fields ps }
 |.met f x=>h.get? a=some (PySem.W.methodObj (.ref f) (.ref x))
 |.ext φ=>φ h/\(∃o,h.get? a=some o)/\∀h1 h2:Heap,φ h1->(∀o,h1.get? a=some o->h2.get? a=some o)->φ h2
def HOk(H:Hp)(h:Heap):Prop:=∀a o,H a=some o->c8 P w H h a o
end
section
variable{P:Qv}{w:Qe}{H H':Hp}{h h':Heap}{a:Addr}{o:HO}
theorem c8.lt(x:c8 P w H h a o):a<h.objs.size:=by
 cases o with
 |lst xs=>obtain⟨_,_,_,_,e⟩:=x;exact QK e
 |tup xs=>obtain⟨_,_,_,p⟩:=x;exact p.tup.lt
 |dK kvs=>obtain⟨_,_,_,_,o,_,_,e,_⟩:=x;exact QK e
 |dT kvs=>obtain⟨_,_,_,_,o,_,_,e,_⟩:=x;exact QK e
 |set S n=>obtain⟨o,_,_,_,e,_⟩:=x;exact QK e
 |ins C dx fs=>obtain⟨_,_,_,e,_⟩:=x;exact QK e
 |own y=>obtain⟨_,e⟩:=x;exact QK e
 |xd fs=>obtain⟨_,⟨_,_,_,e,_⟩,_⟩:=x;exact QK e
 |rng lo hi=>obtain⟨_,_,_,e⟩:=x;exact QK e
 |frz ob u=>obtain⟨e,_⟩:=x;exact QK e
 |tbl ps=>exact QK (show h.get? a=some _ from x)
 |met f y=>exact QK (show h.get? a=some _ from x)
 |ext φ=>obtain⟨_,⟨_,e⟩,_⟩:=x;exact QK e
theorem Paired.mapP{α β:Type}{F G:α->β->Prop}:∀{l₁:List α} {l₂:List β},Paired F l₁ l₂->(∀a b,F a b->G a b)->Paired G l₁ l₂
 |_,_,.nil,_=>.nil
 |_,_,.cons r t,f=>.cons (f _ _ r) (Paired.mapP t f)
theorem c8.stay(x:c8 P w H h a o)(k:∀b u,(b=a\/H b=some (.own a))->h.get? b=some u->h'.get? b=some u)
  (ho:∀b,H b=some (.own a)->H' b=some (.own a)) (ht:∀b xs,H b=some (.tup xs)->H' b=some (.tup xs)):c8 P w H' h' a o:=by
 induction o with
 |lst xs=>obtain⟨z,its,n,r,e⟩:=x;exact⟨z,its,n,r,k _ _ (.inl rfl) e⟩
 |tup xs=>obtain⟨z,its,r,ob,e,c⟩:=x;exact⟨z,its,r,ob,k _ _ (.inl rfl) e,c⟩
 |dK kvs=>obtain⟨z,y,vs,r,ob,es,ep,e,c⟩:=x;exact⟨z,y,vs,r,ob,es,ep,k _ _ (.inl rfl) e,c⟩
 |dT kvs=>
  obtain⟨z,y,xs,r,ob,es,ep,e,c⟩:=x;exact⟨z,y,xs,Paired.mapP r fun p q z=>⟨z.1,ht _ _ z.2.1,z.2.2⟩,ob,es,ep,k _ _ (.inl rfl) e,c⟩
 |set S n=>obtain⟨ob,es,ep,t,e,c⟩:=x;exact⟨ob,es,ep,t,k _ _ (.inl rfl) e,c⟩
 |ins C dx fs=>
  obtain⟨d,z,ne,e,mA,⟨od,es,ep,e2,c⟩,r⟩:=x;exact⟨ho _ d,z,ne,k _ _ (.inl rfl) e,mA,⟨od,es,ep,k _ _ (.inr d) e2,c⟩,r⟩
 |own y=>obtain⟨ob,e⟩:=x;exact⟨ob,k _ _ (.inl rfl) e⟩
 |xd fs=>obtain⟨mA,⟨od,es,ep,e,c⟩,r⟩:=x;exact⟨mA,⟨od,es,ep,k _ _ (.inl rfl) e,c⟩,r⟩
 |rng lo hi=>obtain⟨t,u,v,e⟩:=x;exact⟨t,u,v,k _ _ (.inl rfl) e⟩
 |frz ob u ih=>obtain⟨e,q⟩:=x;exact⟨k _ _ (.inl rfl) e,ih q⟩
 |tbl ps=>
  have e:h.get? a=some { cls:=.none,data:=.fields ps }:=x;show h'.get? a=some { cls:=.none,data:=.fields ps };exact k a _ (.inl rfl) e
 |met f y=>
  have e:h.get? a=some (PySem.W.methodObj (.ref f) (.ref y)):=x;show h'.get? a=some (PySem.W.methodObj (.ref f) (.ref y));exact k a _ (.inl rfl) e
 |ext φ=>obtain⟨p,⟨o,e⟩,st⟩:=x;exact⟨st _ _ p fun o q=>k _ _ (.inl rfl) q,⟨o,k _ _ (.inl rfl) e⟩,st⟩
def HOk.lt(x:HOk P w H h)(e:H a=some o):a<h.objs.size:=(x a o e).lt
theorem HOk.fresh(x:HOk P w H h)(e:h.objs.size<=a):H a=none:=by
 cases q:H a with
 |none=>rfl
 |some u=>exact absurd (Qq (x.lt q) e) (ZC _)
theorem HOk.kept(x:HOk P w H h)(k:∀b u,h.get? b=some u->h'.get? b=some u):HOk P w H h':=fun a o e=>
 (x a o e).stay (fun b u _ q=>k b u q) (fun _ q=>q) fun _ _ q=>q
theorem HOk.laid(x:HOk P w H h)(k:∀b u,h.get? b=some u->h'.get? b=some u)(hp:h.objs.size<=a)(new:c8 P w (upd H a o) h' a o):HOk P w (upd H a o) h':=fun b u e=>by
 have hn:=x.fresh hp;by_cases hb:b=a
 ·subst hb;rw[aA]at e;cases e;exact new
 ·rw[aB hb]at e;exact(x b u e).stay (fun c v _ q=>k c v q) (fun c q=>by rw[aB (cP q hn)];exact q) fun c xs q=>by rw[aB (cP q hn)];exact q
end
def Rd(H:Hp)(a:Addr)(u:HO):Prop:=H a=some u\/∃o,H a=some (.frz o u)
theorem Rd.ok{P:Qv}{w:Qe}{H:Hp}{h:Heap}{a:Addr}{u:HO}(r:Rd H a u)(x:HOk P w H h):c8 P w H h a u:=by
 rcases r with r|⟨o,r⟩
 ·exact x a u r
 ·obtain⟨_,q⟩:=x a _ r;exact q
def Mut:Option HO->Prop
 |some (.lst _)=>True
 |some (.dK _)=>True
 |some (.dT _)=>True
 |some (.set _ _)=>True
 |some (.ins _ _ _)=>True
 |some (.ext _)=>True
 |_=>False
section
variable{P:Qv}{w:Qe}{H:Hp}{h h':Heap}{x e:Addr}{o':HO}
theorem HOk.write(ok:HOk P w H h)(mu:Mut (H x))(he:e=x\/H e=some (.own x))(k:∀b u,b≠e->h.get? b=some u->h'.get? b=some u)(heo:∃u,h'.get? e=some u)
  (new:c8 P w (upd H x o') h' x o'):HOk P w (upd H x o') h':=fun b u q=>by
 have nown:∀c y,H c=some (.own y)->c≠x:=fun c y r z=>by subst z;rw[r]at mu;exact mu
 have ntup:∀c xs,H c=some (.tup xs)->c≠x:=fun c xs r z=>by subst z;rw[r]at mu;exact mu
 by_cases hb:b=x
 ·subst hb;rw[aA]at q;cases q;exact new
 ·rw[aB hb]at q;by_cases hbe:b=e
  ·have q':H b=some (.own x):=by
    rcases he with z|z
    ·exact absurd (hbe.trans z) hb
    ·rw[hbe];exact z
   rw[q]at q';cases q';obtain⟨v,hv⟩:=heo;exact⟨v,by rw[hbe];exact hv⟩
  ·refine(ok b u q).stay (fun c v hc r=>k c v ?_ r) (fun c r=>by rw[aB (nown c b r)];exact r) fun c xs r=>by rw[aB (ntup c xs r)];exact r
   rcases hc with rfl|hc
   ·exact hbe
   ·rintro rfl;rcases he with z|z
    ·exact nown c b hc z
    ·rw[hc]at z;cases z;exact hb rfl
end
structure Un(fs ex:List Addr)(H H':Hp)(h h':Heap):Prop where
 keep:∀b o,h.get? b=some o->H b=none->b∉fs->b∉ex->h'.get? b=some o
 slot:∀b o,h.get? b=some o->H b=none->b∈fs->b∉ex->∃sl,h'.get? b=some { o with slots:=sl }
 free:∀b o,h.get? b=some o->H b=none->b∉ex->H' b=none
 there:∀b o,h.get? b=some o->b∉ex->∃o',h'.get? b=some o'
 tups:∀b xs,H b=some (.tup xs)->H' b=some (.tup xs)
 frzs:∀b o u,H b=some (.frz o u)->H' b=some (.frz o u)
 tbls:∀b ps,H b=some (.tbl ps)->∃more,H' b=some (.tbl (ps++more))
section
variable{fs ex:List Addr}{H H1:Hp}{h h1 h':Heap}{a x e:Addr}{o:HO}
theorem Un.any(u:Un fs ex H H1 h h1){b:Addr}{ob:Obj}(q:h.get? b=some ob)(n:H b=none)(hx:b∉ex):∃sl,h1.get? b=some { ob with slots:=sl }:=by
 by_cases hb:b∈fs
 ·exact u.slot b ob q n hb hx
 ·exact⟨ob.slots,u.keep b ob q n hb hx⟩
theorem Un.kept(k:∀b u,h.get? b=some u->h'.get? b=some u):Un fs ex H H h h':=
 ⟨fun b ob q _ _ _=>k b ob q,fun b ob q _ _ _=>⟨ob.slots,k b ob q⟩,fun _ _ _ n _=>n,fun b ob q _=>⟨ob,k b ob q⟩,fun _ _ q=>q,fun _ _ _ q=>q,fun _ ps q=>⟨#[],by rw[q];simp⟩⟩
def Un.refl:Un fs ex H H h h:=Un.kept fun _ _ q=>q
theorem Un.laid(k:∀b u,h.get? b=some u->h'.get? b=some u)(hp:h.objs.size<=a)(hn:H a=none):Un fs ex H (upd H a o) h h' where
 keep:=fun b u q _ _ _=>k b u q
 slot:=fun b u q _ _ _=>⟨u.slots,k b u q⟩
 free:=fun b u q n _=>by rw[aB (Qy (Qq (QK q) hp))];exact n
 there:=fun b u q _=>⟨u,k b u q⟩
 tups:=fun b xs q=>by rw[aB (cP q hn)];exact q
 frzs:=fun b u xs q=>by rw[aB (cP q hn)];exact q
 tbls:=fun b ps q=>⟨#[],by rw[aB (cP q hn),q];simp⟩
theorem Un.write(mu:Mut (H x))(he:e=x\/H e=some (.own x))(k:∀b u,b≠e->h.get? b=some u->h'.get? b=some u)(heo:∃u,h'.get? e=some u):Un fs ex H (upd H x o) h h':=by
 have hx:∀b,H b=none->b≠x:=fun b n z=>by subst z;rw[n]at mu;exact mu
 have hb:∀b,H b=none->b≠e:=fun b n z=>by
  subst z;rcases he with r|r
  ·exact hx b n r
  ·rw[n]at r;cases r
 have hm:∀b u,H b=some u->¬Mut (some u)->b≠x:=fun b u q nm z=>by subst z;rw[q]at mu;exact nm mu
 refine⟨fun b u q n _ _=>k b u (hb b n) q,fun b u q n _ _=>⟨u.slots,k b u (hb b n) q⟩,fun b u q n _=>by rw[aB (hx b n)];exact n,fun b u q _=>?_,
  fun b xs q=>by rw[aB (hm b _ q fun z=>z)];exact q,fun b u xs q=>by rw[aB (hm b _ q fun z=>z)];exact q,fun b ps q=>⟨#[],by rw[aB (hm b _ q fun z=>z),q];simp⟩⟩
 by_cases hbe:b=e
 ·subst hbe;exact heo
 ·exact⟨u,k b u hbe q⟩
end
def trk(h:Heap)(H:Hp):List Addr:=(Qz h.objs.size).filter fun a=>(H a).isSome
def yD(h:Heap)(H:Hp):Heap:=PySem.W.hideAll h (trk h H)
def vZ(h:Heap)(H:Hp):(yD h H).objs.size=h.objs.size:=PySem.W.hideAll_size _ _
theorem mR{h:Heap}{H:Hp}{b:Addr}{o:Obj}(e:h.get? b=some o)(n:H b=none):(yD h H).get? b=some o:=
 PySem.W.hideAll_get _ e fun hm=>by
  have q:(H b).isSome=true:=(ZL.mp hm).2;rw[n]at q;simp at q
theorem B0{h:Heap}{H:Hp}{b:Addr}{o:Obj}(e:(yD h H).get? b=some o):h.get? b=some o/\H b=none:=by
 have e':h.get? b=some o:=PySem.W.of_hideAll (trk h H) e;refine⟨e',?_⟩;cases q:H b with
 |none=>rfl
 |some x=>
  have hm:b∈trk h H:=ZL.mpr ⟨ZY.mpr (QK e'),by simp[q]⟩;have z:(yD h H).get? b=none:=PySem.W.hideAll_none (trk h H) hm;rw[z]at e;cases e
structure Mod(K:Q1)(mg:Str->Option Q2)(base:Heap):Prop where
 kin:K.In base
 glob:base.Ns mainGlobals mg
 blt:∃mb,base.Ns builtinsNs mb/\∀x:Str,x≠"__name__"->mb x=Z7 x
 nolimit:base.NoLimit
structure Cx where
 prog:Qv
 w:Qe
 K:Q1
 mg:Str->Option Q2
 base:Heap
 A:Qa
 N:List Str
 s₀:Q3
 H₀:Hp
 env:Env
 outer:List Env
 stack:List Env
 ex:List Addr
 fn:Str->Bool
 calm:Bool
 pn:List (Addr×Obj)
 xe:Q2->Q3->Prop
def frs(l:List Env):List Addr:=l.filterMap (·.frame)
abbrev Cx.fs(X:Cx):List Addr:=frs X.outer
def Vis(sc:Zq)(x:Str):Prop:=sc.names.lookup x=some .local\/sc.names.lookup x=some .cell\/sc.names.lookup x=some .free
def Loc(sc:Zq)(x:Str):Prop:=sc.names.lookup x=some .local\/sc.names.lookup x=some .cell
def J0(env:Env)(h:Heap)(m:Str->Option Q2)(x:Str)(u:Q2):Prop:=
 (env.kindOf x=some .local/\m x=some u)\/((env.kindOf x=some .cell\/env.kindOf x=some .free)/\∃c,env.cells.lookup x=some c/\h.IsCell c (some u))
structure Cx.Ok(X:Cx):Prop where
 mod:Mod X.K X.mg X.base
 kind:X.env.scope.kind=.function
 glob:X.env.globals=mainGlobals
 blt:X.env.builtins=builtinsNs
 above:X.s₀.heap.objs.size<=X.env.locals
 inj:∀x y c,X.env.cells.lookup x=some c->X.env.cells.lookup y=some c->x=y
 has:∀x,(X.env.kindOf x=some .cell\/X.env.kindOf x=some .free)->∃c,X.env.cells.lookup x=some c
 cab:∀x c,X.fn x=true->X.env.cells.lookup x=some c->X.s₀.heap.objs.size<=c
 hd:X.calm=true->X.A.handled=none
 frames:X.A.frames=some X.stack
 stk:X.stack=X.outer\/(X.stack=X.env::X.outer/\X.env.frame=some X.env.locals)
 exf:∀b∈X.ex,b≠X.env.locals/\∀x c,X.env.cells.lookup x=some c->c≠b
 bs:∀b o,X.base.get? b=some o->X.s₀.heap.get? b=some o/\X.H₀ b=none
 bsz:X.base.objs.size<=X.s₀.heap.objs.size
 noex:∀b o,X.base.get? b=some o->b∉X.ex
 exfs:∀b∈X.ex,b∉X.fs
 funs:X.s₀.heap.FunFrames X.base X.outer
 frf:∀b∈X.fs,X.H₀ b=none
structure Inv(X:Cx)(pins:List (Addr×Obj))(σ:List (Option V))(H:Hp)(s:Q3):Prop where
 ok:X.Ok
 os:s.os=X.s₀.os
 bare:AllBare s.gens
 base:Un X.fs X.ex X.H₀ H X.s₀.heap s.heap
 loc:∃m,s.heap.Ns X.env.locals m/\∀(i:Nat) (x:Str) (v:V),X.N[i]?=some x->σ[i]?=some (some v)->Vis X.env.scope x->∃u,bR v u/\J0 X.env s.heap m x u
 cell:∀x c,X.env.cells.lookup x=some c->∃v,s.heap.IsCell c v
 free:H X.env.locals=none
 freeC:∀x c,X.env.cells.lookup x=some c->H c=none
 pin:∀p∈X.pn++pins,s.heap.get? p.1=some p.2/\H p.1=none/\p.1≠X.env.locals/\p.1∉X.fs/\∀v,p.2.data≠.cell v
 hok:HOk X.prog X.w H s.heap
 len:σ.length=X.N.length
section
variable{X:Cx}{pins:List (Addr×Obj)}{σ:List (Option V)}{H H':Hp}{s:Q3}{h':Heap}
theorem Cx.Ok.nofr(ok:X.Ok){b:Addr}{o:Obj}(e:X.base.get? b=some o):b∉X.fs:=fun hb=>by
 have:=(ok.funs.mem hb).1;rw[e]at this;cases this
theorem Inv.bs(I:Inv X pins σ H s):∀b o,X.base.get? b=some o->s.heap.get? b=some o/\H b=none:=fun b o e=>
 ⟨I.base.keep b o (I.ok.bs b o e).1 (I.ok.bs b o e).2 (I.ok.nofr e) (I.ok.noex b o e),I.base.free b o (I.ok.bs b o e).1 (I.ok.bs b o e).2 (I.ok.noex b o e)⟩
def Inv.bk(I:Inv X pins σ H s):∀b o,X.base.get? b=some o->s.heap.get? b=some o:=fun b o e=>(I.bs b o e).1
def Inv.mod(I:Inv X pins σ H s):Mod X.K X.mg X.base:=I.ok.mod
def Inv.kIn(I:Inv X pins σ H s):X.K.In s.heap:=I.ok.mod.kin.keeps I.bk
def Inv.lt(I:Inv X pins σ H s):X.env.locals<s.heap.objs.size:=let ⟨_,hn,_⟩:=I.loc;hn.lt
def Inv.sz(I:Inv X pins σ H s):X.s₀.heap.objs.size<=s.heap.objs.size:=Qb I.ok.above (Nat.le_of_lt I.lt)
theorem Inv.nofs(I:Inv X pins σ H s){a:Addr}(h:s.heap.objs.size<=a):a∉X.fs:=fun hb=>by
 obtain⟨_,o,ho,_⟩:=I.ok.funs.mem hb;exact absurd (Qq (QK ho) (Qb I.sz h)) (ZC _)
theorem Inv.cne(I:Inv X pins σ H s):∀x c,X.env.cells.lookup x=some c->c≠X.env.locals:=fun x c e z=>by
 obtain⟨v,o,ho,hd⟩:=I.cell x c e;obtain⟨m,⟨o',es,ep,ho',hd',_⟩,_⟩:=I.loc;rw[z,ho']at ho;cases ho;rw[hd']at hd;cases hd
theorem Inv.funs(I:Inv X pins σ H s):s.heap.FunFrames X.base X.outer:=by
 have all:∀(l:List Env),(∀b∈frs l,b∈X.fs)->X.s₀.heap.FunFrames X.base l->s.heap.FunFrames X.base l:=by
  intro l;induction l with
  |nil=>intro _ _;trivial
  |cons env r ih=>
   intro hs hl;obtain⟨hk,⟨L,o,hf,hn,ho,hd⟩,hr⟩:=hl;have hL:L∈X.fs:=hs L (by unfold frs;rw[List.filterMap_cons,hf];exact QZ);obtain⟨sl,e⟩:=I.base.slot L o ho (I.ok.frf L hL) hL fun z=>I.ok.exfs L z hL;exact⟨hk,⟨L,_,hf,hn,e,hd⟩,ih (fun b hb=>hs b (by unfold frs;rw[List.filterMap_cons,hf];exact QQ _ hb)) hr⟩
 exact all X.outer (fun _ hb=>hb) I.ok.funs
theorem Inv.stack(I:Inv X pins σ H s):s.heap.FunFrames X.base X.stack:=by
 rcases I.ok.stk with e|⟨e,hf⟩
 ·rw[e];exact I.funs
 ·rw[e];obtain⟨m,hn,_⟩:=I.loc;refine .cons (by rw[I.ok.kind];decide) hf hn ?_ I.funs;exact Heap.get?_none_of_le (Qb I.ok.bsz I.ok.above)
theorem Inv.stkSub(I:Inv X pins σ H s):∀b∈frs X.stack,b∈X.env.locals::X.fs:=fun b hb=>by
 rcases I.ok.stk with e|⟨e,hf⟩
 ·rw[e]at hb;exact QQ _ hb
 ·rw[e]at hb;unfold frs at hb;rw[List.filterMap_cons,hf]at hb;exact hb
theorem Inv.stkFree(I:Inv X pins σ H s):∀b∈frs X.stack,H b=none:=fun b hb=>by
 rcases QM.mp (I.stkSub b hb)with e|hb
 ·rw[e];exact I.free
 ·obtain⟨_,o,ho,_⟩:=I.ok.funs.mem hb;exact I.base.free b o ho (I.ok.frf b hb) fun z=>I.ok.exfs b z hb
theorem Inv.step{g':Array GenState}{t':Nat}{d':Drawn}{ch:List Addr}(I:Inv X pins σ H s)
  (hch:∀b∈ch,(b∈X.ex\/X.s₀.heap.objs.size<=b)/\b≠X.env.locals/\(∀x c,X.env.cells.lookup x=some c->c≠b)/\∀p∈X.pn++pins,p.1≠b)
  (keep:∀b o,b≠X.env.locals->b∉X.fs->b∉ch->s.heap.get? b=some o->H b=none->h'.get? b=some o)
  (slot:∀b o,b≠X.env.locals->b∈X.fs->b∉ch->s.heap.get? b=some o->H b=none->∃sl,h'.get? b=some { o with slots:=sl }) (free:∀b o,b∉ch->s.heap.get? b=some o->H b=none->H' b=none)
  (there:∀b o,b∉ch->s.heap.get? b=some o->∃o',h'.get? b=some o')
  (tups:∀b xs,H b=some (.tup xs)->H' b=some (.tup xs)) (frzs:∀b o u,H b=some (.frz o u)->H' b=some (.frz o u)) (tbls:∀b ps,H b=some (.tbl ps)->∃more,H' b=some (.tbl (ps++more)))
  (ns:∀m,s.heap.Ns X.env.locals m->h'.Ns X.env.locals m) (hok:HOk X.prog X.w H' h') (hg:AllBare g') :
  Inv X pins σ H' { s with heap:=h',gens:=g',drawn:=d',toks:=t' }:=by
 have neL:∀b o,X.s₀.heap.get? b=some o->b≠X.env.locals:=fun b o e=>Qy (Qq (QK e) I.ok.above);have neC:∀b o,X.s₀.heap.get? b=some o->b∉X.ex->b∉ch:=fun b o e hx hb=>by
  rcases(hch b hb).1 with z|z
  ·exact hx z
  ·exact absurd (Qq (QK e) z) (ZC _)
 have cellK:∀x c,X.env.cells.lookup x=some c->∀v,s.heap.IsCell c v->h'.IsCell c v:=fun x c e v ⟨o,ho,hd⟩=>by
  have nch:c∉ch:=fun z=>(hch c z).2.2.1 x c e rfl;by_cases hc:c∈X.fs
  ·obtain⟨sl,q⟩:=slot c o (I.cne x c e) hc nch ho (I.freeC x c e);exact⟨_,q,hd⟩
  ·exact⟨o,keep c o (I.cne x c e) hc nch ho (I.freeC x c e),hd⟩
 refine⟨I.ok,I.os,hg,⟨fun b o e n hb hx=>?_,fun b o e n hb hx=>?_,fun b o e n hx=>?_,fun b o e hx=>?_,fun b xs e=>tups b xs (I.base.tups b xs e),fun b o xs e=>frzs b o xs (I.base.frzs b o xs e),fun b ps e=>?_⟩,?_,fun x c e=>?_,?_,fun x c e=>?_,fun p hp=>?_,hok,I.len⟩
 ·exact keep b o (neL b o e) hb (neC b o e hx) (I.base.keep b o e n hb hx) (I.base.free b o e n hx)
 ·obtain⟨sl,e1⟩:=I.base.slot b o e n hb hx;obtain⟨sl',e2⟩:=slot b _ (neL b o e) hb (neC b o e hx) e1 (I.base.free b o e n hx);exact⟨sl',e2⟩
 ·obtain⟨o',e1⟩:=I.base.there b o e hx;exact free b o' (neC b o e hx) e1 (I.base.free b o e n hx)
 ·obtain⟨o',e1⟩:=I.base.there b o e hx;exact there b o' (neC b o e hx) e1
 ·obtain⟨m1,e1⟩:=I.base.tbls b ps e;obtain⟨m2,e2⟩:=tbls b _ e1;exact⟨m1++m2,by rw[e2,Array.append_assoc]⟩
 ·obtain⟨m,hn,hl⟩:=I.loc;refine⟨m,ns m hn,fun i x v e1 e2 e3=>?_⟩;obtain⟨u,r,l⟩:=hl i x v e1 e2 e3;refine⟨u,r,?_⟩;rcases l with l|⟨k,c,e,z⟩
  ·exact .inl l
  ·exact .inr ⟨k,c,e,cellK x c e _ z⟩
 ·obtain⟨v,z⟩:=I.cell x c e;exact⟨v,cellK x c e v z⟩
 ·obtain⟨m,⟨o,_,_,ho,_⟩,_⟩:=I.loc;exact free _ o (fun z=>(hch _ z).2.1 rfl) ho I.free
 ·obtain⟨v,o,ho,hd⟩:=I.cell x c e;exact free c o (fun z=>(hch c z).2.2.1 x c e rfl) ho (I.freeC x c e)
 ·obtain⟨e,n,ne,nf,d⟩:=I.pin p hp;have nch:p.1∉ch:=fun z=>(hch p.1 z).2.2.2 p hp rfl;exact⟨keep p.1 p.2 ne nf nch e n,free p.1 p.2 nch e n,ne,nf,d⟩
theorem Inv.un{t':Nat}(I:Inv X pins σ H s)(u:Un X.fs [] H H' s.heap h')(hok:HOk X.prog X.w H' h'):Inv X pins σ H' { s with heap:=h',toks:=t' }:=by
 obtain⟨m,⟨o,es,ep,ho,r⟩,_⟩:=id I.loc;obtain⟨sl,hL⟩:=u.any ho I.free (by simp);exact I.step (g':=s.gens) (d':=s.drawn) (ch:=[]) (fun _ z=>nomatch z) (fun b o _ hb _ e n=>u.keep b o e n hb (by simp)) (fun b o _ hb _ e n=>u.slot b o e n hb (by simp)) (fun b o _ e n=>u.free b o e n (by simp)) (fun b o _ e=>u.there b o e (by simp)) u.tups u.frzs u.tbls (fun m' hm=>by
  obtain⟨o',es',ep',ho',r'⟩:=hm;rw[ho]at ho';cases ho';exact⟨_,es',ep',hL,r'⟩) hok I.bare
theorem Inv.call{g':Array GenState}{t':Nat}{d':Drawn}{ch:List Addr}(I:Inv X pins σ H s)(u:Un (frs X.stack) ch H H' s.heap h')(hok:HOk X.prog X.w H' h')(hg:AllBare g')
  (hch:∀b∈ch,(b∈X.ex\/X.s₀.heap.objs.size<=b)/\b≠X.env.locals/\(∀x c,X.env.cells.lookup x=some c->c≠b)/\∀p∈X.pn++pins,p.1≠b) :
  Inv X pins σ H' { s with heap:=h',gens:=g',drawn:=d',toks:=t' }:=by
 obtain⟨m,⟨o,es,ep,ho,r⟩,_⟩:=id I.loc;obtain⟨sl,hL⟩:=u.any ho I.free fun z=>(hch _ z).2.1 rfl;exact I.step (ch:=ch) hch (fun b o hL hb hc e n=>u.keep b o e n (fun z=>(QM.mp (I.stkSub b z)).elim hL hb) hc) (fun b o _ _ hc e n=>u.any e n hc) (fun b o hc e n=>u.free b o e n hc) (fun b o hc e=>u.there b o e hc) u.tups u.frzs u.tbls (fun m' hm=>by
  obtain⟨o',es',ep',ho',r'⟩:=hm;rw[ho]at ho';cases ho';exact⟨_,es',ep',hL,r'⟩) hok hg
theorem Inv.turned{t':Nat}{it:Addr}(I:Inv X pins σ H s)(k:∀b o,b≠it->s.heap.get? b=some o->h'.get? b=some o)(hn:H it=none)(hL:it≠X.env.locals)
  (h1:it∈X.ex\/X.s₀.heap.objs.size<=it) (h2:∀x c,X.env.cells.lookup x=some c->c≠it) (h3:∀p∈X.pn++pins,p.1≠it):Inv X pins σ H { s with heap:=h',toks:=t' }:=by
 have nit:∀b u,H b=some u->b≠it:=fun b u e z=>by rw[z,hn]at e;cases e
 refine I.step (g':=s.gens) (d':=s.drawn) (ch:=[it]) (fun b hb=>?_) (fun b o _ _ hc e _=>k b o (fun z=>hc (by simp[z])) e) (fun b o _ _ hc e _=>⟨o.slots,k b o (fun z=>hc (by simp[z])) e⟩) (fun _ _ _ _ n=>n)
  (fun b o hc e=>⟨o,k b o (fun z=>hc (by simp[z])) e⟩) (fun _ _ e=>e) (fun _ _ _ e=>e) (fun b ps e=>⟨#[],by rw[e];simp⟩) (fun m hm=>?_) (fun b u e=>?_) I.bare
 ·have e:b=it:=by simpa using hb
  subst e;exact⟨h1,hL,h2,h3⟩
 ·obtain⟨o,es,ep,ho,r⟩:=hm;exact⟨o,es,ep,k _ o (Ne.symm hL) ho,r⟩
 ·refine(I.hok b u e).stay (fun c v hc q=>k c v ?_ q) (fun _ q=>q) fun _ _ q=>q;rcases hc with z|z
  ·rw[z];exact nit b u e
  ·exact nit c _ z
def Inv.tok(I:Inv X pins σ H s)(t:Nat):Inv X pins σ H { s with toks:=t }:=I.un (h':=s.heap) (t':=t) Un.refl I.hok
theorem Inv.kept{t':Nat}(I:Inv X pins σ H s)(k:∀b u,s.heap.get? b=some u->h'.get? b=some u):Inv X pins σ H { s with heap:=h',toks:=t' }:=I.un (Un.kept k) (I.hok.kept k)
theorem Inv.laid{a:Addr}{o:HO}{t':Nat}(I:Inv X pins σ H s)(k:∀b u,s.heap.get? b=some u->h'.get? b=some u)(hp:s.heap.objs.size<=a)(new:c8 X.prog X.w (upd H a o) h' a o) :
  Inv X pins σ (upd H a o) { s with heap:=h',toks:=t' }:=I.un (Un.laid k hp (I.hok.fresh hp)) (I.hok.laid k hp new)
theorem Inv.write{x e:Addr}{o:HO}{t':Nat}(I:Inv X pins σ H s)(mu:Mut (H x))(he:e=x\/H e=some (.own x))(k:∀b u,b≠e->s.heap.get? b=some u->h'.get? b=some u)(heo:∃u,h'.get? e=some u)
  (new:c8 X.prog X.w (upd H x o) h' x o):Inv X pins σ (upd H x o) { s with heap:=h',toks:=t' }:=I.un (Un.write mu he k heo) (I.hok.write mu he k heo new)
theorem Inv.pins_of{pins':List (Addr×Obj)}(I:Inv X pins σ H s)(h:∀p∈pins',s.heap.get? p.1=some p.2/\H p.1=none/\p.1≠X.env.locals/\p.1∉X.fs/\∀v,p.2.data≠.cell v):Inv X pins' σ H s:=
 ⟨I.ok,I.os,I.bare,I.base,I.loc,I.cell,I.free,I.freeC,fun p hp=>(Qw.mp hp).elim (fun z=>I.pin p (ZZ _ z)) (h p),I.hok,I.len⟩
theorem rl{N:List Str}(hN:N.Nodup){i j:Nat}{x:Str}(a:N[i]?=some x)(b:N[j]?=some x):i=j:=by
 obtain⟨h1,e1⟩:=Q6.mp a;obtain⟨h2,e2⟩:=Q6.mp b;exact(List.getElem_inj hN).mp (e1.trans e2.symm)
theorem nL{M:Model}{A:Qa}{E:Q2->Q3->Prop}{i:Nat}{x:Str}{v:V}{u:Q2}{Q:Unit->Q3->Prop}(I:Inv X pins σ H s)(hN:X.N.Nodup)(hi:X.N[i]?=some x)(hx:Loc X.env.scope x)(r:bR v u)
  (h:∀s',Inv X pins (σ.set i (some v)) H s'->(∃a,Heap.SameBut a s.heap s'.heap/\(a=X.env.locals\/X.env.cells.lookup x=some a))->Q () s') (hf:X.fn x=true\/X.env.scope.names.lookup x=some .local:=by first|exact .inl rfl|exact .inr rfl|assumption):wpAny M A (storeName X.env x u) Q E s:=by
 obtain⟨m,hn,hl⟩:=id I.loc;have hcls:(X.env.scope.kind == .class||(X.env.scope.kind == .module&&X.env.locals !=X.env.globals))=false:=by rw[I.ok.kind];rfl
 have hiσ:i < σ.length:=by rw[I.len];exact(Q6.mp hi).1
 have cne:=I.cne;have tracked:∀{a:Addr} {h':Heap},(∃o,s.heap.get? a=some o/\H a=none)->Heap.SameBut a s.heap h'->HOk X.prog X.w H h':=fun{a h'} ha hs b ob e=>by
  obtain⟨_,_,hfree⟩:=ha;refine(I.hok b ob e).stay (fun c w' hc q=>(hs.2 c ?_).trans q) (fun _ q=>q) fun _ _ q=>q;rintro rfl;rcases hc with rfl|hc
  ·rw[hfree]at e;cases e
  ·rw[hfree]at hc;cases hc
 rcases hx with hk|hk
 ·refine wpAny_storeName_local hk hn (fun h' hn' hs=>?_) hcls;obtain⟨oL,_,_,hoL,_⟩:=id hn;refine h _ ⟨I.ok,I.os,I.bare,⟨fun b o e n hb hx=>?_,fun b o e n hb hx=>?_,I.base.free,fun b o e hx=>?_,I.base.tups,I.base.frzs,I.base.tbls⟩,⟨_,hn',fun j y v' e1 e2 e3=>?_⟩,fun y c e=>?_,I.free,I.freeC,fun p hp=>?_,tracked ⟨oL,hoL,I.free⟩ hs,by simpa using I.len⟩ ⟨_,hs,.inl rfl⟩
  ·exact(hs.2 b (Qy (Qq (QK e) I.ok.above))).trans (I.base.keep b o e n hb hx)
  ·obtain⟨sl,e1⟩:=I.base.slot b o e n hb hx;exact⟨sl,(hs.2 b (Qy (Qq (QK e) I.ok.above))).trans e1⟩
  ·obtain⟨o',e1⟩:=I.base.there b o e hx;exact⟨o',(hs.2 b (Qy (Qq (QK e) I.ok.above))).trans e1⟩
  ·by_cases hj:j=i
   ·subst hj;rw[hi]at e1;cases e1;rw[List.getElem?_set_self hiσ]at e2;cases e2;exact⟨u,r,.inl ⟨hk,by simp⟩⟩
   ·rw[Qg (Ne.symm hj)]at e2;obtain⟨u',r',q⟩:=hl j y v' e1 e2 e3;refine⟨u',r',?_⟩;rcases q with⟨k,e⟩|⟨k,c,e,z⟩
    ·refine .inl ⟨k,?_⟩;have:y≠x:=fun e=>hj (rl hN e1 (e▸hi));simp[this,e]
    ·exact .inr ⟨k,c,e,z.sameBut hs (cne y c e)⟩
  ·obtain⟨w',z⟩:=I.cell y c e;exact⟨w',z.sameBut hs (cne y c e)⟩
  ·obtain⟨e,n,ne,nf,d⟩:=I.pin p hp;exact⟨(hs.2 p.1 ne).trans e,n,ne,nf,d⟩
 ·have hfn:X.fn x=true:=by
   rcases hf with z|z
   ·exact z
   ·rw[z]at hk;cases hk
  obtain⟨c,hc⟩:=I.ok.has x (.inl hk);obtain⟨w',z⟩:=I.cell x c hc;refine wpAny_storeName_cell I.ok.kind hk hc z (fun h' hc' hs=>?_);obtain⟨oc,hoc,hocd⟩:=id z;refine h { s with heap:=h' } ⟨I.ok,I.os,I.bare,⟨fun b o e n hb hx=>?_,fun b o e n hb hx=>?_,I.base.free,fun b o e hx=>?_,I.base.tups,I.base.frzs,I.base.tbls⟩,⟨m,hn.sameBut hs (Ne.symm (cne x c hc)),fun j y v' e1 e2 e3=>?_⟩,fun y c' e=>?_,I.free,I.freeC,fun p hp=>?_,tracked ⟨oc,hoc,I.freeC x c hc⟩ hs,by simpa using I.len⟩ ⟨c,hs,.inr hc⟩
  ·exact(hs.2 b (Qy (Qq (QK e) (I.ok.cab x c hfn hc)))).trans (I.base.keep b o e n hb hx)
  ·obtain⟨sl,e1⟩:=I.base.slot b o e n hb hx;exact⟨sl,(hs.2 b (Qy (Qq (QK e) (I.ok.cab x c hfn hc)))).trans e1⟩
  ·obtain⟨o',e1⟩:=I.base.there b o e hx;exact⟨o',(hs.2 b (Qy (Qq (QK e) (I.ok.cab x c hfn hc)))).trans e1⟩
  ·by_cases hj:j=i
   ·subst hj;rw[hi]at e1;cases e1;rw[List.getElem?_set_self hiσ]at e2;cases e2;exact⟨u,r,.inr ⟨.inl hk,c,hc,hc'⟩⟩
   ·rw[Qg (Ne.symm hj)]at e2;obtain⟨u',r',q⟩:=hl j y v' e1 e2 e3;refine⟨u',r',?_⟩;rcases q with q|⟨k,c',e,z'⟩
    ·exact .inl q
    ·refine .inr ⟨k,c',e,z'.sameBut hs ?_⟩;rintro rfl;exact hj (rl hN e1 (I.ok.inj _ _ _ e hc▸hi))
  ·by_cases hcc:c'=c
   ·subst hcc;exact⟨_,hc'⟩
   ·obtain⟨w2,z2⟩:=I.cell y c' e;exact⟨w2,z2.sameBut hs hcc⟩
  ·obtain⟨e,n,ne,nf,d⟩:=I.pin p hp;refine⟨(hs.2 p.1 ?_).trans e,n,ne,nf,d⟩;intro q;rw[q,hoc]at e;have q':oc=p.2:=Option.some.inj e;exact d w' (by rw[<-q'];exact hocd)
theorem qP{M:Model}{A:Qa}{E:Q2->Q3->Prop}{i:Nat}{x:Str}{v:V}{u:Q2}{Q:Unit->Q3->Prop}(I:Inv X pins σ H s)(hN:X.N.Nodup)(hi:X.N[i]?=some x)(hx:Loc X.env.scope x)(r:bR v u)
  (h:∀s',Inv X pins (σ.set i (some v)) H s'->Q () s') (hf:X.fn x=true\/X.env.scope.names.lookup x=some .local:=by first|exact .inl rfl|exact .inr rfl|assumption):wpAny M A (storeName X.env x u) Q E s:=
 nL I hN hi hx r (fun s' I' _=>h s' I') hf
theorem Inv.call'{s':Q3}{ch:List Addr}(I:Inv X pins σ H s)(ho:s'.os=s.os)(u:Un (frs X.stack) ch H H' s.heap s'.heap)(hok:HOk X.prog X.w H' s'.heap)(hg:AllBare s'.gens)
  (hch:∀b∈ch,(b∈X.ex\/X.s₀.heap.objs.size<=b)/\b≠X.env.locals/\(∀x c,X.env.cells.lookup x=some c->c≠b)/\∀p∈X.pn++pins,p.1≠b):Inv X pins σ H' s':=by
 obtain⟨h',g',d',t',o'⟩:=s';have e:o'=s.os:=ho;subst e;exact I.call (g':=g') (t':=t') (d':=d') u hok hg hch
end
abbrev XK:=Q2->Option Addr->Hp->Prop
abbrev St:=List (Option V)
abbrev VK:=V->Hp->Prop
abbrev TE:=St->Hp->VK->Prop
abbrev TT:=St->Hp->(Bool->Hp->Prop)->Prop
abbrev TA:=St->Hp->(List V->Hp->Prop)->Prop
structure xg where
 nx:St->Hp->Prop
 rt:VK
 bk:St->Hp->Prop:=fun _ _=>False
 ct:St->Hp->Prop:=fun _ _=>False
abbrev TS:=xg->St->Hp->Prop
def EP(X:Cx)(pins:List (Addr×Obj))(σ:St)(Q:VK)(u:Q2)(s':Q3):Prop:=∃v H',Inv X pins σ H' s'/\bR v u/\Q v H'
def TP(X:Cx)(pins:List (Addr×Obj))(σ:St)(Q:Bool->Hp->Prop)(b:Bool)(s':Q3):Prop:=∃H',Inv X pins σ H' s'/\Q b H'
def AP(X:Cx)(pins:List (Addr×Obj))(σ:St)(Q:List V->Hp->Prop)(us:List Q2)(s':Q3):Prop:=∃vs H',Inv X pins σ H' s'/\bD vs us/\Q vs H'
def SP(X:Cx)(pins:List (Addr×Obj))(D:xg)(f:Flow)(s':Q3):Prop:=
 match f with
 |.next=>∃σ' H',Inv X pins σ' H' s'/\D.nx σ' H'
 |.brk=>∃σ' H',Inv X pins σ' H' s'/\D.bk σ' H'
 |.cont=>∃σ' H',Inv X pins σ' H' s'/\D.ct σ' H'
 |.ret u=>∃v σ' H',Inv X pins σ' H' s'/\bR v u/\D.rt v H'
def PE(X:Cx)(e:QC)(t:TE):Prop:=
 ∀(pins:List (Addr×Obj)) (s:Q3) (σ:St) (H:Hp) (Q:VK),Inv X pins σ H s->t σ H Q->wpAny (Qj X.prog X.w) X.A (eval e X.env) (EP X pins σ Q) X.xe s
def PT(X:Cx)(e:QC)(t:TT):Prop:=
 ∀(pins:List (Addr×Obj)) (s:Q3) (σ:St) (H:Hp) (Q:Bool->Hp->Prop),Inv X pins σ H s->t σ H Q->wpAny (Qj X.prog X.w) X.A (isTrue e X.env (eval e X.env)) (TP X pins σ Q) X.xe s
def PW(X:Cx)(e:QC)(t:TT):Prop:=
 ∀(whole:Sem Q2) (pins:List (Addr×Obj)) (s:Q3) (σ:St) (H:Hp) (Q:Bool->Hp->Prop),Inv X pins σ H s->t σ H Q->wpAny (Qj X.prog X.w) X.A (isTrue e X.env whole) (TP X pins σ Q) X.xe s
def PW.pt{X:Cx}{e:QC}{t:TT}(h:PW X e t):PT X e t:=h _
def PA(X:Cx)(es:List QC)(t:TA):Prop:=
 ∀(pos:Pos) (pins:List (Addr×Obj)) (s:Q3) (σ:St) (H:Hp) (Q:List V->Hp->Prop),Inv X pins σ H s->t σ H Q->wpAny (Qj X.prog X.w) X.A (spliced (ZQ pos (QJ es X.env))) (AP X pins σ Q) X.xe s
def PS(X:Cx)(st:Z0)(t:TS):Prop:=
 ∀(pins:List (Addr×Obj)) (s:Q3) (σ:St) (H:Hp) (D:xg),Inv X pins σ H s->t D σ H->wpAny (Qj X.prog X.w) X.A (exec st X.env) (SP X pins D) X.xe s
def PSs(X:Cx)(st:List Z0)(t:TS):Prop:=
 ∀(pins:List (Addr×Obj)) (s:Q3) (σ:St) (H:Hp) (D:xg),Inv X pins σ H s->t D σ H->wpAny (Qj X.prog X.w) X.A (execs st X.env) (SP X pins D) X.xe s
theorem thn{α:Type}{t:Sem α}{Q Q':α->Q3->Prop}{M:Model}{A:Qa}{E:Q2->Q3->Prop}{s:Q3}(h:wpAny M A t Q E s)(hQ:∀a s,Q a s->Q' a s):wpAny M A t Q' E s:=ZX h hQ fun _ _ x=>x
section
variable{X:Cx}
def FY(i:Nat):TE:=fun σ H Q=>∃v,σ[i]?=some (some v)/\Q v H
def tC(v:V):TE:=fun _ H Q=>Q v H
theorem Ez{i:Nat}{x:Str}{pos:Pos}(hN:X.N[i]?=some x)(hv:Vis X.env.scope x)(hd:(x == ("__debug__":Str))=false:=by decide)(hcd:(x == ("__classdict__":Str))=false:=by decide):PE X (.Name x pos) (FY i):=by
 intro pins s σ H Q I h;obtain⟨v,e,h⟩:=h;obtain⟨m,hn,hl⟩:=I.loc;obtain⟨u,r,l⟩:=hl i x v hN e hv;have fin:EP X pins σ Q u s:=⟨v,H,I,r,h⟩;rcases l with⟨hk,hm⟩|⟨hk,c,hc,hcell⟩
 ·exact wpAny_Name (wpAny_loadName_local I.ok.kind hk hn hm fin) hd
 ·rcases hk with hk|hk
  ·exact wpAny_Name (wpAny_loadName_cell I.ok.kind hk hc hcell fin) hd
  ·exact wpAny_Name (wpAny_loadName_free I.ok.kind hk hc hcell fin hcd) hd
theorem EF{i j pos}:PE X (.Constant (.int i) j pos) (tC (.int i)):=fun _ _ _ H _ I h=>wpAny_Constant_int ⟨.int i,H,I.tok _,⟨_,rfl⟩,h⟩
def HI{b j pos}:PE X (.Constant (.bool b) j pos) (tC (.bl b)):=fun _ _ _ H _ I h=>Constant_bool ⟨.bl b,H,I,rfl,h⟩
def ED{j pos}:PE X (.Constant .none j pos) (tC .non):=fun _ _ _ H _ I h=>Constant_none ⟨.non,H,I,rfl,h⟩
theorem EB{x j pos}:PE X (.Constant (.str x) j pos) (tC (.str x)):=fun _ _ _ H _ I h=>Calls.Constant_str ⟨.str x,H,I.tok _,⟨_,rfl⟩,h⟩
def Gl(X:Cx)(x:Str):Prop:=X.env.kindOf x=some .globalImplicit
theorem pW{E:Q2->Q3->Prop}{pins:List (Addr×Obj)}{s:Q3}{σ:St}{H:Hp}{x:Str}{u:Q2}{pos:Pos}{Q:Q2->Q3->Prop}(I:Inv X pins σ H s)(hg:Gl X x)(hm:X.mg x=some u)(h:Q u s)
  (hd:(x == ("__debug__":Str))=false:=by decide):wpAny (Qj X.prog X.w) X.A (eval (.Name x pos) X.env) Q E s:=
 Calls.Name_function_global I.ok.kind hg (Calls.loadGlobal_global (by rw[I.ok.glob];exact I.mod.glob.keeps I.bk) hm h) hd
theorem kq{E:Q2->Q3->Prop}{pins:List (Addr×Obj)}{s:Q3}{σ:St}{H:Hp}{x:Str}{u:Q2}{pos:Pos}{Q:Q2->Q3->Prop}(I:Inv X pins σ H s)(hg:Gl X x)(hm:X.mg x=none)(hv:Z7 x=some u)(h:Q u s)
  (hn:x≠"__name__":=by decide) (hd:(x == ("__debug__":Str))=false:=by decide):wpAny (Qj X.prog X.w) X.A (eval (.Name x pos) X.env) Q E s:=by
 obtain⟨mb,h1,h2⟩:=I.mod.blt;exact Calls.Name_function_global I.ok.kind hg (Calls.loadGlobal_builtin (by rw[I.ok.glob];exact I.mod.glob.keeps I.bk) hm (by rw[I.ok.blt];exact h1.keeps I.bk) ((h2 x hn).trans hv) h) hd
variable{a b:QC}{ta tb:TE}{pos:Pos}
def PC(X:Cx)(op:CmpOp)(a b:QC)(t:TE):Prop:=
 ∀(pins:List (Addr×Obj)) (s:Q3) (σ:St) (H:Hp) (Q:VK),Inv X pins σ H s->t σ H Q->
  wpAny (Qj X.prog X.w) X.A (eval a X.env) (fun v s₁=>wpAny (Qj X.prog X.w) X.A (eval b X.env) (fun u s₂=>wpAny (Qj X.prog X.w) X.A (compareOp op v u) (EP X pins σ Q) X.xe s₂) X.xe s₁) X.xe s
def tB(t:TE):TT:=fun σ H Q=>t σ H fun x H1=>∃c,x=.bl c/\Q c H1
theorem Eo{op:CmpOp}{t:TE}(h:PC X op a b t)(h1:behindInMarks op b=false:=by first|exact nobehind _ (by decide) (by decide)|rfl):PT X (.Compare a [op] [b] pos) (tB t):=by
 intro pins s σ H Q I hw;refine wpAny_isTrue_Compare1 (thn (h pins s σ H _ I hw) fun v s1 h1=>thn h1 fun u s2 h2=>thn h2 fun c s3 hz=>?_) h1;obtain⟨x,H1,I1,r1,q1⟩:=hz;obtain⟨d,rfl,q⟩:=q1;cases r1;exact wpAny_truthy_bool ⟨H1,I1,q⟩
theorem Em{e:QC}{t:TE}(h:PE X e t)(he:∀whole,isTrue e X.env whole=(do let v <-whole;standAt e.pos;holding [v] (truthy v)):=by intro _;rfl):PT X e (tB t):=by
 intro pins s σ H Q I hw;refine isTrue_plain (thn (h pins s σ H _ I hw) fun v s1 ⟨x,H1,I1,r1,q1⟩=>?_) (he _);obtain⟨d,rfl,q⟩:=q1;cases r1;exact wpAny_truthy_bool ⟨H1,I1,q⟩
variable{tA tB':TT}{rest:List QC}
def IZ(t u:TT):TT:=fun σ H Q=>t σ H fun c H1=>if c=true then u σ H1 Q else Q false H1
def tOr(t u:TT):TT:=fun σ H Q=>t σ H fun c H1=>if c=true then Q true H1 else u σ H1 Q
def IV(t:TT):TT:=fun σ H Q=>t σ H fun c H1=>Q (!c) H1
theorem Bx(ha:PT X a tA):PW X (.BoolOp .And [a] pos) tA:=by
 intro wh pins s σ H Q I h;refine isTrue_and (thn (ha pins s σ H Q I h) fun c s1 e=>?_);cases c with
 |true=>exact isTrue_and_nil e
 |false=>exact e
theorem Ek(ha:PT X a tA):PW X (.BoolOp .Or [a] pos) tA:=by
 intro wh pins s σ H Q I h;refine isTrue_or (thn (ha pins s σ H Q I h) fun c s1 e=>?_);cases c with
 |false=>exact isTrue_or_nil e
 |true=>exact e
theorem El(ha:PT X a tA)(hb:PW X (.BoolOp .And (b::rest) pos) tB'):PW X (.BoolOp .And (a::b::rest) pos) (IZ tA tB'):=by
 intro wh pins s σ H Q I h;refine isTrue_and (thn (ha pins s σ H _ I h) fun c s1 ⟨H1,I1,q1⟩=>?_);cases c with
 |true=>exact hb wh pins s1 σ H1 Q I1 q1
 |false=>exact⟨H1,I1,q1⟩
theorem HA(ha:PT X a tA)(hb:PW X (.BoolOp .Or (b::rest) pos) tB'):PW X (.BoolOp .Or (a::b::rest) pos) (tOr tA tB'):=by
 intro wh pins s σ H Q I h;refine isTrue_or (thn (ha pins s σ H _ I h) fun c s1 ⟨H1,I1,q1⟩=>?_);cases c with
 |true=>exact⟨H1,I1,q1⟩
 |false=>exact hb wh pins s1 σ H1 Q I1 q1
theorem En(ha:PT X a tA):PT X (.UnaryOp .Not a pos) (IV tA):=by
 intro pins s σ H Q I h;exact isTrue_not (ha pins s σ H (fun c H1=>Q (!c) H1) I h)
def D7(ta tb:TE):TE:=fun σ H Q=>ta σ H fun x H1=>∃c,x=.bl c/\if c=true then tb σ H1 Q else Q (.bl false) H1
def IU(ta tb:TE):TE:=fun σ H Q=>ta σ H fun x H1=>∃c,x=.bl c/\if c=true then Q (.bl true) H1 else tb σ H1 Q
def EC{op}{t:TE}(h:PE X a t):PE X (.BoolOp op [a] pos) t:=fun pins s σ H Q I hw=>BoolOp_one (h pins s σ H Q I hw)
theorem EH(ha:PE X a ta)(hb:PE X (.BoolOp .And (b::rest) pos) tb):PE X (.BoolOp .And (a::b::rest) pos) (D7 ta tb):=by
 intro pins s σ H Q I h;refine BoolOp_and (thn (ha pins s σ H _ I h) fun v s1 hz=>?_);obtain⟨x,H1,I1,r1,q1⟩:=hz;obtain⟨c,rfl,q1⟩:=q1;cases r1;refine wpAny_truthy_bool ?_;cases c with
 |true=>exact hb pins s1 σ H1 Q I1 q1
 |false=>exact⟨.bl false,H1,I1,rfl,q1⟩
theorem HE(ha:PE X a ta)(hb:PE X (.BoolOp .Or (b::rest) pos) tb):PE X (.BoolOp .Or (a::b::rest) pos) (IU ta tb):=by
 intro pins s σ H Q I h;refine BoolOp_or (thn (ha pins s σ H _ I h) fun v s1 hz=>?_);obtain⟨x,H1,I1,r1,q1⟩:=hz;obtain⟨c,rfl,q1⟩:=q1;cases r1;refine wpAny_truthy_bool ?_;cases c with
 |false=>exact hb pins s1 σ H1 Q I1 q1
 |true=>exact⟨.bl true,H1,I1,rfl,q1⟩
end
def SqL(K:Q1)(H:Hp)(a:Addr)(xs:List V):Prop:=
 Rd H a (.lst xs)\/
  ∃(o:Obj) (its:Array Q2) (n:Nat),K.lookup a=some o/\o.cls=.type "list"/\o.dict=none/\o.data=.seq its n/\its.size<=QD/\bD xs its.toList
def SqT(K:Q1)(H:Hp)(a:Addr)(xs:List V):Prop:=
 Rd H a (.tup xs)\/
  ∃(o:Obj) (its:Array Q2) (n:Nat),K.lookup a=some o/\(o.cls=.type "tuple"/\o.dict=none)/\o.data=.seq its n/\its.size<=QD/\bD xs its.toList
def JZ:Q2->Option V
 |.none=>some .non
 |.bool b=>some (.bl b)
 |.int i _=>some (.int i)
 |.str x _=>some (.str x)
 |.bytes b _=>some (.byt b)
 |.float b _=>some (.flt b)
 |.ref a=>some (.ref a)
 |.type n=>some (.ty n)
 |_=>none
theorem bR.abs{x:V}{u:Q2}(r:bR x u):JZ u=some x:=by
 cases x with
 |non=>cases r;rfl
 |bl _=>cases r;rfl
 |int _=>obtain⟨t,rfl⟩:=r;rfl
 |str _=>obtain⟨t,rfl⟩:=r;rfl
 |byt _=>obtain⟨t,rfl⟩:=r;rfl
 |flt _=>obtain⟨t,rfl⟩:=r;rfl
 |ref _=>cases r;rfl
 |ty _=>cases r;rfl
def bR.inj{x y:V}{u:Q2}(r:bR x u)(q:bR y u):x=y:=Option.some.inj (r.abs.symm.trans q.abs)
theorem bD.inj:∀{xs ys:List V} {us:List Q2},bD xs us->bD ys us->xs=ys
 |_,_,_,.nil,.nil=>rfl
 |_,_,_,.cons r t,.cons r' t'=>by rw[r.inj r',bD.inj t t']
section
variable{X:Cx}{pins:List (Addr×Obj)}{σ:St}{H:Hp}{s:Q3}{a:Addr}{xs ys:List V}
def SqL.of{K:Q1}(h:H a=some (.lst xs)):SqL K H a xs:=.inl (.inl h)
def SqT.of{K:Q1}(h:H a=some (.tup xs)):SqT K H a xs:=.inl (.inl h)
theorem Inv.list(I:Inv X pins σ H s)(h:SqL X.K H a xs):∃its:List Q2,bD xs its/\PlainL s.heap a its.toArray/\xs.length<=QD:=by
 rcases h with h|⟨o,its,n,hk,hc,hd,hs,hz,r⟩
 ·obtain⟨z,its,n,r,e⟩:=h.ok I.hok;exact⟨its,r,⟨_,n,e,rfl,rfl,rfl⟩,z⟩
 ·refine⟨its.toList,r,⟨o,n,I.kIn a o hk,hc,hd,by simpa using hs⟩,?_⟩;have e:=r.length;simp only[Qh]at e;omega
theorem Inv.tuple(I:Inv X pins σ H s)(h:SqT X.K H a xs):∃its:List Q2,bD xs its/\IsTup s.heap a its.toArray/\xs.length<=QD:=by
 rcases h with h|⟨o,its,n,hk,hc,hs,hz,r⟩
 ·obtain⟨z,its,r,p⟩:=h.ok I.hok;exact⟨its,r,p.tup,z⟩
 ·refine⟨its.toList,r,⟨o,I.kIn a o hk,hc.1,n,by simpa using hs⟩,?_⟩;have e:=r.length;simp only[Qh]at e;omega
theorem Inv.list_inj(I:Inv X pins σ H s)(h:SqL X.K H a xs)(h':SqL X.K H a ys):xs=ys:=by
 obtain⟨its,r,⟨o,n,e,_,_,d⟩,_⟩:=I.list h;obtain⟨its',r',⟨o',n',e',_,_,d'⟩,_⟩:=I.list h';rw[e]at e';cases e';rw[d]at d';injection d' with d1 _;have:its=its':=by simpa using congrArg Array.toList d1
 subst this;exact r.inj r'
theorem Inv.tuple_inj(I:Inv X pins σ H s)(h:SqT X.K H a xs)(h':SqT X.K H a ys):xs=ys:=by
 obtain⟨its,r,⟨o,e,_,n,d⟩,_⟩:=I.tuple h;obtain⟨its',r',⟨o',e',_,n',d'⟩,_⟩:=I.tuple h';rw[e]at e';cases e';rw[d]at d';injection d' with d1 _;have:its=its':=by simpa using congrArg Array.toList d1
 subst this;exact r.inj r'
end
abbrev Cx.wish(X:Cx)(E:Q2->Q3->Prop):Cx:={ X with xe:=E }
abbrev Cx.nox(X:Cx):Cx:=X.wish fun _ _=>False
theorem Cx.Ok.wish{X:Cx}(ok:X.Ok)(E:Q2->Q3->Prop):(X.wish E).Ok:=
 ⟨ok.mod,ok.kind,ok.glob,ok.blt,ok.above,ok.inj,ok.has,ok.cab,ok.hd,ok.frames,ok.stk,ok.exf,ok.bs,ok.bsz,ok.noex,ok.exfs,ok.funs,ok.frf⟩
theorem Cx.Ok.unwish{X:Cx}{E:Q2->Q3->Prop}(ok:(X.wish E).Ok):X.Ok:=
 ⟨ok.mod,ok.kind,ok.glob,ok.blt,ok.above,ok.inj,ok.has,ok.cab,ok.hd,ok.frames,ok.stk,ok.exf,ok.bs,ok.bsz,ok.noex,ok.exfs,ok.funs,ok.frf⟩
section
variable{X:Cx}{pins:List (Addr×Obj)}{σ:St}{H:Hp}{s:Q3}{E:Q2->Q3->Prop}
theorem Inv.wish(I:Inv X pins σ H s)(E:Q2->Q3->Prop):Inv (X.wish E) pins σ H s:=⟨I.ok.wish E,I.os,I.bare,I.base,I.loc,I.cell,I.free,I.freeC,I.pin,I.hok,I.len⟩
theorem Inv.unwish(I:Inv (X.wish E) pins σ H s):Inv X pins σ H s:=⟨I.ok.unwish,I.os,I.bare,I.base,I.loc,I.cell,I.free,I.freeC,I.pin,I.hok,I.len⟩
theorem SP.unwish{D:xg}{f:Flow}{s':Q3}(h:SP (X.wish E) pins D f s'):SP X pins D f s':=by
 cases f with
 |next=>obtain⟨σ',H',I,q⟩:=h;exact⟨σ',H',I.unwish,q⟩
 |brk=>obtain⟨σ',H',I,q⟩:=h;exact⟨σ',H',I.unwish,q⟩
 |cont=>obtain⟨σ',H',I,q⟩:=h;exact⟨σ',H',I.unwish,q⟩
 |ret u=>obtain⟨v,σ',H',I,r,q⟩:=h;exact⟨v,σ',H',I.unwish,r,q⟩
theorem PSs.nox{st:List Z0}{t:TS}(h:PSs X.nox st t):PSs X st t:=fun pins s σ H D I hw=>
 ZX (h pins s σ H D (I.wish _) hw) (fun _ _ q=>q.unwish) fun _ _ z=>False.elim z
end
section
variable{X:Cx}{st:Z0}{rest:List Z0}{t u:TS}{e:QC}{te:TE}{pos:Pos}
def DZ:TS:=fun D σ H=>D.nx σ H
def IS(t u:TS):TS:=fun D σ H=>t { D with nx:=u D } σ H
def BC:PSs X [] DZ:=fun _ _ σ H _ I h=>wpAny_execs_nil ⟨σ,H,I,h⟩
theorem xW(h1:PS X st t)(h2:PSs X rest u):PSs X (st::rest) (IS t u):=by
 intro pins s σ H D I h;refine wpAny_execs_cons (thn (h1 pins s σ H { D with nx:=u D } I h) fun f s1 q=>?_);cases f with
 |next=>
  obtain⟨σ',H',I',q⟩:=q;exact h2 pins s1 σ' H' D I' q
 |ret v=>exact q
 |brk=>exact q
 |cont=>exact q
theorem BB(h1:PS X st t):PSs X [st] t:=by
 intro pins s σ H D I h;refine wpAny_execs_cons (thn (h1 pins s σ H D I h) fun f s1 q=>?_);cases f with
 |next=>exact wpAny_execs_nil q
 |ret v=>exact q
 |brk=>exact q
 |cont=>exact q
theorem Inv.quiet{pins:List (Addr×Obj)}{σ:St}{H:Hp}{s:Q3}(I:Inv X pins σ H s):interactive X.env=false:=by simp[interactive,I.ok.kind]
def D0(te:TE):TS:=fun D σ H=>te σ H fun _ H1=>D.nx σ H1
theorem BD(he:PE X e te)(hs:ZP e none pos.line X.env=pure false:=by rfl):PS X (.Expr e pos) (D0 te):=by
 intro pins s σ H D I h;exact wpAny_Expr_any (thn (he pins s σ H _ I h) fun v s1 ⟨x,H1,I1,r1,q1⟩=>⟨σ,H1,I1,q1⟩) I.quiet hs
def IT(te:TE):TS:=fun D σ H=>te σ H D.rt
theorem Er(he:PE X e te):PS X (.Return (some e) pos) (IT te):=by
 intro pins s σ H D I h;exact wpAny_Return_some (thn (he pins s σ H _ I h) fun v s1 ⟨x,H1,I1,r1,q1⟩=>⟨x,σ,H1,I1,r1,q1⟩)
def IX(c:TT)(t u:TS):TS:=fun D σ H=>c σ H fun b H1=>if b=true then t D σ H1 else u D σ H1
theorem HB{c:QC}{a b:List Z0}{tc:TT}(hc:PT X c tc)(ha:PSs X a t)(hb:PSs X b u):PS X (.If c a b pos) (IX tc t u):=by
 intro pins s σ H D I h;refine wpAny_If (thn (hc pins s σ H _ I h) fun d s1 ⟨H1,I1,q1⟩=>?_);cases d with
 |true=>exact ha pins s1 σ H1 D I1 q1
 |false=>exact hb pins s1 σ H1 D I1 q1
def zr:TS:=fun _ _ _=>False
def xX:PS X st zr:=fun _ _ _ _ _ _ h=>h.elim
end
abbrev TG:=V->St->Hp->(St->Hp->Prop)->Prop
abbrev TGs:=List V->St->Hp->(St->Hp->Prop)->Prop
def PG(X:Cx)(target:QC)(t:TG):Prop:=
 ∀(pins:List (Addr×Obj)) (s:Q3) (σ:St) (H:Hp) (v:V) (u:Q2) (Q:St->Hp->Prop),Inv X pins σ H s->bR v u->t v σ H Q->
  wpAny (Qj X.prog X.w) X.A (assign target X.env u) (fun _ s'=>∃σ' H',Inv X pins σ' H' s'/\Q σ' H') X.xe s
def PGs(X:Cx)(ts:List QC)(t:TGs):Prop:=
 ∀(pins:List (Addr×Obj)) (s:Q3) (σ:St) (H:Hp) (vs:List V) (us:List Q2) (Q:St->Hp->Prop),Inv X pins σ H s->bD vs us->t vs σ H Q->
  wpAny (Qj X.prog X.w) X.A (assignInOrder ((assignEach ts X.env).map (·.2)) us) (fun _ s'=>∃σ' H',Inv X pins σ' H' s'/\Q σ' H') X.xe s
abbrev Gm:=V->V->V->Hp->(Hp->Prop)->Prop
def IM(X:Cx)(t:Gm):Prop:=
 ∀(pins:List (Addr×Obj)) (s:Q3) (σ:St) (H:Hp) (o i v:V) (ov iv u:Q2) (Q:Hp->Prop),Inv X pins σ H s->bR o ov->bR i iv->bR v u->t o i v H Q->
  wpAny (Qj X.prog X.w) X.A (setItem ov iv u) (fun _ s'=>∃H',Inv X pins σ H' s'/\Q H') X.xe s
section
variable{X:Cx}{pos:Pos}
def sW(i:Nat):TG:=fun v σ H Q=>Q (σ.set i (some v)) H
theorem BJ{i:Nat}{x:Str}(hN:X.N.Nodup)(hi:X.N[i]?=some x)(hx:Loc X.env.scope x)(hf:X.fn x=true\/X.env.scope.names.lookup x=some .local:=by first|exact .inl rfl|exact .inr rfl|assumption):PG X (.Name x pos) (sW i):=by
 intro pins s σ H v u Q I r h;exact wpAny_assign_Name (qP I hN hi hx r (fun s' I'=>⟨_,H,I',h⟩) hf)
def Jq:TGs:=fun vs σ H Q=>vs=[]/\Q σ H
def Fu(t:TG)(u:TGs):TGs:=fun vs σ H Q=>∃v r,vs=v::r/\t v σ H fun σ' H'=>u r σ' H' Q
theorem BI:PGs X [] Jq:=by
 intro pins s σ H vs us Q I r h;obtain⟨e,h⟩:=h;subst e;cases r;exact assignInOrder_nil ⟨σ,H,I,h⟩
theorem xZ{e:QC}{es:List QC}{t:TG}{u:TGs}(h1:PG X e t)(h2:PGs X es u)
  (hs:(assignEach (e::es) X.env).map (·.2)=assign e X.env::(assignEach es X.env).map (·.2):=by rfl):PGs X (e::es) (Fu t u):=by
 intro pins s σ H vs us Q I r h;obtain⟨v,vr,e1,h⟩:=h;subst e1;cases r with
 |cons r rr=>
  rw[hs];refine assignInOrder_cons (thn (h1 pins s σ H _ _ _ I r h) fun _ s1 hz=>?_);obtain⟨σ1,H1,I1,q1⟩:=hz;exact h2 pins s1 σ1 H1 _ _ Q I1 rr q1
def Jo(K:Q1)(n:Nat)(t:TGs):TG:=fun v σ H Q=>∃a xs,v=.ref a/\SqT K H a xs/\xs.length=n/\t xs σ H Q
theorem Ex{es:List QC}{k:Nat}{t:TGs}{n:Nat}(hc:X.calm=true)(h:PGs X es t)
  (hn:(assignEach es X.env).length=n:=by rfl) (hst:(assignEach es X.env).findIdx? (·.1)=none:=by rfl):PG X (.Tuple es k pos) (Jo X.K n t):=by
 intro pins s σ H v u Q I r hw;obtain⟨a,xs,e1,hq,hl,hw⟩:=hw;subst e1;cases r;obtain⟨its,rv,ht,hz⟩:=I.tuple hq;refine assign_Tuple_tuple (I.ok.hd hc) ht (by simp[hn,<-hl,rv.length]) hst fun h' hx=>?_;have I1:Inv X pins σ H { s with heap:=h' }:=I.kept (t':=s.toks) fun b o e=>hx b o (Qy (QK e)) e;exact h pins _ σ H xs _ Q I1 (by simpa using rv) hw
def Jp(to ti:TE)(t:Gm):TG:=fun v σ H Q=>to σ H fun o H1=>ti σ H1 fun i H2=>t o i v H2 fun H3=>Q σ H3
theorem Ey{o i:QC}{to ti:TE}{t:Gm}(ho:PE X o to)(hi:PE X i ti)(hs:IM X t)
  (ha:∀v,assign (.Subscript o i pos) X.env v=(do
   let ov <-holding [v] (eval o X.env)
   let iv <-holding [v,ov] (eval i X.env)
   standAt pos
   holding [v,ov,iv] (setItem ov iv v)
   release [v,ov,iv] []):=by intro _;rfl):PG X (.Subscript o i pos) (Jp to ti t):=by
 intro pins s σ H v u Q I r h;rw[ha];refine Q5 (wpAny_holding (thn (ho pins s σ H _ I h) fun ov s1 hz=>?_));obtain⟨x,H1,I1,r1,q1⟩:=hz;refine Q5 (wpAny_holding (thn (hi pins s1 σ H1 _ I1 q1) fun iv s2 hz=>?_));obtain⟨y,H2,I2,r2,q2⟩:=hz;refine Q5 (wpAny_standAt (Q5 (wpAny_holding (thn (hs pins s2 σ H2 x y v ov iv u _ I2 r1 r2 r q2) fun _ s3 ⟨H3,I3,q3⟩=>?_))));exact wpAny_release ⟨σ,H3,I3,q3⟩
def D6(te:TE)(g:TG):TS:=fun D σ H=>te σ H fun x H1=>g x σ H1 D.nx
theorem Eu{tg e:QC}{te:TE}{g:TG}(he:PE X e te)(hg:PG X tg g)(hs:swapsWithSole [tg] e pos.line X.env=pure false:=by rfl)(hw:swappedStores [tg] e X.env=pure none:=by rfl)
  (h1:(assignEach [tg] X.env).map (·.2)=[assign tg X.env]:=by rfl):PS X (.Assign [tg] e pos) (D6 te g):=by
 intro pins s σ H D I h;refine wpAny_Assign_stores (thn (he pins s σ H _ I h) fun v s1 hz=>?_) hs hw;obtain⟨x,H1,I1,r1,q1⟩:=hz;rw[h1];exact thn (hg pins s1 σ H1 x v _ I1 r1 q1) fun _ s2 q=>q
theorem Ep{i:Nat}{x:Str}{e:QC}{te:TE}{pos':Pos}(hN:X.N.Nodup)(hi:X.N[i]?=some x)(hx:Loc X.env.scope x)(he:PE X e te)(hs:ZP e (some (.Name x pos')) pos.line X.env=pure false:=by rfl)(hf:X.fn x=true\/X.env.scope.names.lookup x=some .local:=by first|exact .inl rfl|exact .inr rfl|assumption) :
  PS X (.Assign [.Name x pos'] e pos) (D6 te (sW i)):=by
 intro pins s σ H D I h;refine wpAny_Assign_Name (thn (he pins s σ H _ I h) fun v s1 hz=>?_) hs;obtain⟨y,H1,I1,r1,q1⟩:=hz;exact qP I1 hN hi hx r1 (fun s2 I2=>⟨_,H1,I2,q1⟩) hf
end
structure It where
 go:Nat->Hp->Prop
 yld:Nat->Hp->V->Hp->Prop
 stop:Nat->Hp->Prop
def tH(X:Cx)(pins:List (Addr×Obj))(H:Hp)(b:Addr):Prop:=
 H b=none/\b≠X.env.locals/\b∉X.fs/\(b∈X.ex\/X.s₀.heap.objs.size<=b)/\(∀x c,X.env.cells.lookup x=some c->c≠b)/\∀p∈X.pn++pins,p.1≠b
theorem Inv.fpOk{X:Cx}{pins:List (Addr×Obj)}{σ:St}{H H':Hp}{s:Q3}{b:Addr}(I:Inv X pins σ H s)(hb:s.heap.objs.size<=b)(hn:H' b=none):tH X pins H' b:=by
 refine⟨hn,Nat.ne_of_gt (Qq I.lt hb),I.nofs hb,.inr (Qb I.sz hb),fun x c e z=>?_,fun p hp z=>?_⟩
 ·obtain⟨v,q⟩:=I.cell x c e;exact absurd (Qq q.lt (by rw[z];exact hb)) (ZC _)
 ·exact absurd (Qq (QK (I.pin p hp).1) (by rw[z];exact hb)) (ZC _)
structure C2(P:Qv)(w:Qe)(K:Q1)(tg:QC)(J:It)(fp:List Addr)(it:Addr)(tn:Nat->Heap->Prop):Prop where
 mem:it∈fp
 obj:∀i h,tn i h->∀b∈fp,∃o,h.get? b=some o/\∀v,o.data≠.cell v
 keep:∀i h h',tn i h->(∀b∈fp,∀o,h.get? b=some o->h'.get? b=some o)->tn i h'
 item:∀(X:Cx),X.prog=P->X.w=w->X.K=K->X.calm=true->∀(i:Nat) (pins:List (Addr×Obj)) (s:Q3) (σ:St) (H:Hp) (E:Q2->Q3->Prop),Inv X pins σ H s->(∀b∈fp,tH X pins H b)->tn i s.heap->J.go i H->
  wpAny (Qj P w) X.A (pyNext (.ref it)) (fun r s1=>∃u,r=some u/\
   wpAny (Qj P w) X.A (letOwnedTupleGo tg (.ref it) u) (fun _ s2=>∃x H',Inv X pins σ H' s2/\bR x u/\J.yld i H x H'/\tn (i+1) s2.heap/\∀b∈fp,H' b=none) E s1) E s
 done:∀(X:Cx),X.prog=P->X.w=w->X.K=K->X.calm=true->∀(i:Nat) (pins:List (Addr×Obj)) (s:Q3) (σ:St) (H:Hp) (E:Q2->Q3->Prop),Inv X pins σ H s->(∀b∈fp,tH X pins H b)->tn i s.heap->J.stop i H->
  wpAny (Qj P w) X.A (pyNext (.ref it)) (fun r s1=>r=none/\Inv X pins σ H s1) E s
 self:∀(A:Qa) (i:Nat) (s:Q3) (Q:Q2->Q3->Prop) (E:Q2->Q3->Prop),tn i s.heap->Q (.ref it) s->wpAny (Qj P w) A (pyIter (.ref it)) Q E s
abbrev TI:=St->Hp->(It->Hp->Prop)->Prop
def PIE(X:Cx)(pins:List (Addr×Obj))(σ:St)(tg:QC)(R:It->Hp->Prop)(itv:Q2)(s2:Q3):Prop:=
 ∃(it:Addr) (fp:List Addr) (tn:Nat->Heap->Prop) (J:It) (H':Hp),itv=.ref it/\Inv X pins σ H' s2/\C2 X.prog X.w X.K tg J fp it tn/\tn 0 s2.heap/\(∀b∈fp,tH X pins H' b)/\R J H'
def PI(X:Cx)(tg iter:QC)(wi:TI):Prop:=
 ∀(pins:List (Addr×Obj)) (s:Q3) (σ:St) (H:Hp) (R:It->Hp->Prop),Inv X pins σ H s->wi σ H R->
  wpAny (Qj X.prog X.w) X.A (eval iter X.env) (fun v s1=>wpAny (Qj X.prog X.w) X.A (pyIter v) (PIE X pins σ tg R) X.xe s1) X.xe s
theorem yE {M : Model} {A : Qa} {E : Q2 -> Q3 -> Prop} {s : Q3} {tg : QC} {it : Addr} {u : Q2} {o : Obj} {n : String} {vs : Array Q2} {Q : Unit -> Q3 -> Prop} (ho : s.heap.get? it = some o) (hc : o.cls = .type n) (hd : o.data = .fields vs)
    (hn:["enumerate","zip","dict_itemiterator","dict_reverseitemiterator","odict_iterator","itertools.zip_longest","itertools.pairwise"].contains n=false) (hQ:Q () s):wpAny M A (letOwnedTupleGo tg (.ref it) u) Q E s:=by
  unfold letOwnedTupleGo;cases tg<;>first
    |exact QL hQ
    | (cases u <;> first
        |exact QL hQ
        | (refine Q5 (wpAny_load ho ?_)
           rw[hc,hd];show wpAny M A (if (["enumerate","zip","dict_itemiterator","dict_reverseitemiterator","odict_iterator","itertools.zip_longest","itertools.pairwise"].contains n&&vs[0]? == some (rawInt _))=true then _ else _) Q E s;rw[if_neg (by intro h;rw[hn,Bool.false_and]at h;cases h)];exact QL hQ))
def Itl(K:Q1)(a:Addr):It:=
 ⟨fun i H=>∃xs x,SqL K H a xs/\xs[i]?=some x,fun i H x H'=>H'=H/\∀xs,SqL K H a xs->xs[i]?=some x,fun i H=>∃xs,SqL K H a xs/\xs.length<=i⟩
def Itt(K:Q1)(a:Addr):It:=
 ⟨fun i H=>∃xs x,SqT K H a xs/\xs[i]?=some x,fun i H x H'=>H'=H/\∀xs,SqT K H a xs->xs[i]?=some x,fun i H=>∃xs,SqT K H a xs/\xs.length<=i⟩
def Itr(lo:Int)(n:Nat):It:=⟨fun i _=>i<n,fun i H x H'=>H'=H/\x=.int (lo+i),fun i _=>n<=i⟩
theorem um{P:Qv}{w:Qe}{K:Q1}{tg:QC}(a it:Addr):C2 P w K tg (Itl K a) [it] it (fun i h=>h.IsListIter it a i) where
 mem:=by simp
 obj:=fun i h st b hb=>by
  have e:b=it:=by simpa using hb
  subst e;obtain⟨o,e,c,d⟩:=st;exact⟨o,e,fun v z=>by rw[d]at z;cases z⟩
 keep:=fun i h h' st k=>st.at fun o e=>k it (by simp) o e
 item:=by
  intro X hP hw hK hc i pins s σ H E I hf st hg;subst hP hw hK;obtain⟨xs,x,hq,hx⟩:=hg;obtain⟨its,rv,p,hz⟩:=I.list hq;obtain⟨u,hu,ru⟩:=rv.get hx;obtain⟨f0,f1,f2,f3,f4,f5⟩:=hf it (by simp);refine wpAny_pyNext_list_item st p.isList (x:=u) (by simpa using hu) fun h' st' sb=>?_;have I1:Inv X pins σ H { s with heap:=h' }:=I.turned (t':=s.toks) (fun b o hb e=>(sb.2 b hb).trans e) f0 f1 f3 f4 f5;obtain⟨o,e,c,d⟩:=id st';exact⟨u,rfl,yE (s:={ s with heap:=h' }) e c d (by decide) ⟨x,H,I1,ru,⟨rfl,fun ys hy=>by rw[I.list_inj hy hq];exact hx⟩,st',fun b hb=>(hf b hb).1⟩⟩
 done:=by
  intro X hP hw hK hc i pins s σ H E I hf st hg;subst hP hw hK;obtain⟨xs,hq,hx⟩:=hg;obtain⟨its,rv,p,hz⟩:=I.list hq;obtain⟨f0,f1,f2,f3,f4,f5⟩:=hf it (by simp);have hl:=rv.length;exact wpAny_pyNext_list_end (I.ok.hd hc) st p.isList (by simp;omega) fun h' eb=>⟨rfl,I.turned (t':=s.toks) (fun b o hb e=>eb b o hb e) f0 f1 f3 f4 f5⟩
 self:=fun _ _ _ _ _ st h=>wpAny_pyIter_listiter st h
theorem sG{P:Qv}{w:Qe}{K:Q1}{tg:QC}(a it:Addr):C2 P w K tg (Itt K a) [it] it (fun i h=>h.IsTupleIter it a i) where
 mem:=by simp
 obj:=fun i h st b hb=>by
  have e:b=it:=by simpa using hb
  subst e;obtain⟨o,e,c,d⟩:=st;exact⟨o,e,fun v z=>by rw[d]at z;cases z⟩
 keep:=fun i h h' st k=>st.at fun o e=>k it (by simp) o e
 item:=by
  intro X hP hw hK hc i pins s σ H E I hf st hg;subst hP hw hK;obtain⟨xs,x,hq,hx⟩:=hg;obtain⟨its,rv,p,hz⟩:=I.tuple hq;obtain⟨u,hu,ru⟩:=rv.get hx;obtain⟨f0,f1,f2,f3,f4,f5⟩:=hf it (by simp);refine wpAny_pyNext_tuple_item st (show s.heap.IsTuple a its.toArray from p) (x:=u) (by simpa using hu) fun h' st' sb=>?_;have I1:Inv X pins σ H { s with heap:=h' }:=I.turned (t':=s.toks) (fun b o hb e=>(sb.2 b hb).trans e) f0 f1 f3 f4 f5;obtain⟨o,e,c,d⟩:=id st';exact⟨u,rfl,yE (s:={ s with heap:=h' }) e c d (by decide) ⟨x,H,I1,ru,⟨rfl,fun ys hy=>by rw[I.tuple_inj hy hq];exact hx⟩,st',fun b hb=>(hf b hb).1⟩⟩
 done:=by
  intro X hP hw hK hc i pins s σ H E I hf st hg;subst hP hw hK;obtain⟨xs,hq,hx⟩:=hg;obtain⟨its,rv,p,hz⟩:=I.tuple hq;obtain⟨f0,f1,f2,f3,f4,f5⟩:=hf it (by simp);have hl:=rv.length;exact wpAny_pyNext_tuple_end (I.ok.hd hc) st (show s.heap.IsTuple a its.toArray from p) (by simp;omega) fun h' eb=>⟨rfl,I.turned (t':=s.toks) (fun b o hb e=>eb b o hb e) f0 f1 f3 f4 f5⟩
 self:=fun _ _ _ _ _ st h=>wpAny_pyIter_tupleiter st h
theorem sH{P:Qv}{w:Qe}{K:Q1}{tg:QC}(it:Addr)(lo:Int)(n:Nat):C2 P w K tg (Itr lo n) [it] it (fun i h=>IsRangeIter h it (lo+(i:Nat)*1) ((n:Int)-(i:Nat)) 1) where
 mem:=by simp
 obj:=fun i h st b hb=>by
  have e:b=it:=by simpa using hb
  subst e;exact⟨_,st,fun v z=>by
   have z':Data.fields _=Data.cell v:=z;cases z'⟩
 keep:=fun i h h' st k=>k it (by simp) _ st
 item:=by
  intro X hP hw hK hc i pins s σ H E I hf st hg;subst hP hw hK;obtain⟨f0,f1,f2,f3,f4,f5⟩:=hf it (by simp);have W:=Walks.range (prog:=X.prog) (w:=X.w) (I.ok.hd hc) it lo 1 n;refine W.item i s _ _ hg st fun v h' tk hv st' kk=>?_;obtain⟨t,rfl⟩:=hv;have I1:Inv X pins σ H { s with heap:=h',toks:=tk }:=I.turned (fun b o hb e=>kk b o (by simpa using hb) e) f0 f1 f3 f4 f5;refine⟨_,rfl,yE (s:={ s with heap:=h',toks:=tk }) (n:="range_iterator") st' rfl rfl (by decide) ⟨.int (lo+i),H,I1,⟨t,?_⟩,⟨rfl,rfl⟩,st',fun b hb=>(hf b hb).1⟩⟩;rw[Int.mul_one]
 done:=by
  intro X hP hw hK hc i pins s σ H E I hf st hg;subst hP hw hK;obtain⟨f0,f1,f2,f3,f4,f5⟩:=hf it (by simp);exact wpAny_pyNext_range_end (I.ok.hd hc) st (by have:n<=i:=hg;omega) fun h' eb=>⟨rfl,I.turned (t':=s.toks) (fun b o hb e=>eb b o hb e) f0 f1 f3 f4 f5⟩
 self:=fun _ _ _ _ _ st h=>wpAny_pyIter_rangeiter st h
section
variable{X:Cx}{tg:QC}
def Fs(K:Q1)(tl:TE):TI:=fun σ H R=>tl σ H fun x H1=>∃a,x=.ref a/\(∃xs,SqL K H1 a xs)/\R (Itl K a) H1
def Jn(K:Q1)(tl:TE):TI:=fun σ H R=>tl σ H fun x H1=>∃a,x=.ref a/\(∃xs,SqT K H1 a xs)/\R (Itt K a) H1
theorem BH{l:QC}{tl:TE}(hl:PE X l tl):PI X tg l (Fs X.K tl):=by
 intro pins s σ H R I h;refine thn (hl pins s σ H _ I h) fun v s1 hz=>?_;obtain⟨x,H1,I1,r1,q1⟩:=hz;obtain⟨a,e,⟨xs,hq⟩,q⟩:=q1;subst e;cases r1;obtain⟨its,rv,p,hz⟩:=I1.list hq;refine wpAny_pyIter_list p.isList ?_;refine⟨s1.heap.objs.size,[s1.heap.objs.size],_,_,H1,rfl,I1.kept (t':=s1.toks) fun b o e=>Q7 _ e,um a _,⟨_,Qx _ rfl,rfl,rfl⟩,fun b hb=>?_,q⟩;have e:b=s1.heap.objs.size:=by simpa using hb
 subst e;exact I1.fpOk (Q8 _) (I1.hok.fresh (Q8 _))
theorem Ew{l:QC}{tl:TE}(hl:PE X l tl):PI X tg l (Jn X.K tl):=by
 intro pins s σ H R I h;refine thn (hl pins s σ H _ I h) fun v s1 hz=>?_;obtain⟨x,H1,I1,r1,q1⟩:=hz;obtain⟨a,e,⟨xs,hq⟩,q⟩:=q1;subst e;cases r1;obtain⟨its,rv,p,hz⟩:=I1.tuple hq;refine wpAny_pyIter_tuple (show s1.heap.IsTuple a its.toArray from p) ?_;refine⟨s1.heap.objs.size,[s1.heap.objs.size],_,_,H1,rfl,I1.kept (t':=s1.toks) fun b o e=>Q7 _ e,sG a _,⟨_,Qx _ rfl,rfl,rfl⟩,fun b hb=>?_,q⟩;have e:b=s1.heap.objs.size:=by simpa using hb
 subst e;exact I1.fpOk (Q8 _) (I1.hok.fresh (Q8 _))
theorem xM{pins:List (Addr×Obj)}{σ:St}{H:Hp}{s:Q3}{R:It->Hp->Prop}{E:Q2->Q3->Prop}{lo hi:Int}{t u v:Tok}{tk:Nat}(I:Inv X pins σ H s)(h1:-(2^62)<=lo)(h2:lo<2^62)(h3:-(2^62)<=hi)(h4:hi<2^62)
  (q:R (Itr lo (hi-lo).toNat) H):wpAny (Qj X.prog X.w) X.A (pyIter (.ref s.heap.objs.size)) (PIE X pins σ tg R) E { s with heap:=s.heap.push { cls:=.type "range",data:=.fields #[.int lo t,.int hi u,.int 1 v] },toks:=tk }:=by
 refine wpAny_pyIter_range (IsRange.new ..) (small_one h1 h2 h3 h4) ?_;have I1:Inv X pins σ H { s with heap:=s.heap.push { cls:=.type "range",data:=.fields #[.int lo t,.int hi u,.int 1 v] },toks:=tk }:=I.kept fun b o e=>Q7 _ e;refine⟨(s.heap.push { cls:=.type "range",data:=.fields #[.int lo t,.int hi u,.int 1 v] }).objs.size,[(s.heap.push { cls:=.type "range",data:=.fields #[.int lo t,.int hi u,.int 1 v] }).objs.size],_,_,H,rfl,
  I1.kept (t':=tk) fun b o e=>Q7 _ e,sH _ lo (hi-lo).toNat,?_,fun b hb=>?_,q⟩
 ·have e1:lo+((0:Nat):Int)*1=lo:=by simp
  have e2:(((hi-lo).toNat:Nat):Int)-((0:Nat):Int)=Builtin.Range.rangeSize lo hi 1:=by rw[rangeSize_one];split<;>omega
  show IsRangeIter _ _ (lo+((0:Nat):Int)*1) ((((hi-lo).toNat:Nat):Int)-((0:Nat):Int)) 1;rw[e1,e2];exact Qx _ rfl
 ·have e:b=(s.heap.push { cls:=.type "range",data:=.fields #[.int lo t,.int hi u,.int 1 v] }).objs.size:=by simpa using hb
  subst e;exact I1.fpOk (Q8 _) (I1.hok.fresh (Q8 _))
def Fq(ta:TA):TI:=fun σ H R=>ta σ H fun vs H1=>∃j:Int,vs=[.int j]/\-(2^62)<=j/\j<2^62/\R (Itr 0 j.toNat) H1
theorem uV{a:QC}{ta:TA}{p pos:Pos}(hg:Gl X "range")(hm:X.mg "range"=none)(ha:PA X [a] ta)(hs:QJ [a] X.env=[(false,eval a X.env)]:=by rfl):PI X tg (.Call (.Name "range" p) [a] [] pos) (Fq ta):=by
 intro pins s σ H R I h;refine Call_ (kq I hg hm boot_range (PyProof.Rows.callWith_type1 (thn (ha pos pins s σ H _ I h) fun us s1 ⟨vs,H1,I1,r1,q1⟩=>?_) hs rfl));obtain⟨j,e,q1,q2,q⟩:=q1;subst e;cases r1 with
 |cons r rr=>
  cases rr;obtain⟨t,rfl⟩:=r;exact call_range_1 (xM I1 (by omega) (by omega) q1 q2 (by simpa using q))
def FZ(wi:TI)(g:TG)(tb:TS):TS:=fun D σ H=>wi σ H fun J H1=>∃W:Nat->Nat->St->Hp->Prop,(∃m,W 0 m σ H1)/\∀i m σ H,W i m σ H->
 (J.stop i H/\D.nx σ H)\/(J.go i H/\∃N:St->Hp->Prop,(∀σ' H',N σ' H'->∃m',m'<m/\W (i+1) m' σ' H')/\∀x H',J.yld i H x H'->g x σ H' fun σ2 H2=>tb { D with nx:=N,ct:=N,bk:=D.nx } σ2 H2)
def rb(fp:List Addr)(h:Heap):List (Addr×Obj):=fp.filterMap fun b=>(h.get? b).map fun o=>(b,o)
theorem dX{fp:List Addr}{h:Heap}{b:Addr}{o:Obj}(hb:b∈fp)(e:h.get? b=some o):(b,o)∈rb fp h:=List.mem_filterMap.mpr ⟨b,hb,by rw[e];rfl⟩
theorem vq{fp:List Addr}{h:Heap}{p:Addr×Obj}(hp:p∈rb fp h):p.1∈fp/\h.get? p.1=some p.2:=by
 obtain⟨b,hb,e⟩:=List.mem_filterMap.mp hp;cases q:h.get? b with
 |none=>rw[q]at e;cases e
 |some o=>
  rw[q]at e;have e':(b,o)=p:=Option.some.inj e;subst e';exact⟨hb,q⟩
theorem Inv.pinned{pins:List (Addr×Obj)}{σ:St}{H:Hp}{s:Q3}{fp:List Addr}(I:Inv X pins σ H s)(hf:∀b∈fp,tH X pins H b)(ho:∀b∈fp,∃o,s.heap.get? b=some o/\∀v,o.data≠.cell v):Inv X (pins++rb fp s.heap) σ H s:=
 I.pins_of fun p hp=>(Qw.mp hp).elim (fun z=>I.pin p (QR _ z)) fun z=>by
  obtain⟨hb,e⟩:=vq z;obtain⟨f0,f1,f2,_⟩:=hf p.1 hb;obtain⟨o,e',d⟩:=ho p.1 hb;rw[e]at e';cases e';exact⟨e,f0,f1,f2,d⟩
theorem Inv.unpinned{pins pl:List (Addr×Obj)}{σ:St}{H:Hp}{s:Q3}(I:Inv X (pins++pl) σ H s):Inv X pins σ H s:=I.pins_of fun p hp=>I.pin p (QR _ (ZZ _ hp))
theorem Es{iter:QC}{body:List Z0}{wi:TI}{g:TG}{tb:TS}{pos:Pos}(hp:PassesOwn (Qj X.prog X.w) X.A X.env X.xe)(hc:X.calm=true)(hi:PI X tg iter wi)(hg:PG X tg g)(hb:PSs X body tb)
  (hs:∀x,foldedSetIterable iter X.env x=pure x:=by intro _;rfl):PS X (.For tg iter body [] pos) (FZ wi g tb):=by
 intro pins s σ H D I h;refine wpAny_For (thn (hi pins s σ H _ I h) fun v s1 h1=>thn h1 fun itv s2 h2=>?_) hs;obtain⟨it,fp,tn,J,H2,e,I2,T,st2,f2,W,⟨m0,w0⟩,turn⟩:=h2;subst e;have stat:∀{H':Hp},(∀b∈fp,H' b=none)->∀b∈fp,tH X pins H' b:=fun hn b hb=>⟨hn b hb,(f2 b hb).2⟩;refine codeAny_forLoop_any (fun n s'=>∃i σ' H',Inv X pins σ' H' s'/\tn i s'.heap/\(∀b∈fp,H' b=none)/\W i n σ' H') ?_ m0 ⟨0,σ,H2,I2,st2,fun b hb=>(f2 b hb).1,w0⟩;rintro n s3 ⟨i,σ3,H3,I3,st3,fr3,w3⟩;rcases turn i n σ3 H3 w3 with⟨stop,qn⟩|⟨go,N,hN,step⟩
 ·refine wpAny_passesOwn hp (thn (T.done X rfl rfl rfl hc i pins s3 σ3 H3 X.xe I3 (stat fr3) st3 stop) fun r s4 ⟨hr,I4⟩=>?_);subst hr;exact wpAny_execs_nil ⟨σ3,H3,I4,qn⟩
 ·refine wpAny_passesOwn hp (thn (T.item X rfl rfl rfl hc i pins s3 σ3 H3 X.xe I3 (stat fr3) st3 go) fun r s4 ⟨u,hr,h4⟩=>?_);subst hr;refine wpAny_passesOwn hp (thn h4 fun _ s5 hz=>?_);obtain⟨x,H5,I5,r5,y5,st5,fr5⟩:=hz;have I5':=I5.pinned (stat fr5) (T.obj _ _ st5);refine wpAny_passesOwn hp (thn (hg _ s5 σ3 H5 x u _ I5' r5 (step x H5 y5)) fun _ s6 hz=>?_);obtain⟨σ6,H6,I6,q6⟩:=hz;refine wpAny_passesOwn hp (thn (hb _ s6 σ6 H6 _ I6 q6) fun f s7 q7=>?_);have again:∀{σ7:St} {H7:Hp},Inv X (pins++rb fp s5.heap) σ7 H7 s7->N σ7 H7->∃m,m<n/\∃i σ' H',Inv X pins σ' H' s7/\tn i s7.heap/\(∀b∈fp,H' b=none)/\W i m σ' H':=fun{σ7 H7} I7 n7=>by
   obtain⟨m',hm,w7⟩:=hN σ7 H7 n7;refine⟨m',hm,i+1,σ7,H7,I7.unpinned,T.keep _ _ _ st5 fun b hb o e=>(I7.pin (b,o) (QR _ (QR _ (dX hb e)))).1,fun b hb=>?_,w7⟩;obtain⟨o,e,d⟩:=T.obj _ _ st5 b hb;exact(I7.pin (b,o) (QR _ (QR _ (dX hb e)))).2.1
  cases f with
  |next=>obtain⟨σ7,H7,I7,n7⟩:=q7;exact again I7 n7
  |cont=>obtain⟨σ7,H7,I7,n7⟩:=q7;exact again I7 n7
  |brk=>obtain⟨σ7,H7,I7,q7⟩:=q7;exact⟨σ7,H7,I7.unpinned,q7⟩
  |ret v=>obtain⟨x7,σ7,H7,I7,r7,q7⟩:=q7;exact⟨x7,σ7,H7,I7.unpinned,r7,q7⟩
end
abbrev R2:=V->V->Hp->VK->Prop
def OpR(X:Cx)(f:Q2->Q2->Sem Q2)(r:R2):Prop:=
 ∀(pins:List (Addr×Obj)) (s:Q3) (σ:St) (H:Hp) (x y:V) (v u:Q2) (Q:VK),Inv X pins σ H s->bR x v->bR y u->r x y H Q->
  wpAny (Qj X.prog X.w) X.A (f v u) (EP X pins σ Q) X.xe s
def fq(X:Cx)(f:Q2)(r:List V->Hp->VK->Prop):Prop:=
 ∀(pins:List (Addr×Obj)) (s:Q3) (σ:St) (H:Hp) (xs:List V) (us:List Q2) (Q:VK),Inv X pins σ H s->bD xs us->r xs H Q->
  wpAny (Qj X.prog X.w) X.A (call f us) (EP X pins σ Q) X.xe s
def tOp(r:R2)(ta tb:TE):TE:=fun σ H Q=>ta σ H fun x H1=>tb σ H1 fun y H2=>r x y H2 Q
def rI(C:Int->Int->Prop)(g:Int->Int->V):R2:=fun x y H Q=>∃i j,x=.int i/\y=.int j/\C i j/\Q (g i j) H
def rI0(g:Int->Int->V):R2:=fun x y H Q=>∃i j,x=.int i/\y=.int j/\Q (g i j) H
section
variable{X:Cx}{a b:QC}{ta tb:TE}{pos:Pos}
theorem II(ha:PE X a ta)(hb:PE X b tb){pins:List (Addr×Obj)}{s:Q3}{σ:St}{H:Hp}{R:V->V->Hp->Prop}(I:Inv X pins σ H s)
  (h:ta σ H fun x H1=>tb σ H1 fun y H2=>R x y H2) {Q:Q2->Q3->Prop} {f:Q2->Q2->Sem Q2}
  (hf:∀v u s2 x y H2,Inv X pins σ H2 s2->bR x v->bR y u->R x y H2->wpAny (Qj X.prog X.w) X.A (f v u) Q X.xe s2) :
  wpAny (Qj X.prog X.w) X.A (eval a X.env) (fun v s₁=>wpAny (Qj X.prog X.w) X.A (eval b X.env) (fun u s₂=>wpAny (Qj X.prog X.w) X.A (f v u) Q X.xe s₂) X.xe s₁) X.xe s:=by
 refine thn (ha pins s σ H _ I h) fun v s1 hz=>?_;obtain⟨x,H1,I1,r1,q1⟩:=hz;refine thn (hb pins s1 σ H1 _ I1 q1) fun u s2 hz=>?_;obtain⟨y,H2,I2,r2,q2⟩:=hz;exact hf v u s2 x y H2 I2 r1 r2 q2
theorem HF{op:Operator}{r:R2}(ho:OpR X (binaryOp op) r)(ha:PE X a ta)(hb:PE X b tb):PE X (.BinOp a op b pos) (tOp r ta tb):=by
 intro pins s σ H Q I h;exact wpAny_BinOp (II ha hb I h fun v u s2 x y H2 I2 rx ry q=>ho pins s2 σ H2 x y v u Q I2 rx ry q)
theorem opI{f:Q2->Q2->Sem Q2}{C:Int->Int->Prop}{g:Int->Int->Int}
  (rule:∀(i j:Int) (t u:Tok) (s:Q3) (Q:Q2->Q3->Prop) (E:Q2->Q3->Prop),C i j->Q (.int (g i j) s.toks) { s with toks:=s.toks+1 }->wpAny (Qj X.prog X.w) X.A (f (.int i t) (.int j u)) Q E s) :
  OpR X f (rI C fun i j=>.int (g i j)):=by
 intro pins s σ H x y v u Q I rx ry h;obtain⟨i,j,rfl,rfl,hc,q⟩:=h;obtain⟨t,rfl⟩:=rx;obtain⟨t',rfl⟩:=ry;exact rule i j t t' s _ _ hc ⟨.int (g i j),H,I.tok _,⟨_,rfl⟩,q⟩
theorem JV{f:Q2->Q2->Sem Q2}{g:Int->Int->Int}
  (rule:∀(i j:Int) (t u:Tok) (s:Q3) (Q:Q2->Q3->Prop) (E:Q2->Q3->Prop),Q (.int (g i j) s.toks) { s with toks:=s.toks+1 }->wpAny (Qj X.prog X.w) X.A (f (.int i t) (.int j u)) Q E s) :
  OpR X f (rI0 fun i j=>.int (g i j)):=by
 intro pins s σ H x y v u Q I rx ry h;obtain⟨i,j,rfl,rfl,q⟩:=h;obtain⟨t,rfl⟩:=rx;obtain⟨t',rfl⟩:=ry;exact rule i j t t' s _ _ ⟨.int (g i j),H,I.tok _,⟨_,rfl⟩,q⟩
theorem HQ{f:Q2->Q2->Sem Q2}{g:Int->Int->Bool}
  (rule:∀(i j:Int) (t u:Tok) (s:Q3) (Q:Q2->Q3->Prop) (E:Q2->Q3->Prop),Q (.bool (g i j)) s->wpAny (Qj X.prog X.w) X.A (f (.int i t) (.int j u)) Q E s) :
  OpR X f (rI0 fun i j=>.bl (g i j)):=by
 intro pins s σ H x y v u Q I rx ry h;obtain⟨i,j,rfl,rfl,q⟩:=h;obtain⟨t,rfl⟩:=rx;obtain⟨t',rfl⟩:=ry;exact rule i j t t' s _ _ ⟨.bl (g i j),H,I,rfl,q⟩
def Jy(i j:Int):Prop:=0<=j/\j<=1000000/\i.natAbs<2^64
def wX(i j:Int):Prop:=(-(2^64)<i/\i<2^64)\/(-(2^64)<j/\j<2^64)
theorem wX.ok{i j:Int}(h:wX i j):IntMulOk i j:=by
 rcases h with⟨h1,h2⟩|⟨h1,h2⟩
 ·exact .of_left (intBits_le_64 h1 h2)
 ·exact .of_right (intBits_le_64 h1 h2)
def EU:OpR X (binaryOp .Add) (rI0 fun i j=>.int (i+j)):=JV fun _ _ _ _ _ _ _ q=>add_int q
def jH:OpR X (binaryOp .Mult) (rI wX fun i j=>.int (i*j)):=opI fun _ _ _ _ _ _ _ hc q=>mul_int q hc.ok
theorem jI:OpR X (binaryOp .Mod) (rI (fun _ j=>0<j) fun i j=>.int (i % j)):=opI fun i j _ _ _ _ _ hc q=>by
 have h1:(0:Int)<j:=hc;exact mod_int' (by omega) (by rw[Int.fmod_eq_emod_of_nonneg i (by omega)];exact q)
end
def Hr:V->V->Bool
 |.non,.non=>true|.non,.int _=>true|.int _,.non=>true|.non,.bl _=>true|.bl _,.non=>true|.non,.str _=>true|.str _,.non=>true
 |.int _,.int _=>true|.bl _,.bl _=>true|.str _,.str _=>true|.byt _,.byt _=>true
 |.int _,.str _=>true|.str _,.int _=>true|.bl _,.str _=>true|.str _,.bl _=>true
 |_,_=>false
def rEq:R2:=fun x y H Q=>Hr x y=true/\Q (.bl (decide (x=y))) H
def rNe:R2:=fun x y H Q=>Hr x y=true/\Q (.bl (!decide (x=y))) H
theorem wA{i j:Int}:decide (V.int i=V.int j)=(i == j):=by
 rw[Zz];simp
theorem Ab{i j:Bool}:decide (V.bl i=V.bl j)=(i == j):=by
 rw[Zz];simp
theorem wz{i j:Str}:decide (V.str i=V.str j)=(i == j):=by
 rw[Zz];simp
theorem wB{i j:Array UInt8}:decide (V.byt i=V.byt j)=(i.toList == j.toList):=by
 rw[Zz];cases i;cases j;simp
section
variable{X:Cx}{a b c:QC}{ta tb:TE}{pos:Pos}
theorem bA{pins:List (Addr×Obj)}{σ:St}{H:Hp}{s:Q3}{Q:VK}{k k':Bool}(I:Inv X pins σ H s)(q:Q (.bl k) H)(e:k=k'):EP X pins σ Q (.bool k') s:=by
 subst e;exact⟨.bl k,H,I,rfl,q⟩
theorem hX:OpR X (compareOp .Eq) rEq:=by
 intro pins s σ H x y v u Q I rx ry h;obtain⟨hs,q⟩:=h;cases x with
 |non=>
  cases rx;cases y with
  |non=>cases ry;exact PySem.EqNone.eq_none_none (bA I q (by simp))
  |bl j=>cases ry;exact PySem.EqNone.eq_none_bool (bA I q (by simp))
  |int j=>obtain⟨t',rfl⟩:=ry;exact PySem.EqNone.eq_none_int (bA I q (by simp))
  |str j=>obtain⟨t',rfl⟩:=ry;exact PySem.EqNone.eq_none_str (bA I q (by simp))
  |_=>exact absurd (show false=true from hs) Q9
 |bl i=>
  cases rx;cases y with
  |non=>cases ry;exact PySem.EqNone.eq_bool_none (bA I q (by simp))
  |bl j=>cases ry;exact eq_bool (bA I q Ab)
  |str j=>obtain⟨t',rfl⟩:=ry;exact PySem.EqMixed.eq_bool_str (bA I q (by simp))
  |_=>exact absurd (show false=true from hs) Q9
 |int i=>
  obtain⟨t,rfl⟩:=rx;cases y with
  |non=>cases ry;exact PySem.EqNone.eq_int_none (bA I q (by simp))
  |int j=>obtain⟨t',rfl⟩:=ry;exact eq_int (bA I q wA)
  |str j=>obtain⟨t',rfl⟩:=ry;exact PySem.EqMixed.eq_int_str (bA I q (by simp))
  |_=>exact absurd (show false=true from hs) Q9
 |str i=>
  obtain⟨t,rfl⟩:=rx;cases y with
  |non=>cases ry;exact PySem.EqNone.eq_str_none (bA I q (by simp))
  |bl j=>cases ry;exact PySem.EqMixed.eq_str_bool (bA I q (by simp))
  |int j=>obtain⟨t',rfl⟩:=ry;exact PySem.EqMixed.eq_str_int (bA I q (by simp))
  |str j=>obtain⟨t',rfl⟩:=ry;exact eq_str (bA I q wz)
  |_=>exact absurd (show false=true from hs) Q9
 |byt i=>
  obtain⟨t,rfl⟩:=rx;cases y with
  |byt j=>obtain⟨t',rfl⟩:=ry;exact PySem.W.eq_bytes (bA I q wB)
  |_=>exact absurd (show false=true from hs) Q9
 |_=>cases y<;>exact absurd (show false=true from hs) Q9
theorem yl:OpR X (compareOp .NotEq) rNe:=by
 intro pins s σ H x y v u Q I rx ry h;obtain⟨hs,q⟩:=h;cases x with
 |non=>
  cases rx;cases y with
  |non=>cases ry;exact PySem.EqNone.ne_none_none (bA I q (by simp))
  |bl j=>cases ry;exact PySem.EqNone.ne_none_bool (bA I q (by simp))
  |int j=>obtain⟨t',rfl⟩:=ry;exact PySem.EqNone.ne_none_int (bA I q (by simp))
  |str j=>obtain⟨t',rfl⟩:=ry;exact PySem.EqNone.ne_none_str (bA I q (by simp))
  |_=>exact absurd (show false=true from hs) Q9
 |bl i=>
  cases rx;cases y with
  |non=>cases ry;exact PySem.EqNone.ne_bool_none (bA I q (by simp))
  |bl j=>cases ry;exact ne_bool (bA I q (congrArg not Ab))
  |str j=>obtain⟨t',rfl⟩:=ry;exact PySem.EqMixed.ne_bool_str (bA I q (by simp))
  |_=>exact absurd (show false=true from hs) Q9
 |int i=>
  obtain⟨t,rfl⟩:=rx;cases y with
  |non=>cases ry;exact PySem.EqNone.ne_int_none (bA I q (by simp))
  |int j=>obtain⟨t',rfl⟩:=ry;exact ne_int (bA I q (congrArg not wA))
  |str j=>obtain⟨t',rfl⟩:=ry;exact PySem.EqMixed.ne_int_str (bA I q (by simp))
  |_=>exact absurd (show false=true from hs) Q9
 |str i=>
  obtain⟨t,rfl⟩:=rx;cases y with
  |non=>cases ry;exact PySem.EqNone.ne_str_none (bA I q (by simp))
  |bl j=>cases ry;exact PySem.EqMixed.ne_str_bool (bA I q (by simp))
  |int j=>obtain⟨t',rfl⟩:=ry;exact PySem.EqMixed.ne_str_int (bA I q (by simp))
  |str j=>obtain⟨t',rfl⟩:=ry;exact ne_str (bA I q (congrArg not wz))
  |_=>exact absurd (show false=true from hs) Q9
 |byt i=>
  obtain⟨t,rfl⟩:=rx;cases y with
  |byt j=>obtain⟨t',rfl⟩:=ry;exact PySem.W.ne_bytes (bA I q (congrArg not wB))
  |_=>exact absurd (show false=true from hs) Q9
 |_=>cases y<;>exact absurd (show false=true from hs) Q9
def vj:OpR X (compareOp .Lt) (rI0 fun i j=>.bl (decide (i<j))):=HQ fun _ _ _ _ _ _ _ q=>lt_int q
def HP:OpR X (compareOp .LtE) (rI0 fun i j=>.bl (decide (i<=j))):=HQ fun _ _ _ _ _ _ _ q=>le_int q
def BX:OpR X (compareOp .Gt) (rI0 fun i j=>.bl (decide (j<i))):=HQ fun _ _ _ _ _ _ _ q=>gt_int q
theorem vk:OpR X (compareOp .Is) (fun x y H Q=>y=.non/\Q (.bl (decide (x=.non))) H):=by
 intro pins s σ H x y v u Q I rx ry h;obtain⟨rfl,q⟩:=h;cases ry;refine is_none_gen (bA I q ?_);cases x<;>first
  |(cases rx;rfl)
  |(obtain⟨t,rfl⟩:=rx;rfl)
theorem BW:OpR X (compareOp .IsNot) (fun x y H Q=>y=.non/\Q (.bl (!decide (x=.non))) H):=by
 intro pins s σ H x y v u Q I rx ry h;obtain⟨rfl,q⟩:=h;cases ry;refine isnot_none_gen (bA I q ?_);cases x<;>first
  |(cases rx;rfl)
  |(obtain⟨t,rfl⟩:=rx;rfl)
theorem OpR.or{f:Q2->Q2->Sem Q2}{r r':R2}(h:OpR X f r)(h':OpR X f r'):OpR X f (fun x y H Q=>r x y H Q\/r' x y H Q):=by
 intro pins s σ H x y v u Q I rx ry q;rcases q with q|q
 ·exact h pins s σ H x y v u Q I rx ry q
 ·exact h' pins s σ H x y v u Q I rx ry q
theorem aX(b:QC){op:CmpOp}(h:op≠.In:=by decide)(h2:op≠.NotIn:=by decide):behindInMarks op b=false:=by
 have e1:(op == CmpOp.In)=false:=by cases op<;>first|rfl|exact absurd rfl h
 have e2:(op == CmpOp.NotIn)=false:=by cases op<;>first|rfl|exact absurd rfl h2
 cases b<;>simp[behindInMarks,e1,e2]
theorem BN{op:CmpOp}{r:R2}(ho:OpR X (compareOp op) r)(ha:PE X a ta)(hb:PE X b tb)(hm:behindInMarks op b=false):PE X (.Compare a [op] [b] pos) (tOp r ta tb):=by
 intro pins s σ H Q I h;exact wpAny_Compare1 (II ha hb I h fun v u s2 x y H2 I2 rx ry q=>ho pins s2 σ H2 x y v u Q I2 rx ry q) hm
def DW(t:TE):TT:=fun σ H Q=>t σ H fun x H'=>∃k,x=.bl k/\Q k H'
theorem BA{op:CmpOp}{r:R2}(ho:OpR X (compareOp op) r)(ha:PE X a ta)(hb:PE X b tb)(hm:behindInMarks op b=false):PT X (.Compare a [op] [b] pos) (DW (tOp r ta tb)):=by
 intro pins s σ H Q I h;refine wpAny_isTrue_Compare1 (thn (ha pins s σ H _ I h) fun v s1 ⟨x,H1,I1,r1,q1⟩=>thn (hb pins s1 σ H1 _ I1 q1) fun u s2 ⟨y,H2,I2,r2,q2⟩=>
  thn (ho pins s2 σ H2 x y v u _ I2 r1 r2 q2) fun c s3 ⟨z,H3,I3,r3,k,e,q3⟩=>?_) hm
 subst e;cases r3;exact wpAny_truthy_bool ⟨H3,I3,q3⟩
def rA:(QD:Nat)<2^63:=by rw[sizeLine_eq];decide
theorem sN:OpR X (binaryOp .Add) (fun x y H Q=>∃i j,x=.str i/\y=.str j/\i.length+j.length<=QD/\Q (.str (i++j)) H):=by
 intro pins s σ H x y v u Q I rx ry h;obtain⟨i,j,rfl,rfl,hz,q⟩:=h;obtain⟨t,rfl⟩:=rx;obtain⟨t',rfl⟩:=ry;exact add_str (fun t' tk=>⟨.str (i++j),H,I.tok _,⟨_,rfl⟩,q⟩) hz
theorem k7{x:V}{us:List Q2}(r:bD [x] us):∃u,us=[u]/\bR x u:=by
 cases r with
 |cons r1 r2=>cases r2;exact⟨_,rfl,r1⟩
theorem DT{x y:V}{us:List Q2}(r:bD [x,y] us):∃u w',us=[u,w']/\bR x u/\bR y w':=by
 cases r with
 |cons r1 r2=>
  cases r2 with
  |cons r3 r4=>cases r4;exact⟨_,_,rfl,r1,r3⟩
theorem wI(hc:X.calm=true):fq X (.builtin "max") (fun xs H Q=>∃i j,xs=[.int i,.int j]/\Q (.int (if j>i then j else i)) H):=by
 intro pins s σ H xs us Q I r h;obtain⟨i,j,rfl,q⟩:=h;obtain⟨u,w',rfl,⟨t,rfl⟩,⟨t',rfl⟩⟩:=DT r;refine max_two_ints (I.ok.hd hc) fun h' tk k=>⟨_,H,I.kept k,?_,q⟩;by_cases hj:j>i
 ·rw[if_pos hj,if_pos hj];exact⟨_,rfl⟩
 ·rw[if_neg hj,if_neg hj];exact⟨_,rfl⟩
theorem wH(hc:X.calm=true):fq X (.builtin "min") (fun xs H Q=>∃i j,xs=[.int i,.int j]/\Q (.int (if j<i then j else i)) H):=by
 intro pins s σ H xs us Q I r h;obtain⟨i,j,rfl,q⟩:=h;obtain⟨u,w',rfl,⟨t,rfl⟩,⟨t',rfl⟩⟩:=DT r;refine min_two_ints (I.ok.hd hc) fun h' tk k=>⟨_,H,I.kept k,?_,q⟩;by_cases hj:j<i
 ·rw[if_pos hj,if_pos hj];exact⟨_,rfl⟩
 ·rw[if_neg hj,if_neg hj];exact⟨_,rfl⟩
theorem kM:fq X (.type "int") (fun xs H Q=>(∃i,xs=[.int i]/\Q (.int i) H)\/∃k,xs=[.bl k]/\Q (.int (if k then 1 else 0)) H):=by
 intro pins s σ H xs us Q I r h;rcases h with⟨i,rfl,q⟩|⟨k,rfl,q⟩
 ·obtain⟨u,rfl,t,rfl⟩:=k7 r;exact call_int_int ⟨.int i,H,I,⟨_,rfl⟩,q⟩
 ·obtain⟨u,rfl,r1⟩:=k7 r;cases r1;exact call_int_bool ⟨.int (if k then 1 else 0),H,I.tok _,⟨_,rfl⟩,q⟩
end
structure CL(h:Heap)(x dx C:Addr)(mA:Str->Option Q2):Prop where
 obj:h.get? x=some (PySem.W.instObj C dx)
 ns:h.Ns1 dx mA
 ne:dx≠x
theorem vC{h:Heap}{dx:Addr}{mA:Str->Option Q2}(n:h.Ns1 dx mA):∃od,h.get? dx=some od/\∀name,PySem.W.lookIn name od=some (mA name):=by
 obtain⟨o,es,ep,ho,hd,hk,_,hm⟩:=n;refine⟨o,ho,fun name=>?_⟩;have e:=hm name;unfold nsFind findBy at e;rw[<-Array.find?_toList]at e;unfold PySem.W.lookIn;rw[hd];dsimp only;split
 ·rename_i y q;rw[q]at e;exact congrArg some e
 ·rename_i q;rw[q]at e;have a:es.toList.any (·.refKey)=false:=by
   rw[List.any_eq_false];intro y hy;obtain⟨z,t,hkey⟩:=hk y (Array.mem_toList_iff.mp hy);simp[DictEntry.refKey,hkey]
  have a':¬es.toList.any (·.refKey)=true:=by rw[a];exact Q9
  rw[if_neg a'];exact congrArg some e
theorem CL.look{h:Heap}{x dx C:Addr}{mA:Str->Option Q2}(I:CL h x dx C mA):∃od,PySem.W.InstAt h x (PySem.W.instObj C dx) C (some od)/\∀name,PySem.W.lookIn name od=some (mA name):=
 let ⟨od,ho,hl⟩:=vC I.ns
 ⟨od,⟨I.obj,rfl,rfl,ho⟩,hl⟩
section
variable{prog:Qv}{w:Qe}{A:Qa}{E:Q2->Q3->Prop}{s:Q3}{K:Q1}{x dx C f:Addr}{mA:Str->Option Q2}{name:Str}{v:Q2}
theorem Cm{expr:Bool}{Q:Q2->Q3->Prop}(X:K.In s.heap)(I:CL s.heap x dx C mA)(hg:PySem.W.plainGet K C name=true)(hh:PySem.W.hasDictIn K C=true)
  (ha:PySem.W.findIn K (.ref C) name=some none) (hv:mA name=some v) (hv':PySem.W.handedIn v=true) (h:Q v { s with toks:=s.toks+1 }) :
  wpAny (Qj prog w) A (getAttr (.ref x) name expr) Q E s:=by
 obtain⟨od,J,hl⟩:=I.look;exact PySem.W.get_value X J (PySem.W.plainGet_of hg).1 (PySem.W.findObj_own hh ha rfl (by rw[hl,hv])) hv' h
theorem yF{pl:Sem Bool}{Q:Q2×List Q2->Q3->Prop}(X:K.In s.heap)(I:CL s.heap x dx C mA)(hg:PySem.W.plainGet K C name=true)
  (hf:PySem.W.findIn K (.ref C) name=some (some (.ref f))) (ht:PySem.W.isFn K (.ref f)=true) (hv:mA name=none) (h:Q (.ref f,[.ref x]) s) :
  wpAny (Qj prog w) A (getMethod (.ref x) name pl) Q E s:=by
 obtain⟨od,J,hl⟩:=I.look;exact PySem.W.method_fn X J (PySem.W.plainGet_of hg).1 (PySem.W.plainGet_of hg).2 hf (beq_iff_eq.mp ht) (by show(PySem.W.lookIn name od).map (·.isSome)=some false;rw[hl,hv];rfl) h
theorem Bk{ns:List Str}{Q:Unit->Q3->Prop}(X:K.In s.heap)(I:CL s.heap x dx C mA)
  (hs:PySem.W.findIn K (.ref C) "__setattr__"=some (some (.builtin "object.__setattr__"))) (hp:PySem.W.plainOver K C=true) (ht:PySem.W.takerIn K C name=some none) (hh:PySem.W.hasDictIn K C=true)
  (hw:PySem.Within mA ns) (hsz:ns.length<=QD)
  (h:∀h',CL h' x dx C (fun y=>if y=name then some v else mA y)->Heap.SameBut dx s.heap h'->Q () { s with heap:=h',toks:=s.toks+2 }) :
  wpAny (Qj prog w) A (setAttr (.ref x) name v) Q E s:=by
 obtain⟨od,J,hl⟩:=I.look;refine PySem.W.set_plain X J hs (PySem.W.osa_open (s:={ s with toks:=s.toks+1 }) (r:=none) X J hp ht fun b=>?_);obtain⟨cd,hc,hd'⟩:=PySem.W.any_some hh;have hx:s.heap.get? x=some ⟨.ref C,some dx,.plain,#[]⟩:=I.obj;refine Q5 (QL (Q5 (Q5 (wpAny_loadPart hx (Q5 (PySem.W.Looks.here (s:={ s with toks:=s.toks+1 }) (PySem.W.looks_clsIn X hc) ?_))))));rw[hd'];refine QL (a:=some dx) (Q5 (QL (Q5 ?_)));refine wpAny_nsSet1 (s:={ s with toks:=s.toks+1 }) I.ns fun h' hn2 hs2=>?_;obtain⟨oD,esD,epD,hoD,hdD,hcD⟩:=hn2.count (PySem.Within.cons name v hw);refine Q5 (wpAny_lookBehind hoD (by rw[hdD];exact pastItsLine_dict (Qb hcD (by rw[QY];omega))) ?_);exact QL (h _ ⟨(hs2.2 _ (Ne.symm I.ne)).trans I.obj,hn2,I.ne⟩ hs2)
theorem yo{R:Result->Q3->Prop}{vs:List Q2}{kw:List (Str×Q2)}(X:K.In s.heap)(hm:PySem.W.makesIn K C=true)
  (hi:PySem.W.findIn K (.ref C) "__init__"=some (some (.ref f))) (hf:PySem.W.typeIn K (.ref f)=some (.type "function"))
  (h:codeAny (Qj prog w) (A.under (.builtin "type.__call__" ⟨.ref C::vs,kw⟩)) (.call (.ref f) ⟨.ref (s.heap.objs.size+1)::vs,kw⟩) (PySem.W.InitBack (s.heap.objs.size+1) R)
   { s with heap:=(s.heap.push PySem.W.emptyDict).push (PySem.W.instObj C s.heap.objs.size) }) :
  codeAny (Qj prog w) A (.call (.ref C) ⟨vs,kw⟩) R s:=by
 obtain⟨hh,g,d,t,os⟩:=s;exact PySem.W.make_core (PySem.W.makes_of X hm) (PySem.W.looks_findIn X hi) (fun self=>PySem.W.bind_fn X self hf) (.inl rfl) h
end
def k9(f:Str)(v:V):List (Str×V)->List (Str×V)
 |[]=>[(f,v)]
 |(g,x)::r=>if g=f then(g,v)::r else(g,x)::k9 f v r
theorem ib(f g:Str)(v:V):∀fs:List (Str×V),(k9 f v fs).lookup g=if g=f then some v else fs.lookup g
 |[]=>by
  show List.lookup g [(f,v)]=_;by_cases h:g=f
  ·have hb:(g == f)=true:=beq_iff_eq.mpr h;simp only[List.lookup,hb,if_pos h]
  ·have hb:(g == f)=false:=beq_eq_false_iff_ne.mpr h;simp only[List.lookup,hb,if_neg h]
 |(k,x)::r=>by
  have ih:=ib f g v r;rw[show k9 f v ((k,x)::r)=(if k=f then(k,v)::r else(k,x)::k9 f v r)from rfl];by_cases hk:k=f
  ·rw[if_pos hk];by_cases h:g=k
   ·have hb:(g == k)=true:=beq_iff_eq.mpr h;simp only[List.lookup,hb,if_pos (h.trans hk)]
   ·have hb:(g == k)=false:=beq_eq_false_iff_ne.mpr h;simp only[List.lookup,hb,if_neg (fun e:g=f=>h (e.trans hk.symm))]
  ·rw[if_neg hk];by_cases h:g=k
   ·have hb:(g == k)=true:=beq_iff_eq.mpr h;simp only[List.lookup,hb,if_neg (fun e:g=f=>hk (h.symm.trans e))]
   ·have hb:(g == k)=false:=beq_eq_false_iff_ne.mpr h;simp only[List.lookup,hb];exact ih
theorem d7(f:Str)(v:V):∀fs:List (Str×V),f∈(k9 f v fs).map (·.1)/\∀g,g∈fs.map (·.1)->g∈(k9 f v fs).map (·.1)
 |[]=>⟨by simp[k9],fun g h=>by simp at h⟩
 |(k,x)::r=>by
  obtain⟨i1,i2⟩:=d7 f v r;rw[show k9 f v ((k,x)::r)=(if k=f then(k,v)::r else(k,x)::k9 f v r)from rfl];by_cases hk:k=f
  ·rw[if_pos hk];subst hk;exact⟨by simp,fun g h=>by simpa using h⟩
  ·rw[if_neg hk];refine⟨?_,fun g h=>?_⟩
   ·rw[QN];exact QQ _ i1
   ·rw[QN]at h ⊢;rcases QM.mp h with e|e
    ·exact QM.mpr (.inl e)
    ·exact QQ _ (i2 g e)
theorem ko(f:Str)(v:V):∀fs:List (Str×V),(k9 f v fs).length<=fs.length+1
 |[]=>by simp[k9]
 |(k,x)::r=>by
  have ih:=ko f v r;rw[show k9 f v ((k,x)::r)=(if k=f then(k,v)::r else(k,x)::k9 f v r)from rfl];by_cases hk:k=f
  ·rw[if_pos hk,QY,QY];omega
  ·rw[if_neg hk,QY,QY];omega
theorem nr.some_of{v:V}{o:Option Q2}(r:nr (some v) o):∃u,o=some u/\bR v u:=by
 cases o with
 |none=>exact(show False from r).elim
 |some u=>exact⟨u,rfl,r⟩
theorem nr.none_of{o:Option Q2}(r:nr none o):o=none:=by
 cases o with
 |none=>rfl
 |some u=>exact(show False from r).elim
theorem v7{v:V}{u:Q2}(r:bR v u):PySem.W.handedIn u=true:=by
 cases v with
 |non=>cases (show u=Value.none from r);rfl
 |bl b=>cases (show u=Value.bool b from r);rfl
 |int i=>obtain⟨t,e⟩:=(show ∃t,u=Value.int i t from r);cases e;rfl
 |str x=>obtain⟨t,e⟩:=(show ∃t,u=Value.str x t from r);cases e;rfl
 |byt b=>obtain⟨t,e⟩:=(show ∃t,u=Value.bytes b t from r);cases e;rfl
 |flt b=>obtain⟨t,e⟩:=(show ∃t,u=Value.float b t from r);cases e;rfl
 |ref a=>cases (show u=Value.ref a from r);rfl
 |ty n=>cases (show u=Value.type n from r);rfl
section
variable{P:Qv}{w:Qe}{H:Hp}{h:Heap}{a C dx:Addr}{fs:List (Str×V)}
theorem p6(hok:HOk P w H h)(e:H a=some (.ins C dx fs)):∃mA,CL h a dx C mA/\(∀f,nr (fs.lookup f) (mA f))/\PySem.Within mA (fs.map (·.1))/\fs.length<=1000/\H dx=some (.own a):=by
 obtain⟨d,z,ne,ob,mA,n,r,q⟩:=(show c8 P w H h a (.ins C dx fs)from hok a _ e);exact⟨mA,⟨ob,n,ne⟩,r,q,z,d⟩
end
structure Cls(K:Q1)(C:Addr):Prop where
 pg:PySem.W.plainGet K C Str.empty=true
 hd:PySem.W.hasDictIn K C=true
 po:PySem.W.plainOver K C=true
 sa:PySem.W.findIn K (.ref C) "__setattr__"=some (some (.builtin "object.__setattr__"))
def Cls.get{K:Q1}{C:Addr}(c:Cls K C)(f:Str):PySem.W.plainGet K C f=true:=c.pg
def gY(K:Q1)(C:Addr)(f:Str):Prop:=PySem.W.findIn K (.ref C) f=some none
theorem gY.taker{K:Q1}{C:Addr}{f:Str}(n:gY K C f):PySem.W.takerIn K C f=some none:=by
 unfold PySem.W.takerIn;rw[show PySem.W.findIn K (.ref C) f=some none from n];rfl
structure CM(K:Q1)(C:Addr)(m:Str)(f:Addr):Prop where
 at_:PySem.W.findIn K (.ref C) m=some (some (.ref f))
 fn:PySem.W.isFn K (.ref f)=true
 kp:PySem.W.keepIn K (.ref f)=true
section
variable{X:Cx}{pins:List (Addr×Obj)}{σ:St}{H:Hp}{s:Q3}{a C dx:Addr}{fs:List (Str×V)}{f:Str}{v:V}{A:Qa}{E:Q2->Q3->Prop}
theorem sV{b:Bool}{Q:Q2->Q3->Prop}(I:Inv X pins σ H s)(e:H a=some (.ins C dx fs))(c:Cls X.K C)(n:gY X.K C f)(l:fs.lookup f=some v)
  (h:∀u s',Inv X pins σ H s'->bR v u->Q u s'):wpAny (Qj X.prog X.w) A (getAttr (.ref a) f b) Q E s:=by
 obtain⟨mA,O,r,_,_,_⟩:=p6 I.hok e;obtain⟨u,hu,ru⟩:=nr.some_of (v:=v) (o:=mA f) (by rw[<-l];exact r f);exact Cm I.kIn O (c.get f) c.hd n hu (v7 ru) (h u _ (I.tok _) ru)
theorem lZ{m:Str}{g:Addr}{pl:Sem Bool}{Q:Q2×List Q2->Q3->Prop}(I:Inv X pins σ H s)(e:H a=some (.ins C dx fs))(c:Cls X.K C)(k:CM X.K C m g)(l:fs.lookup m=none)
  (h:Q (.ref g,[.ref a]) s):wpAny (Qj X.prog X.w) A (getMethod (.ref a) m pl) Q E s:=by
 obtain⟨mA,O,r,_,_,_⟩:=p6 I.hok e;have hn:mA m=none:=nr.none_of (by rw[<-l];exact r m);exact yF I.kIn O (c.get m) k.at_ k.fn hn h
theorem sI{y:V}{u:Q2}{Q:Unit->Q3->Prop}(I:Inv X pins σ H s)(e:H a=some (.ins C dx fs))(c:Cls X.K C)(n:gY X.K C f)(hl:fs.length<1000)(ry:bR y u)
  (h:∀s',Inv X pins σ (upd H a (.ins C dx (k9 f y fs))) s'->Q () s'):wpAny (Qj X.prog X.w) A (setAttr (.ref a) f u) Q E s:=by
 obtain⟨mA,O,r,wi,_,ho⟩:=p6 I.hok e;have hz:(fs.map (·.1)).length<=QD:=by rw[QV,sizeLine_eq];omega
 refine Bk I.kIn O c.sa c.po n.taker c.hd wi hz fun h' O' sb=>h _ ?_;have hd:∃o,h'.get? dx=some o:=let ⟨o,_,_,e',_⟩:=O'.ns;⟨o,e'⟩
 refine I.write (x:=a) (e:=dx) (by rw[e];exact True.intro) (.inr ho) (fun b q hb z=>(sb.2 b hb).trans z) hd ?_;refine⟨by rw[aB O.ne];exact ho,?_,O.ne,O'.obj,_,O'.ns,fun g=>?_,fun g hg=>?_⟩
 ·have:=ko f y fs;omega
 ·show nr ((k9 f y fs).lookup g) (if g=f then some u else mA g);rw[ib];by_cases q:g=f
  ·rw[if_pos q,if_pos q];exact ry
  ·rw[if_neg q,if_neg q];exact r g
 ·by_cases q:g=f
  ·rw[q];exact(d7 f y fs).1
  ·refine(d7 f y fs).2 g (wi g fun z=>hg ?_);show(if g=f then some u else mA g)=none;rw[if_neg q];exact z
theorem Inv.made(I:Inv X pins σ H s):Inv X pins σ (upd (upd H s.heap.objs.size (.own (s.heap.objs.size+1))) (s.heap.objs.size+1) (.ins C s.heap.objs.size []))
  { s with heap:=(s.heap.push PySem.W.emptyDict).push (PySem.W.instObj C s.heap.objs.size) }:=by
 have e1:(s.heap.push PySem.W.emptyDict).get? s.heap.objs.size=some PySem.W.emptyDict:=Qx s.heap rfl;have e2:((s.heap.push PySem.W.emptyDict).push (PySem.W.instObj C s.heap.objs.size)).get? (s.heap.objs.size+1)=some (PySem.W.instObj C s.heap.objs.size):=by
  have:=Qx (s.heap.push PySem.W.emptyDict) (o:=PySem.W.instObj C s.heap.objs.size) rfl;rwa[Zy]at this
 have e3:(s.heap.push PySem.W.emptyDict).Ns s.heap.objs.size (fun _=>none):=⟨PySem.W.emptyDict,#[],_,e1,rfl,(fun e he=>absurd he (by simp)),fun _=>rfl⟩;have I1:=I.laid (a:=s.heap.objs.size) (o:=.own (s.heap.objs.size+1)) (h':=s.heap.push PySem.W.emptyDict) (t':=s.toks) (fun b u q=>Q7 _ q) (Q8 _) ⟨_,e1⟩;refine I1.laid (a:=s.heap.objs.size+1) (o:=.ins C s.heap.objs.size []) (t':=s.toks) (fun b u q=>Q7 _ q) (Nat.le_of_eq (Zy _ _)) ?_;have ne:s.heap.objs.size≠s.heap.objs.size+1:=Qy (Nat.lt_succ_self _);refine⟨by rw[aB ne,aA],Z6 _,ne,e2,fun _=>none,(Heap.Ns1.of_empty e3).at fun o q=>Q7 _ q,fun _=>True.intro,fun y hy=>absurd rfl hy⟩
theorem CD{prog:Qv}{w:Qe}{env:Env}{e:QC}{f:Str}{pos:Pos}{s:Q3}{Q:Q2->Q3->Prop}(hb:attributeBase e f env (eval e env)=eval e env)
  (h:wpAny (Qj prog w) A (eval e env) (fun o s₁=>wpAny (Qj prog w) A (getAttr o f true) Q E s₁) E s):wpAny (Qj prog w) A (eval (.Attribute e f pos) env) Q E s:=
 Attribute_any_ h (by rw[arm_eval_Attribute,hb])
end
def IY(K:Q1)(ta:TE)(f:Str):TE:=fun σ H Q=>ta σ H fun x H1=>∃a C dx fs v,x=.ref a/\H1 a=some (.ins C dx fs)/\Cls K C/\gY K C f/\fs.lookup f=some v/\Q v H1
def I0(K:Q1)(ta tv:TE)(f:Str):TS:=fun D σ H=>tv σ H fun y H1=>ta σ H1 fun x H2=>∃a C dx fs,x=.ref a/\H2 a=some (.ins C dx fs)/\Cls K C/\gY K C f/\fs.length<1000/\
 D.nx σ (upd H2 a (.ins C dx (k9 f y fs)))
section
variable{X:Cx}{o e value:QC}{f:Str}{pos pos':Pos}{ta tv:TE}
theorem EG(he:PE X e ta)(hb:attributeBase e f X.env (eval e X.env)=eval e X.env):PE X (.Attribute e f pos) (IY X.K ta f):=by
 intro pins s σ H Q I h;refine CD hb (thn (he pins s σ H _ I h) fun u s1 hz=>?_);obtain⟨x,H1,I1,rx,a,C,dx,fs,v,ex,ea,c,n,l,q⟩:=hz;subst ex;obtain rfl:u=Value.ref a:=rx;exact sV I1 ea c n l fun u' s2 I2 ru=>⟨v,H1,I2,ru,q⟩
theorem Et(ha:PE X o ta)(hv:PE X value tv)(hs:ZP value (some (.Attribute o f pos')) pos.line X.env=pure false):PS X (.Assign [.Attribute o f pos'] value pos) (I0 X.K ta tv f):=by
 intro pins s σ H D I h;refine plainObj_wpAny_Assign_Attribute (thn (hv pins s σ H _ I h) fun u s1 ⟨y,H1,I1,ry,q⟩=>thn (ha pins s1 σ H1 _ I1 q) fun ov s2 hz=>?_) hs;obtain⟨x,H2,I2,rx,a,C,dx,fs,ex,ea,c,n,l,q2⟩:=hz;subst ex;obtain rfl:ov=Value.ref a:=rx;exact sI I2 ea c n l ry fun s3 I3=>⟨σ,_,I3,q2⟩
end
structure dG(k:Nat)(A:Qa):Prop where
 hd:A.handled=none
 dp:A.depth+3*k+5<recursionLimit
 un:A.units+16*k+200<cLine
 gd:A.guards=some []
def dG.mono{j k:Nat}{A:Qa}(r:dG k A)(h:j<=k):dG j A:=⟨r.hd,by have:=r.dp;omega,by have:=r.un;omega,r.gd⟩
theorem dG.deeper{k:Nat}{A:Qa}(r:dG (k+1) A)(env:Env):dG k (A.deeper env):=
 ⟨r.hd,by have:=r.dp;show A.depth+1+3*k+5<_;omega,by have:=r.un;show A.units+3+16*k+200<_;omega,r.gd⟩
theorem dG.in1{k:Nat}{A:Qa}(r:dG (k+1) A):dG k A.in1:=
 ⟨r.hd,by have:=r.dp;show A.depth+3*k+5<_;omega,by have:=r.un;show A.units+1+16*k+200<_;omega,r.gd⟩
theorem sQ{A:Qa}{C:Addr}{us:List Q2}{kw:List (Str×Q2)}:(A.under (.builtin "type.__call__" ⟨.ref C::us,kw⟩)).depth=A.depth+1:=by
 first|rfl|simp[Around.under,Code.weight,Code.isCreation,Code.isGuard,Code.isCaller,Code.frames,Code.isFrame,guardIds]
theorem sP{A:Qa}{C:Addr}{us:List Q2}{kw:List (Str×Q2)}:(A.under (.builtin "type.__call__" ⟨.ref C::us,kw⟩)).units=A.units+1:=by
 first|rfl|simp[Around.under,Code.cUnits,Code.frames,Code.isFrame]
theorem dG.make{k:Nat}{A:Qa}(r:dG (k+1) A)(C:Addr)(us:List Q2)(kw:List (Str×Q2)):dG k (A.under (.builtin "type.__call__" ⟨.ref C::us,kw⟩)):=
 ⟨r.hd,by have:=r.dp;rw[sQ];omega,by have:=r.un;rw[sP];omega,r.gd⟩
def dG.depth{k:Nat}{A:Qa}(r:dG k A):A.depth<recursionLimit:=by have:=r.dp;omega
def dG.units{k:Nat}{A:Qa}(r:dG k A):A.units+64<cLine:=by have:=r.un;omega
def DY:TA:=fun _ H Q=>Q [] H
def D5(ta:TE)(tr:TA):TA:=fun σ H Q=>ta σ H fun x H1=>tr σ H1 fun xs H2=>Q (x::xs) H2
section
variable{X:Cx}{e:QC}{es:List QC}{te:TE}{t:TA}{pos:Pos}
def EJ:PA X [] DY:=fun _ _ _ _ H Q I h=>Calls.spliced_nil ⟨[],H,I,.nil,h⟩
theorem BP(ha:PE X e te)(hr:PA X es t)(hs:QJ (e::es) X.env=(false,eval e X.env)::QJ es X.env:=by rfl):PA X (e::es) (D5 te t):=by
 intro pos pins s σ H Q I h;rw[hs];show wpAny _ _ (spliced ((false,eval e X.env)::ZQ pos (QJ es X.env))) _ _ s;refine Calls.spliced_cons (thn (ha pins s σ H _ I h) fun u s1 hz=>?_);obtain⟨x,H1,I1,r1,q1⟩:=hz;exact thn (hr pos pins s1 σ H1 _ I1 q1) fun us s2 ⟨xs,H2,I2,r2,q2⟩=>⟨x::xs,H2,I2,.cons r1 r2,q2⟩
def IQ(t:TA):TE:=fun σ H Q=>t σ H fun xs H1=>xs.length<=QD/\∀p,H1 p=none->Q (.ref p) (upd H1 p (.tup xs))
def IW(t:TA):TE:=fun σ H Q=>t σ H fun xs H1=>xs.length<=QD/\∀p,H1 p=none->Q (.ref p) (upd H1 p (.lst xs))
theorem EA{x1}(h:PA X es t):PE X (.Tuple es x1 pos) (IQ t):=by
 intro pins s σ H Q I hq;refine wpAny_Tuple_spliced (thn (h pos pins s σ H _ I hq) fun us s1 ⟨xs,H1,I1,r,z,q⟩=>⟨by rw[<-r.length];exact z,?_⟩);have hf:H1 s1.heap.objs.size=none:=I1.hok.fresh (Q8 _);refine⟨.ref s1.heap.objs.size,upd H1 s1.heap.objs.size (.tup xs),I1.laid (t':=s1.toks) (fun b u e=>Q7 _ e) (Q8 _) ?_,rfl,q _ hf⟩;exact⟨z,us,r,⟨_,Qx _ rfl,⟨rfl,rfl⟩,_,rfl⟩⟩
theorem EE(h:PA X es t):PE X (.List es pos) (IW t):=by
 intro pins s σ H Q I hq;refine wpAny_List_spliced (thn (h pos pins s σ H _ I hq) fun us s1 ⟨xs,H1,I1,r,z,q⟩=>⟨by rw[<-r.length];exact z,?_⟩);have hf:H1 s1.heap.objs.size=none:=I1.hok.fresh (Q8 _);refine⟨.ref s1.heap.objs.size,upd H1 s1.heap.objs.size (.lst xs),I1.laid (t':=s1.toks) (fun b u e=>Q7 _ e) (Q8 _) ?_,rfl,q _ hf⟩;exact⟨z,us,0,r,Qx _ rfl⟩
end
abbrev Sp:=List V->Hp->VK->XK->Prop
abbrev CXT:=List Env->Hp->Q3->XK->Q2->Q3->Prop
structure qC(P:Qv)(w:Qe)(K:Q1)(mg:Str->Option Q2)(base:Heap)(A:Qa)(outer:List Env)(s:Q3)(H:Hp):Prop where
 frames:A.frames=some outer
 mod:Mod K mg base
 bs:∀b o,base.get? b=some o->s.heap.get? b=some o/\H b=none
 bsz:base.objs.size<=s.heap.objs.size
 funs:s.heap.FunFrames base outer
 frf:∀b∈frs outer,H b=none
 hok:HOk P w H s.heap
 bare:AllBare s.gens
def CE(outer:List Env)(P:Qv)(w:Qe)(H:Hp)(s:Q3)(Q:VK)(u:Q2)(s':Q3):Prop:=
 ∃v H',s'.os=s.os/\AllBare s'.gens/\Un (frs outer) [] H H' s.heap s'.heap/\HOk P w H' s'.heap/\bR v u/\Q v H'
def CR(CX:CXT)(outer:List Env)(P:Qv)(w:Qe)(H:Hp)(s:Q3)(Q:VK)(E:XK)(r:Result)(s':Q3):Prop:=
 match r with
 |.ok (.ret u)=>CE outer P w H s Q u s'
 |.ok _=>False
 |.error e=>CX outer H s E e s'
structure jx(P:Qv)(w:Qe)(K:Q1)(mg:Str->Option Q2)(base:Heap)(CX:CXT)(k:Nat)(f:Addr)(fd:ZN)(ps:List Str)(sp:Sp):Prop where
 len:∀vs H Q E,sp vs H Q E->vs.length=ps.length
 run:∀(A:Qa) (outer:List Env) (s:Q3) (H:Hp) (args:Args) (us:List Q2) (vs:List V) (Q:VK) (E:XK),dG k A->qC P w K mg base A outer s H->BindsTo s fd args (ps.zip us)->bD vs us->sp vs H Q E->
  codeAny (Qj P w) A (.call (.ref f) args) (CR CX outer P w H s Q E) s
theorem jx.mono{P:Qv}{w:Qe}{K:Q1}{mg:Str->Option Q2}{base:Heap}{CX:CXT}{j k:Nat}{f:Addr}{fd:ZN}{ps:List Str}{sp:Sp}(F:jx P w K mg base CX j f fd ps sp)(h:j<=k) :
  jx P w K mg base CX k f fd ps sp:=⟨F.len,fun A outer s H args us vs Q E hr=>F.run A outer s H args us vs Q E (hr.mono h)⟩
theorem qC.make{P:Qv}{w:Qe}{K:Q1}{mg:Str->Option Q2}{base:Heap}{A:Qa}{outer:List Env}{s:Q3}{H:Hp}(e:qC P w K mg base A outer s H)(C:Addr)(us:List Q2)(kw:List (Str×Q2)) :
  qC P w K mg base (A.under (.builtin "type.__call__" ⟨.ref C::us,kw⟩)) outer s H:=⟨by first|exact e.frames|(simpa [Around.under,Code.envs,Code.isFrame,pushEnvs] using e.frames),e.mod,e.bs,e.bsz,e.funs,e.frf,e.hok,e.bare⟩
theorem qC.in1{P:Qv}{w:Qe}{K:Q1}{mg:Str->Option Q2}{base:Heap}{A:Qa}{outer:List Env}{s:Q3}{H:Hp}(e:qC P w K mg base A outer s H) :
  qC P w K mg base A.in1 outer s H:=⟨e.frames,e.mod,e.bs,e.bsz,e.funs,e.frf,e.hok,e.bare⟩
section
variable{X:Cx}{pins:List (Addr×Obj)}{σ:St}{H:Hp}{s s':Q3}
theorem Inv.env0(I:Inv X pins σ H s):qC X.prog X.w X.K X.mg X.base X.A X.stack s H:=
 ⟨I.ok.frames,I.ok.mod,I.bs,Qb I.ok.bsz I.sz,I.stack,I.stkFree,I.hok,I.bare⟩
theorem Inv.after{Q:VK}{u:Q2}(I:Inv X pins σ H s)(h:CE X.stack X.prog X.w H s Q u s'):EP X pins σ Q u s':=by
 obtain⟨v,H',os,bare,un,hok,r,q⟩:=h;obtain⟨hh,g,d,t,os'⟩:=s';obtain rfl:os'=s.os:=os;exact⟨v,H',I.call (h':=hh) (g':=g) (d':=d) (t':=t) (ch:=[]) un hok bare (fun b z=>absurd z (by simp)),r,q⟩
end
def Be(sp:Sp)(dvs:List V)(E:XK)(t:TA):TE:=fun σ H Q=>t σ H fun vs H1=>sp (vs++dvs) H1 Q E
def ux(C:Addr)(m:Str)(sp:Sp)(dvs:List V)(E:XK)(ta:TE)(t:TA):TE:=fun σ H Q=>ta σ H fun x H1=>∃a dx fs,x=.ref a/\H1 a=some (.ins C dx fs)/\fs.lookup m=none/\
 t σ H1 fun vs H2=>sp (x::(vs++dvs)) H2 Q E
def Bb(C:Addr)(sp:Sp)(dvs:List V)(E:XK)(t:TA):TE:=fun σ H Q=>t σ H fun vs H1=>∀x dx,H1 x=none->H1 dx=none->dx≠x->
 sp (.ref x::(vs++dvs)) (upd (upd H1 dx (.own x)) x (.ins C dx [])) (fun v H2=>v=.non/\Q (.ref x) H2) E
def fN(K:Q1)(fd:ZN)(ps:List Str)(ds:List Q2):Prop:=
 ∀(s:Q3) (us:List Q2),K.In s.heap->(us++ds).length=ps.length->BindsTo s fd ⟨us,[]⟩ (ps.zip (us++ds))
theorem fN.all{K:Q1}{fd:ZN}{ps:List Str}(h:∀us:List Q2,us.length=ps.length->bindArgs fd ⟨us,[]⟩=pure (ps.zip us)):fN K fd ps []:=fun s us _ hl=>by
 rw[Qc]at hl ⊢;exact .of_eq (h us hl)
def gF(CX:CXT)(X:Cx)(E:XK):Prop:=∀(pins:List (Addr×Obj)) (σ:St) (H:Hp) (s:Q3) (e:Q2) (s':Q3),Inv X pins σ H s->CX X.stack H s E e s'->X.xe e s'
section
variable{X:Cx}{CX:CXT}{k:Nat}{f C:Addr}{fd:ZN}{ps:List Str}{sp:Sp}{dvs:List V}{ds:List Q2}{E:XK}{x m:Str}{p pos apos:Pos}{e o:QC}{es:List QC}{ta:TE}{t:TA}
theorem qV{pins:List (Addr×Obj)}{σ:St}{H:Hp}{s:Q3}{Q:VK}{us:List Q2}{vs:List V}(F:jx X.prog X.w X.K X.mg X.base CX k f fd ps sp)(hr:dG k X.A)(hb:fN X.K fd ps ds)(hd:bD dvs ds)(hx:gF CX X E)
  (I:Inv X pins σ H s) (r:bD vs us) (h:sp (vs++dvs) H Q E):wpAny (Qj X.prog X.w) X.A (call (.ref f) us) (EP X pins σ Q) X.xe s:=by
 have r2:bD (vs++dvs) (us++ds):=r.append hd;have hl:(us++ds).length=ps.length:=by rw[<-r2.length];exact F.len _ _ _ _ h
 refine wpAny_call (codeAny_mono (F.run X.A X.stack s H ⟨us,[]⟩ (us++ds) (vs++dvs) Q E hr I.env0 (hb s us I.kIn hl) r2 h) fun r s' hq=>?_);cases r with
 |error e=>exact hx pins σ H s e s' I hq
 |ok fl=>
  cases fl with
  |ret u=>exact I.after hq
  |next=>exact False.elim hq
  |brk=>exact False.elim hq
  |cont=>exact False.elim hq
theorem BO(F:jx X.prog X.w X.K X.mg X.base CX k f fd ps sp)(hr:dG k X.A)(hg:Gl X x)(hm:X.mg x=some (.ref f))(hk:PySem.W.keepIn X.K (.ref f)=true)(hb:fN X.K fd ps ds)(hd:bD dvs ds)(hx:gF CX X E)
  (ha:PA X (e::es) t) (hdb:(x == ("__debug__":Str))=false:=by decide) (he:QJ (e::es) X.env=(false,eval e X.env)::QJ es X.env:=by rfl) (hpl:(ZQ pos (QJ es X.env)).any (·.1)=false:=by rfl) :
  PE X (.Call (.Name x p) (e::es) [] pos) (Be sp dvs E t):=by
 intro pins s σ H Q I h;refine wpAny_Call_Name_kw (pW I hg hm ?_ hdb);refine PySem.W.callWith_K (h₀:=X.base) I.ok.mod.kin hk (thn (ha pos pins s σ H _ I h) fun us s1 ⟨vs,H1,I1,r,q⟩=>⟨I1.kIn,?_⟩) he hpl;exact qV F hr hb hd hx I1 r q
theorem ye(F:jx X.prog X.w X.K X.mg X.base CX k f fd ps sp)(hr:dG k X.A)(hg:Gl X x)(hm:X.mg x=some (.ref f))(hk:PySem.W.keepIn X.K (.ref f)=true)(hb:fN X.K fd ps ds)(hd:bD dvs ds)(hx:gF CX X E)
  (hdb:(x == ("__debug__":Str))=false:=by decide):PE X (.Call (.Name x p) [] [] pos) (Be sp dvs E DY):=by
 intro pins s σ H Q I h;refine wpAny_Call_Name_kw (pW I hg hm ?_ hdb);exact PySem.W.callWith_K0 I.kIn hk (qV (us:=[]) F hr hb hd hx I .nil h)
theorem BK{pl:Sem Bool}(he:PE X o ta)(c:Cls X.K C)(hm:CM X.K C m f)(F:jx X.prog X.w X.K X.mg X.base CX k f fd ps sp)(hr:dG k X.A)(hb:fN X.K fd ps ds)(hd:bD dvs ds)(hx:gF CX X E)(ha:PA X (e::es) t)
  (hst:QJ (e::es) X.env=(false,eval e X.env)::QJ es X.env:=by rfl) (hpl:(ZQ pos (QJ es X.env)).any (·.1)=false:=by rfl)
  (ht:eval (.Call (.Attribute o m apos) (e::es) [] pos) X.env=(do
   let ov <-eval o X.env
   standAt apos.atName
   let (f,first) <-holding [ov] (getMethod ov m pl)
   callWith pos f first (ZQ pos (QJ (e::es) X.env)) (backToKw pos (keywordEach [] X.env))):=by rfl) :
  PE X (.Call (.Attribute o m apos) (e::es) [] pos) (ux C m sp dvs E ta t):=by
 intro pins s σ H Q I h;refine PySem.W.methodCall_KW (pl:=pl) (thn (he pins s σ H _ I h) fun u s1 hz=>?_) ht;obtain⟨x,H1,I1,rx,a,dx,fs,ex,ea,l,q⟩:=hz;subst ex;obtain rfl:u=Value.ref a:=rx;refine lZ I1 ea c hm l ?_;refine PySem.W.callWith_K (first:=[.ref a]) (h₀:=X.base) I.ok.mod.kin hm.kp (thn (ha pos pins s1 σ H1 _ I1 q) fun us s2 ⟨vs,H2,I2,r,q2⟩=>⟨I2.kIn,?_⟩) hst hpl;exact qV (us:=.ref a::us) (vs:=.ref a::vs) F hr hb hd hx I2 (.cons rfl r) q2
theorem x6{pl:Sem Bool}(he:PE X o ta)(c:Cls X.K C)(hm:CM X.K C m f)(F:jx X.prog X.w X.K X.mg X.base CX k f fd ps sp)(hr:dG k X.A)(hb:fN X.K fd ps ds)(hd:bD dvs ds)(hx:gF CX X E)
  (ht:eval (.Call (.Attribute o m apos) [] [] pos) X.env=(do
   let ov <-eval o X.env
   standAt apos.atName
   let (f,first) <-holding [ov] (getMethod ov m pl)
   callWith pos f first (ZQ pos (QJ [] X.env)) (backToKw pos (keywordEach [] X.env))):=by rfl) :
  PE X (.Call (.Attribute o m apos) [] [] pos) (ux C m sp dvs E ta DY):=by
 intro pins s σ H Q I h;refine PySem.W.methodCall_KW (pl:=pl) (thn (he pins s σ H _ I h) fun u s1 hz=>?_) ht;obtain⟨x,H1,I1,rx,a,dx,fs,ex,ea,l,q⟩:=hz;subst ex;obtain rfl:u=Value.ref a:=rx;refine lZ I1 ea c hm l ?_;exact PySem.W.callWith_K0 (first:=[.ref a]) I1.kIn hm.kp (qV (us:=[.ref a]) (vs:=[.ref a]) F hr hb hd hx I1 (.cons rfl .nil) q)
structure Mk(K:Q1)(C f:Addr):Prop where
 makes:PySem.W.makesIn K C=true
 init:PySem.W.findIn K (.ref C) "__init__"=some (some (.ref f))
 fn:PySem.W.isFn K (.ref f)=true
 kp:PySem.W.keepIn K (.ref C)=true
theorem xJ{pins:List (Addr×Obj)}{σ:St}{H:Hp}{s:Q3}{Q:VK}{us:List Q2}{vs:List V}(M:Mk X.K C f)(F:jx X.prog X.w X.K X.mg X.base CX k f fd ps sp)(hr:dG (k+1) X.A)(hb:fN X.K fd ps ds)(hd:bD dvs ds)
  (hx:gF CX X E) (I:Inv X pins σ H s) (r:bD vs us)
  (h:∀x dx,H x=none->H dx=none->dx≠x->sp (.ref x::(vs++dvs)) (upd (upd H dx (.own x)) x (.ins C dx [])) (fun v H2=>v=.non/\Q (.ref x) H2) E) :
  wpAny (Qj X.prog X.w) X.A (call (.ref C) us) (EP X pins σ Q) X.xe s:=by
 have hq:=h (s.heap.objs.size+1) s.heap.objs.size (I.hok.fresh (Nat.le_succ _)) (I.hok.fresh (Q8 _)) (Qy (Nat.lt_succ_self _));have I2:=Inv.made (C:=C) I;have r2:bD (V.ref (s.heap.objs.size+1)::(vs++dvs)) (Value.ref (s.heap.objs.size+1)::(us++ds)):=.cons rfl (r.append hd);have hl:(Value.ref (s.heap.objs.size+1)::us++ds).length=ps.length:=by
  have e:=r2.length;rw[F.len _ _ _ _ hq]at e;exact e.symm
 refine wpAny_call (yo (f:=f) I.kIn M.makes M.init (beq_iff_eq.mp M.fn) (codeAny_mono (F.run _ X.stack _ _ ⟨Value.ref (s.heap.objs.size+1)::us,[]⟩ (Value.ref (s.heap.objs.size+1)::(us++ds)) _ _ E (hr.make C us [])
  (I2.env0.make C us []) (hb _ (Value.ref (s.heap.objs.size+1)::us) I2.kIn hl) r2 hq) fun r s' hq'=>?_))
 cases r with
 |error e=>exact hx pins σ _ _ e s' I2 hq'
 |ok fl=>
  cases fl with
  |ret u=>
   obtain⟨v,H',I3,rv,ev,q3⟩:=I2.after hq';subst ev;exact⟨rv,⟨V.ref (s.heap.objs.size+1),H',I3,rfl,q3⟩⟩
  |next=>exact False.elim hq'
  |brk=>exact False.elim hq'
  |cont=>exact False.elim hq'
theorem BL(M:Mk X.K C f)(F:jx X.prog X.w X.K X.mg X.base CX k f fd ps sp)(hr:dG (k+1) X.A)(hg:Gl X x)(hm:X.mg x=some (.ref C))(hb:fN X.K fd ps ds)(hd:bD dvs ds)(hx:gF CX X E)
  (ha:PA X (e::es) t) (hdb:(x == ("__debug__":Str))=false:=by decide) (he:QJ (e::es) X.env=(false,eval e X.env)::QJ es X.env:=by rfl) (hpl:(ZQ pos (QJ es X.env)).any (·.1)=false:=by rfl) :
  PE X (.Call (.Name x p) (e::es) [] pos) (Bb C sp dvs E t):=by
 intro pins s σ H Q I h;refine wpAny_Call_Name_kw (pW I hg hm ?_ hdb);refine PySem.W.callWith_K (h₀:=X.base) I.ok.mod.kin M.kp (thn (ha pos pins s σ H _ I h) fun us s1 ⟨vs,H1,I1,r,q⟩=>⟨I1.kIn,?_⟩) he hpl;exact xJ M F hr hb hd hx I1 r q
end
structure aM(N P:List Str)(sc:Zq):Prop where
 kind:sc.kind=.function
 co:sc.isCoroutine=false
 gen:sc.isGenerator=false
 nd:N.Nodup
 pre:N.take P.length=P
 par:∀x∈P,sc.names.lookup x=some .local\/sc.names.lookup x=some .cell
 nofree:∀y∈sc.names,y.2≠.free
theorem oG{kindOf:Str->Option NameKind}{x:Str}:∀{binds:List (Str×Q2)} {m:Str->Option Q2},(∀v,(x,v)∉binds)->bindL kindOf binds m x=m x
 |[],_,_=>rfl
 |(n,v)::r,m,h=>by
  unfold bindL;rw[oG fun w hw=>h w (QQ _ hw)];split
  ·have:x≠n:=by rintro rfl;exact h v QZ
   simp[this]
  ·rfl
theorem oI{kindOf:Str->Option NameKind}{x:Str}:∀{binds:List (Str×Q2)} {m:Str->Option Q2},(∀v,(x,v)∉binds)->bindC kindOf binds m x=m x
 |[],_,_=>rfl
 |(n,v)::r,m,h=>by
  unfold bindC;rw[oI fun w hw=>h w (QQ _ hw)];split
  ·rfl
  ·have:x≠n:=by rintro rfl;exact h v QZ
   simp[this]
theorem oH{kindOf:Str->Option NameKind}{x:Str}{v:Q2}:∀{P:List Str} {vs:List Q2} {i:Nat} {m:Str->Option Q2},P.Nodup->P[i]?=some x->vs[i]?=some v->kindOf x=some .local->
  bindL kindOf (P.zip vs) m x=some v
 |[],_,_,_,_,h,_,_=>by simp at h
 |_::_,[],_,_,_,_,h,_=>by simp at h
 |p::P,w::vs,0,m,nd,h1,h2,hk=>by
  simp at h1 h2;subst h1;subst h2;show bindL kindOf ((p,w)::P.zip vs) m p=_;unfold bindL;rw[oG fun v hv=>(ZR.mp nd).1 (List.of_mem_zip hv).1,if_pos hk];simp
 |p::P,w::vs,i+1,m,nd,h1,h2,hk=>by
  show bindL kindOf ((p,w)::P.zip vs) m x=_;unfold bindL;exact oH (i:=i) (ZR.mp nd).2 (by simpa using h1) (by simpa using h2) hk
theorem oJ{kindOf:Str->Option NameKind}{x:Str}{v:Q2}:∀{P:List Str} {vs:List Q2} {i:Nat} {m:Str->Option Q2},P.Nodup->P[i]?=some x->vs[i]?=some v->kindOf x≠some .local->
  bindC kindOf (P.zip vs) m x=some v
 |[],_,_,_,_,h,_,_=>by simp at h
 |_::_,[],_,_,_,_,h,_=>by simp at h
 |p::P,w::vs,0,m,nd,h1,h2,hk=>by
  simp at h1 h2;subst h1;subst h2;show bindC kindOf ((p,w)::P.zip vs) m p=_;unfold bindC;rw[oI fun v hv=>(ZR.mp nd).1 (List.of_mem_zip hv).1,if_neg hk];simp
 |p::P,w::vs,i+1,m,nd,h1,h2,hk=>by
  show bindC kindOf ((p,w)::P.zip vs) m x=_;unfold bindC;exact oJ (i:=i) (ZR.mp nd).2 (by simpa using h1) (by simpa using h2) hk
def iL(N:List Str)(vs:List V):St:=vs.map some++QU (N.length-vs.length) none
def oX(CX:CXT)(P:Qv)(w:Qe)(K:Q1)(mg:Str->Option Q2)(base:Heap)(N:List Str)(qual:Str)(scope:Zq)(f:Addr)(cd:Q2)(A:Qa)(outer:List Env)(s:Q3)(H:Hp)(E:XK):Cx where
 prog:=P
 w:=w
 K:=K
 mg:=mg
 base:=base
 A:=A.deeper (envOfC qual scope s.heap.objs.size f cd)
 N:=N
 s₀:=s
 H₀:=H
 env:=envOfC qual scope s.heap.objs.size f cd
 outer:=outer
 stack:=envOfC qual scope s.heap.objs.size f cd::outer
 ex:=[]
 calm:=true
 fn:=fun _=>true
 pn:=[]
 xe:=fun e s'=>wpAny (Qj P w) (A.deeper (envOfC qual scope s.heap.objs.size f cd)) (leaving (envOfC qual scope s.heap.objs.size f cd) e) (fun _ s''=>CX outer H s E e s'') (fun e' s''=>CX outer H s E e' s'') s'
theorem sd{sc:Zq}{n:Nat}{x:Str}(h:sc.names.lookup x=some .cell):∃c,(cellsFrom n sc.names []).lookup x=some c:=by
 have q:=PySem.W.cellsFrom_some sc.names n [] (.inl h);exact Qm.mp q
theorem vW{CX:CXT}{P:Qv}{w:Qe}{K:Q1}{mg:Str->Option Q2}{base:Heap}{N ps:List Str}{qual:Str}{scope:Zq}{f:Addr}{cd:Q2}{A:Qa}{outer:List Env}{s s1:Q3}{H:Hp}{E:XK}{us:List Q2}{vs:List V}
  (S:aM N ps scope) (hd:A.handled=none) (e0:qC P w K mg base A outer s H) (hl:vs.length=ps.length) (r:bD vs us)
  (x:InCallC s s.heap.objs.size (bindL (envOfC qual scope s.heap.objs.size f cd).kindOf (ps.zip us) fun _=>none) (cellsFrom (s.heap.objs.size+1) scope.names []) (bindC (envOfC qual scope s.heap.objs.size f cd).kindOf (ps.zip us) fun _=>none) s1) :
  Inv (oX CX P w K mg base N qual scope f cd A outer s H E) [] (iL N vs) H s1:=by
 have hpl:ps.length<=N.length:=by have:=congrArg List.length S.pre;rw[List.length_take]at this;omega
 obtain⟨h1,tk,rfl,hk⟩:=x.done;have noA:∀b:Addr,b∉(oX CX P w K mg base N qual scope f cd A outer s H E).ex:=fun b z=>absurd (show b∈([]:List Addr)from z) (by simp);refine⟨⟨e0.mod,S.kind,rfl,rfl,Q8 _,fun y z c h1 h2=>?_,fun y hy=>?_,fun y c _ h=>?_,fun _=>hd,Around.frames_deeper e0.frames,.inr ⟨rfl,rfl⟩,fun b z=>absurd z (noA b),e0.bs,e0.bsz,fun b _ _=>noA b,fun b z=>absurd z (noA b),e0.funs,e0.frf⟩,
  rfl,e0.bare,Un.kept hk,⟨_,x.toInCall.ns,fun i y v h1 h2 h3=>?_⟩,fun y c h=>⟨_,x.cell y c h⟩,e0.hok.fresh (Q8 _),fun y c h=>?_,fun p hp=>absurd (show p∈([]:List (Addr×Obj))from hp) (by simp),e0.hok.kept hk,?_⟩
 ·exact name_of_addr x.apart (PySem.mem_of_lookup h1) (PySem.mem_of_lookup h2)
 ·have hy:scope.names.lookup y=some .cell\/scope.names.lookup y=some .free:=hy;rcases hy with hy|hy
  ·exact sd hy
  ·exact absurd rfl (S.nofree _ (PySem.mem_of_lookup hy))
 ·exact Nat.le_of_lt (x.above y c (PySem.mem_of_lookup h))
 ·have hi:i<vs.length:=by
   unfold iL at h2;by_cases hi:i<vs.length
   ·exact hi
   ·rw[Qn (by simpa using hi)]at h2;rw[ZG]at h2;split at h2<;>cases h2
  have ha:vs[i]?=some v:=by
   unfold iL at h2;rw[Qt (by simpa using hi),Qu]at h2;cases e:vs[i]? with
   |none=>rw[e]at h2;cases h2
   |some a=>rw[e]at h2;cases h2;rfl
  obtain⟨u,hu,rv⟩:=r.get ha;have hp:ps[i]?=some y:=by
   rw[<-S.pre,List.getElem?_take_of_lt (by omega)];exact h1
  have ndP:ps.Nodup:=by rw[<-S.pre];exact S.nd.sublist (List.take_sublist _ _)
  refine⟨u,rv,?_⟩;rcases S.par y (Zg hp)with k|k
  ·exact .inl ⟨k,oH ndP hp hu k⟩
  ·obtain⟨c,e⟩:=sd (n:=s.heap.objs.size+1) k;refine .inr ⟨.inl k,c,e,?_⟩;have q:=x.cell y c e;rw[oJ ndP hp hu (by show scope.names.lookup y≠_;rw[k];decide)]at q;exact q
 ·exact e0.hok.fresh (Nat.le_of_lt (x.above y c (PySem.mem_of_lookup h)))
 ·unfold iL;show _=N.length;rw[Qr,QV,List.length_replicate];omega
theorem Fv{CX:CXT}{P:Qv}{w:Qe}{K:Q1}{mg:Str->Option Q2}{base:Heap}{k:Nat}{f:Addr}{name qual:Str}{params:Arguments}{body:List Z0}{scope:Zq}{dV kV doc pm cdv ct oc:Q2}{an od:Option Addr}
  {osl:Array (Option Q2)} {N ps:List Str} {sp:Sp} (lk:K.lookup f=some ⟨oc,od,.func (PySem.W.fnOf name qual params body scope dV kV doc pm an cdv ct),osl⟩) (hcd:PySem.W.codeIn K cdv qual=true) (S:aM N ps scope)
  (len:∀vs H Q E,sp vs H Q E->vs.length=ps.length)
  (hbody:∀(A:Qa) (outer:List Env) (s:Q3) (H:Hp) (vs:List V) (Q:VK) (E:XK),dG k (A.deeper (envOfC qual scope s.heap.objs.size f cdv))->sp vs H Q E->
   ∃t,PSs (oX CX P w K mg base N qual scope f cdv A outer s H E) body t/\t { nx:=fun _ H'=>Q .non H',rt:=Q } (iL N vs) H) :
  jx P w K mg base CX (k+1) f (PySem.W.fnOf name qual params body scope dV kV doc pm an cdv ct) ps sp:=by
 refine⟨len,fun A outer s H args us vs Q E hr e0 hb r hsp=>?_⟩;have hl:=len _ _ _ _ hsp;have KX:K.In s.heap:=e0.mod.kin.keeps fun b o e=>(e0.bs b o e).1;have lim:s.heap.NoLimit:=e0.mod.nolimit.keeps fun b o e=>(e0.bs b o e).1;have hkind:∀y∈ps.zip us,scope.names.lookup y.1=some .local\/(scope.names.lookup y.1=some .cell/\((cellsFrom (s.heap.objs.size+1) scope.names []).lookup y.1).isSome=true):=fun⟨n,v⟩ hy=>by
  rcases S.par n (List.of_mem_zip hy).1 with q|q
  ·exact .inl q
  ·exact .inr ⟨q,PySem.W.cellsFrom_some _ _ _ (.inl q)⟩
 refine codeAny_call_function hr.depth (KX _ _ lk) rfl S.co S.gen rfl (PySem.W.codeRec_of KX hcd) (hb _ _ _ _ ?_);refine wpAny_newFunctionEnv_cells S.kind hkind fun env he s1 x=>?_;subst he;refine⟨lim.keeps x.toInCall.keep,codeAny_func ?_⟩;obtain⟨t,ht,hq⟩:=hbody A outer s H vs Q E (hr.deeper _) hsp;have I:Inv (oX CX P w K mg base N qual scope f cdv A outer s H E) [] (iL N vs) H s1:=vW S hr.hd e0 hl r x;refine ZX (ht [] s1 (iL N vs) H _ I hq) (fun fl s' hs=>?_) fun e s' hs=>hs;have fin:∀{σ':St} {H':Hp} {v:V} {u:Q2},Inv (oX CX P w K mg base N qual scope f cdv A outer s H E) [] σ' H' s'->bR v u->Q v H'->CE outer P w H s Q u s':=
  fun{σ' H' v u} J rv q=>⟨v,H',J.os,J.bare,J.base,J.hok,rv,q⟩
 cases fl with
 |ret u=>
  obtain⟨v,σ',H',J,rv,q⟩:=hs;exact fin J rv q
 |next=>
  obtain⟨σ',H',J,q⟩:=hs;exact fin (v:=V.non) (u:=Value.none) J rfl q
 |brk=>
  obtain⟨_,_,_,q⟩:=hs;exact False.elim q
 |cont=>
  obtain⟨_,_,_,q⟩:=hs;exact False.elim q
section
variable{X:Cx}{x:Str}{p pos:Pos}{e:QC}{es:List QC}{t:TA}{id T:String}{r:List V->Hp->VK->Prop}
def tCB(r:List V->Hp->VK->Prop)(t:TA):TE:=fun σ H Q=>t σ H fun vs H1=>r vs H1 Q
theorem yd(hc:fq X (.builtin id) r)(hg:Gl X x)(hm:X.mg x=none)(hv:Z7 x=some (.builtin id))(ha:PA X (e::es) t)(hn:x≠"__name__":=by decide)(hdb:(x == ("__debug__":Str))=false:=by decide)
  (he:QJ (e::es) X.env=(false,eval e X.env)::QJ es X.env:=by rfl) (hpl:(ZQ pos (QJ es X.env)).any (·.1)=false:=by rfl):PE X (.Call (.Name x p) (e::es) [] pos) (tCB r t):=by
 intro pins s σ H Q I h;refine wpAny_Call_Name_kw (kq I hg hm hv ?_ hn hdb);exact PyProof.Rows.callWith_builtin1 (thn (ha pos pins s σ H _ I h) fun us s1 ⟨vs,H1,I1,r1,q1⟩=>hc pins s1 σ H1 vs us Q I1 r1 q1) he hpl
theorem uX(hc:fq X (.type T) r)(hg:Gl X x)(hm:X.mg x=none)(hv:Z7 x=some (.type T))(ha:PA X (e::es) t)(hn:x≠"__name__":=by decide)(hdb:(x == ("__debug__":Str))=false:=by decide)
  (he:QJ (e::es) X.env=(false,eval e X.env)::QJ es X.env:=by rfl) (hpl:(ZQ pos (QJ es X.env)).any (·.1)=false:=by rfl):PE X (.Call (.Name x p) (e::es) [] pos) (tCB r t):=by
 intro pins s σ H Q I h;refine wpAny_Call_Name_kw (kq I hg hm hv ?_ hn hdb);exact PyProof.Rows.callWith_type1 (thn (ha pos pins s σ H _ I h) fun us s1 ⟨vs,H1,I1,r1,q1⟩=>hc pins s1 σ H1 vs us Q I1 r1 q1) he hpl
end
end L2
namespace HT
open PySem PyProof.Rows
section
variable{prog:Qv}{w:Qe}{A:Qa}{E:Q2->Q3->Prop}{s:Q3}
theorem cat_tup{t b:Addr}{vs ws:List Q2}{Q:Q2->Q3->Prop}(ht:IsTup s.heap t vs.toArray)(hb:IsTup s.heap b ws.toArray)(hv:vs≠[])
  (h1:ws=[]->Q (.ref t) s) (h2:ws≠[]->Q (.ref s.heap.objs.size) { s with heap:=s.heap.push { cls:=.type "tuple",data:=.seq (vs++ws).toArray } })
  (hsz:vs.length+ws.length<=QD):wpAny (Qj prog w) A (binaryOp .Add (.ref t) (.ref b)) Q E s:=by
 obtain⟨⟨cls,dd,data,sl⟩,ho,hc,n,hd⟩:=id ht;obtain⟨⟨cls2,dd2,data2,sl2⟩,ho2,hc2,n2,hd2⟩:=id hb;simp only at hc hd hc2 hd2;subst hc hd hc2 hd2;have e:vs.toArray++ws.toArray=(vs++ws).toArray:=by simp
 by_cases hw:ws=[]
 ·exact concat_meets ⟨_,ho,rfl⟩ ⟨_,ho2,rfl⟩ noFill_tuple_add seq_tuple_add PySem.F.slot_tuple_add PySem.F.entry_tuple_add (PySem.F.args_tuple_add_2 _ _)
   (tuple_addW1 t b vs.toArray ws.toArray n n2 dd dd2 sl sl2 (by simpa using hv) (by simp[hw])) ⟨ho,ho2,h1 hw⟩
 ·refine concat_meets ⟨_,ho,rfl⟩ ⟨_,ho2,rfl⟩ noFill_tuple_add seq_tuple_add PySem.F.slot_tuple_add PySem.F.entry_tuple_add (PySem.F.args_tuple_add_2 _ _)
   (tuple_addW2 t b vs.toArray ws.toArray n n2 dd dd2 sl sl2 (by simpa using hv) (by simpa using hw) (by rw[QF,QF];exact hsz)) ⟨ho,ho2,?_⟩
  rw[e];exact h2 hw
def sIx(n d:Nat):Option Int->Nat
 |none=>d
 |some v=>if v<0 then(v+(n:Int)).toNat else min v.toNat n
def sIx_none(n d:Nat):sIx n d none=d:=rfl
theorem sIx_nat(n d k:Nat):sIx n d (some (k:Int))=min k n:=by
 show(if (k:Int)<0 then((k:Int)+(n:Int)).toNat else min (k:Int).toNat n)=min k n;rw[if_neg (by omega),Zx]
theorem Ea(n d:Nat)(hd:d<=n)(o:Option Int):sIx n d o<=n:=by
 cases o with
 |none=>exact hd
 |some v=>
  show(if v<0 then(v+(n:Int)).toNat else min v.toNat n)<=n;by_cases hv:v<0
  ·rw[if_pos hv];omega
  ·rw[if_neg hv];exact Nat.min_le_right _ _
theorem wG(v:Int)(n d:Nat):(if v<0 then max (v+(n:Int)) 0 else min v (n:Int))=((sIx n d (some v):Nat):Int):=by
 show(if v<0 then max (v+(n:Int)) 0 else min v (n:Int))=(((if v<0 then(v+(n:Int)).toNat else min v.toNat n):Nat):Int);by_cases hv:v<0
 ·simp only[if_pos hv];omega
 ·simp only[if_neg hv];omega
theorem tq(lo hi:Option Int)(n:Nat):Builtin.Slice.sliceAdjust lo hi 1 (n:Int)=(((sIx n 0 lo:Nat):Int),((sIx n n hi:Nat):Int)):=by
 have h1:¬((1:Int)<0):=by omega
 unfold Builtin.Slice.sliceAdjust;simp only[h1,if_false];refine Prod.ext ?_ ?_
 ·cases lo with
  |none=>rfl
  |some v=>exact wG v n 0
 ·cases hi with
  |none=>rfl
  |some v=>exact wG v n n
theorem sM(i j:Nat):Builtin.Slice.slicePlaces (i:Int) (j:Int) 1=j-i:=by
 unfold Builtin.Slice.slicePlaces;have h1:(1:Int)>0:=by omega
 simp only[h1,if_true,Int.ediv_one];split<;>omega
theorem lP{v:Q2}{o:Option Int}{Q:Option Int->Q3->Prop}(p:IsPart v o)(h:Q o s):wpAny (Qj prog w) A (Builtin.Slice.slicePartIndex v) Q E s:=by
 cases p with
 |none=>exact slicePart_none h
 |int i t=>exact slicePart_int h
theorem fO{sl:Addr}{vl vu:Q2}{lo hi:Option Int}{n:Nat}{Q:Int×Int×Nat->Q3->Prop}(hs:s.heap.IsSliceOf sl vl vu .none)(pl:IsPart vl lo)(pu:IsPart vu hi)
  (h:Q (((sIx n 0 lo:Nat):Int),1,sIx n n hi-sIx n 0 lo) s):wpAny (Qj prog w) A (Builtin.Slice.sliceApplied (.ref sl) (pure (n:Int))) Q E s:=by
 obtain⟨os,hos,hcs,hds⟩:=id hs;unfold Builtin.Slice.sliceApplied Builtin.Slice.sliceFields;refine Q5 (Q5 (wpAny_field hos hds (x:=vl) rfl (Q5 (wpAny_field hos hds (x:=vu) rfl (Q5 (wpAny_field hos hds (x:=.none) rfl (QL ?_)))))));refine Q5 (slicePart_none ?_);show wpAny _ _ (if ((1:Int) == 0)=true then _ else _) _ _ s;rw[if_neg (by decide)];refine Q5 (lP pl (Q5 (lP pu (Q5 (QL ?_)))));show wpAny _ _ (match Builtin.Slice.sliceAdjust lo hi 1 (n:Int)with|(lo,hi)=>pure (lo,(1:Int),Builtin.Slice.slicePlaces lo hi 1)) _ _ s;rw[tq lo hi n];show wpAny _ _ (pure (((sIx n 0 lo:Nat):Int),(1:Int),Builtin.Slice.slicePlaces ((sIx n 0 lo:Nat):Int) ((sIx n n hi:Nat):Int) 1)) _ _ s;rw[sM];exact QL h
theorem xY(xs:Array Q2)(i k:Nat):((Qz k).filterMap fun(m:Nat)=>xs[((i:Int)+(m:Int)*1).toNat]?).toArray=((xs.toList.drop i).take k).toArray:=by
 have e:(fun(m:Nat)=>xs[((i:Int)+(m:Int)*1).toNat]?)=fun m=>xs[i+m]?:=by
  funext m;have:((i:Int)+(m:Int)*1).toNat=i+m:=by omega
  rw[this]
 rw[e];have:=pick_run xs i k;rw[List.filterMap_map]at this;have e2:((fun x=>xs[x]?) ∘ fun x=>i+x)=fun m=>xs[i+m]?:=rfl;rw[e2]at this;rw[this]
theorem getItem_tuple_cut{t sl:Addr}{items:Array Q2}{vl vu:Q2}{lo hi:Option Int}{Q:Q2->Q3->Prop}(ht:IsTup s.heap t items)(hs:s.heap.IsSliceOf sl vl vu .none)(pl:IsPart vl lo)(pu:IsPart vu hi)
  (hw:¬(sIx items.size 0 lo=0/\sIx items.size items.size hi=items.size))
  (h:Q (.ref s.heap.objs.size) { s with heap:=s.heap.push { cls:=.type "tuple",data:=.seq ((items.toList.drop (sIx items.size 0 lo)).take (sIx items.size items.size hi-sIx items.size 0 lo)).toArray } })
  (hsz:items.size<=QD):wpAny (Qj prog w) A (getItem (.ref t) (.ref sl)) Q E s:=by
 have htake:sizeOk (.seq ((items.toList.drop (sIx items.size 0 lo)).take (sIx items.size items.size hi-sIx items.size 0 lo)).toArray):=by
  show((items.toList.drop (sIx items.size 0 lo)).take (sIx items.size items.size hi-sIx items.size 0 lo)).toArray.size<=QD;rw[QF,List.length_take,List.length_drop,Qh];omega
 have hj:sIx items.size items.size hi<=items.size:=Ea _ _ (Q8 _) hi;obtain⟨os,hos,hcs,hds⟩:=id hs;have hTs:s.TypeIs (.ref sl) "slice":=⟨os,hos,hcs⟩;unfold getItem;try with_reducible refine wpAny_holding ?_
 first|refine Q5 (QL ?_)|skip
 refine Q5 (wpAny_sequenceKey ht.typeIs (by decide) ?_);refine Q5 (wpAny_callSpecial?_slot (name:=Str.ofString "__getitem__") ht.typeIs PyProof.Rows.slot_tuple_getitem
  (wpAny_call_entry PyProof.Rows.slot_tuple_getitem ht.typeIs entry_tuple_getitem ?_ (args_tuple_getitem _ _)))
 show wpAny _ _ (Builtin.Tuple.tupleItemsOf (.ref t) >>= _) _ _ s;refine Q5 (tupleItemsOf_ ht ?_);refine Q5 (wpAny_typeOf hTs ?_);rw[if_pos (by decide)];refine Q5 (fO hs pl pu ?_);have hno:¬((((sIx items.size 0 lo:Nat):Int) == 0&&(1:Int) == 1&&(sIx items.size items.size hi-sIx items.size 0 lo) == items.size)=true):=by
  intro q;rw[Zw,Zw]at q;have q1:((sIx items.size 0 lo:Nat):Int)=0:=eq_of_beq q.1.1;have q2:sIx items.size items.size hi-sIx items.size 0 lo=items.size:=eq_of_beq q.2;exact hw ⟨by omega,by omega⟩
 show wpAny _ _ (if (((sIx items.size 0 lo:Nat):Int) == 0&&(1:Int) == 1&&(sIx items.size items.size hi-sIx items.size 0 lo) == items.size)=true then _ else _) _ _ s;rw[if_neg hno,xY];first
  |exact Q5 (m:=Builtin.Tuple.tupleExact _) (wpAny_newObj_type (QL ⟨_,rfl,QL h⟩) htake)
  |exact Q5 (m:=Builtin.Tuple.tupleExact _) (wpAny_newObj_type (Q5 (QL (QL ⟨_,rfl,QL h⟩))) htake)
  |exact Q5 (Q5 (m:=Builtin.Tuple.tupleExact _) (wpAny_newObj_type (QL (QL ⟨_,rfl,QL h⟩)) htake))
  |exact Q5 (Q5 (m:=Builtin.Tuple.tupleExact _) (wpAny_newObj_type (QL ⟨_,rfl,QL h⟩) htake))
end
end HT
namespace L2
open PySem PySem.Spec PyProof.Rows
abbrev TO:=St->Hp->(Option Int->Hp->Prop)->Prop
def PO(X:Cx)(e:Option QC)(t:TO):Prop:=
 ∀(pins:List (Addr×Obj)) (s:Q3) (σ:St) (H:Hp) (Q:Option Int->Hp->Prop),Inv X pins σ H s->t σ H Q->
  wpAny (Qj X.prog X.w) X.A (evalPart e X.env) (fun u s'=>∃o H',Inv X pins σ H' s'/\IsPart u o/\Q o H') X.xe s
def uw:TO:=fun _ H Q=>Q none H
def DX(t:TE):TO:=fun σ H Q=>t σ H fun x H1=>∃i,x=.int i/\Q (some i) H1
section
variable{X:Cx}{e:QC}{te:TE}{lo hi:Option QC}{tl th:TO}{pos p2:Pos}
theorem BG:PO X none uw:=by
 intro pins s σ H Q I h;rw[evalPart_none];exact QL ⟨none,H,I,.none,h⟩
theorem BF(h:PE X e te):PO X (some e) (DX te):=by
 intro pins s σ H Q I hw;rw[evalPart_some];refine thn (h pins s σ H _ I hw) fun u s1 hz=>?_;obtain⟨x,H1,I1,r1,q1⟩:=hz;obtain⟨i,rfl,q⟩:=q1;obtain⟨t,rfl⟩:=r1;exact⟨some i,H1,I1,.int i t,q⟩
def SlR(X:Cx)(r:V->Option Int->Option Int->Hp->VK->Prop):Prop:=
 ∀(pins:List (Addr×Obj)) (s:Q3) (σ:St) (H:Hp) (x:V) (v vl vu:Q2) (lo hi:Option Int) (sl:Addr) (Q:VK),Inv X pins σ H s->bR x v->s.heap.IsSliceOf sl vl vu .none->IsPart vl lo->IsPart vu hi->r x lo hi H Q->
  ∃T id,typeLookup (.type T) "__getitem__"=pure (some (.builtin id))/\s.TypeIs v T/\wpAny (Qj X.prog X.w) X.A (getItem v (.ref sl)) (EP X pins σ Q) X.xe s
theorem SlR.or{r r':V->Option Int->Option Int->Hp->VK->Prop}(h:SlR X r)(h':SlR X r'):SlR X (fun x lo hi H Q=>r x lo hi H Q\/r' x lo hi H Q):=by
 intro pins s σ H x v vl vu lo hi sl Q I rx hs pl pu q;rcases q with q|q
 ·exact h pins s σ H x v vl vu lo hi sl Q I rx hs pl pu q
 ·exact h' pins s σ H x v vl vu lo hi sl Q I rx hs pl pu q
def tSl(r:V->Option Int->Option Int->Hp->VK->Prop)(te:TE)(tl th:TO):TE:=fun σ H Q=>te σ H fun x H1=>tl σ H1 fun l H2=>th σ H2 fun u H3=>r x l u H3 Q
theorem x5{r:V->Option Int->Option Int->Hp->VK->Prop}(hr:SlR X r)(he:PE X e te)(hl:PO X lo tl)(hu:PO X hi th):PE X (.Subscript e (.Slice lo hi none p2) pos) (tSl r te tl th):=by
 intro pins s σ H Q I h;refine Subscript_ (thn (he pins s σ H _ I h) fun v s1 hz=>?_);obtain⟨x,H1,I1,r1,q1⟩:=hz;refine wpAny_Slice (thn (hl pins s1 σ H1 _ I1 q1) fun vl s2 ⟨l,H2,I2,pl,q2⟩=>thn (hu pins s2 σ H2 _ I2 q2) fun vu s3 hz=>?_);obtain⟨u,H3,I3,pu,q3⟩:=hz;rw[evalPart_none];refine QL ?_;have I4:Inv X pins σ H3 { s3 with heap:=s3.heap.push { cls:=.type "slice",data:=.fields #[vl,vu,.none] } }:=I3.kept (t':=s3.toks) fun b ob q=>Q7 _ q;obtain⟨T,id,hT,ht,hg⟩:=hr pins { s3 with heap:=s3.heap.push { cls:=.type "slice",data:=.fields #[vl,vu,.none] } } σ H3 x v vl vu l u s3.heap.objs.size Q I4 r1 (Heap.IsSliceOf.new ..) pl pu q3;show wpAny (Qj X.prog X.w) X.A (subscriptTail e (.Slice lo hi none p2) v (.ref s3.heap.objs.size)) (EP X pins σ Q) X.xe { s3 with heap:=s3.heap.push { cls:=.type "slice",data:=.fields #[vl,vu,.none] } };exact tail_any (ops:=[.ref s3.heap.objs.size,v]) ht hT hg (by with_unfolding_all rfl)
def Ad(xs:List V)(lo hi:Option Int):List V:=(xs.drop (HT.sIx xs.length 0 lo)).take (HT.sIx xs.length xs.length hi-HT.sIx xs.length 0 lo)
theorem kJ(xs:List V)(lo hi:Option Int):(Ad xs lo hi).length<=xs.length:=by
 unfold Ad;rw[List.length_take,List.length_drop];omega
def JO(K:Q1):V->Option Int->Option Int->Hp->VK->Prop:=fun x lo hi H Q=>∃a xs,x=.ref a/\SqT K H a xs/\
 ¬(HT.sIx xs.length 0 lo=0/\HT.sIx xs.length xs.length hi=xs.length)/\∀p,H p=none->Q (.ref p) (upd H p (.tup (Ad xs lo hi)))
theorem zA:SlR X (JO X.K):=by
 intro pins s σ H x v vl vu lo hi sl Q I rx hs pl pu h;obtain⟨a,xs,rfl,hx,hw,q⟩:=h;cases rx;obtain⟨its,r,ht,hz⟩:=I.tuple hx;have hlen:its.toArray.size=xs.length:=by rw[QF];exact r.length.symm
 refine⟨"tuple",_,PyProof.Rows.slot_tuple_getitem.lookup,ht.typeIs,?_⟩;refine HT.getItem_tuple_cut ht hs pl pu (by rw[hlen];exact hw) ?_ (by rw[hlen];exact hz);rw[hlen];refine⟨.ref s.heap.objs.size,_,I.laid (t':=s.toks) (o:=.tup (Ad xs lo hi)) (fun b ob q=>Q7 _ q) (Q8 _) ?_,rfl,q _ (I.hok.fresh (Q8 _))⟩;exact⟨Qb (kJ xs lo hi) hz,_,(r.drop (HT.sIx xs.length 0 lo)).take (HT.sIx xs.length xs.length hi-HT.sIx xs.length 0 lo),zb.new _ _⟩
def Hv(K:Q1):R2:=fun x y H Q=>∃a b xs ys,x=.ref a/\y=.ref b/\SqT K H a xs/\SqT K H b ys/\xs≠[]/\xs.length+ys.length<=QD/\
 (ys=[]->Q (.ref a) H)/\(ys≠[]->∀p,H p=none->Q (.ref p) (upd H p (.tup (xs++ys))))
theorem bD.nil_iff{xs:List V}{us:List Q2}(r:bD xs us):us=[]↔xs=[]:=by
 cases r with
 |nil=>simp
 |cons _ _=>simp
theorem BY:OpR X (binaryOp .Add) (Hv X.K):=by
 intro pins s σ H x y v u Q I rx ry h;obtain⟨a,b,xs,ys,rfl,rfl,ha,hb,hx,hz,q1,q2⟩:=h;cases rx;cases ry;obtain⟨its,r1,p1,_⟩:=I.tuple ha;obtain⟨its2,r2,p2,_⟩:=I.tuple hb;refine HT.cat_tup p1 p2 (fun z=>hx (r1.nil_iff.mp z)) (fun z=>⟨.ref a,H,I,rfl,q1 (r2.nil_iff.mp z)⟩) (fun z=>?_) (by rw[<-r1.length,<-r2.length];exact hz);refine⟨.ref s.heap.objs.size,_,I.laid (t':=s.toks) (o:=.tup (xs++ys)) (fun b ob q=>Q7 _ q) (Q8 _) ?_,rfl,q2 (fun w=>z (r2.nil_iff.mpr w)) _ (I.hok.fresh (Q8 _))⟩;exact⟨by rw[Qr];exact hz,_,r1.append r2,zb.new _ _⟩
end
def ixN(n:Nat)(i:Int):Option Nat:=if 0<=i then(if i<n then some i.toNat else none)else if -(n:Int)<=i then some (i+n).toNat else none
def atI{α:Type}(xs:List α)(i:Int):Option α:=(ixN xs.length i).bind fun j=>xs[j]?
theorem vT{n:Nat}{i:Int}{j:Nat}(h:ixN n i=some j):seqIndex? i n=some j/\j<n/\-(n:Int)<=i/\i<n:=by
 unfold ixN at h;by_cases h0:0<=i
 ·rw[if_pos h0]at h;by_cases h1:i<n
  ·rw[if_pos h1]at h;have e:i.toNat=j:=Option.some.inj h;exact⟨by rw[seqIndex_of h0 h1,e],by omega,by omega,h1⟩
  ·rw[if_neg h1]at h;cases h
 ·rw[if_neg h0]at h;by_cases h1:-(n:Int)<=i
  ·rw[if_pos h1]at h;have e:(i+n).toNat=j:=Option.some.inj h;exact⟨by rw[seqIndex_neg (by omega) h1,e],by omega,h1,by omega⟩
  ·rw[if_neg h1]at h;cases h
theorem wQ{α:Type}{xs:List α}{i:Int}{v:α}(h:atI xs i=some v):∃j,seqIndex? i xs.length=some j/\xs[j]?=some v/\j<xs.length/\-(xs.length:Int)<=i/\i<xs.length:=by
 unfold atI at h;cases e:ixN xs.length i with
 |none=>rw[e]at h;cases h
 |some j=>
  rw[e]at h;obtain⟨h1,h2,h3,h4⟩:=vT e;exact⟨j,h1,h,h2,h3,h4⟩
theorem ju{α:Type}{xs:List α}{j:Nat}{v:α}(h:xs[j]?=some v):atI xs (j:Int)=some v:=by
 have hj:j<xs.length:=(Q6.mp h).1;have e:ixN xs.length (j:Int)=some j:=by
  unfold ixN;rw[if_pos (by omega),if_pos (by omega)];simp
 unfold atI;rw[e];exact h
def qz(b:QC):Prop:=∀o i,subscripted b false o i=operate [o,i] (getItem o i)
def IxR(X:Cx)(r:R2):Prop:=
 ∀(value slice:QC) (pins:List (Addr×Obj)) (s:Q3) (σ:St) (H:Hp) (x y:V) (v u:Q2) (Q:VK),Inv X pins σ H s->bR x v->bR y u->r x y H Q->
  subscripted slice false v u=operate [v,u] (getItem v u)->wpAny (Qj X.prog X.w) X.A (subscriptTail value slice v u) (EP X pins σ Q) X.xe s
def MtR(X:Cx)(id:String)(r:V->List V->Hp->VK->Prop):Prop:=
 ∀(pins:List (Addr×Obj)) (s:Q3) (σ:St) (H:Hp) (x:V) (xs:List V) (v:Q2) (us:List Q2) (Q:VK),Inv X pins σ H s->bR x v->bD xs us->r x xs H Q->
  wpAny (Qj X.prog X.w) X.A (call (.builtin id) (v::us)) (EP X pins σ Q) X.xe s
section
variable{X:Cx}{a b:QC}{ta tb:TE}{pos:Pos}
theorem IxR.or{r r':R2}(h:IxR X r)(h':IxR X r'):IxR X (fun x y H Q=>r x y H Q\/r' x y H Q):=by
 intro value slice pins s σ H x y v u Q I rx ry q hs;rcases q with q|q
 ·exact h value slice pins s σ H x y v u Q I rx ry q hs
 ·exact h' value slice pins s σ H x y v u Q I rx ry q hs
theorem HG{r:R2}(hr:IxR X r)(ha:PE X a ta)(hb:PE X b tb)(hs:qz b):PE X (.Subscript a b pos) (tOp r ta tb):=by
 intro pins s σ H Q I h;exact Subscript_ (II ha hb I h fun v u s2 x y H2 I2 rx ry q=>hr a b pins s2 σ H2 x y v u Q I2 rx ry q (hs _ _))
def JR(K:Q1):R2:=fun x y H Q=>∃p xs i v,x=.ref p/\y=.int i/\SqL K H p xs/\atI xs i=some v/\Q v H
def JQ(K:Q1):R2:=fun x y H Q=>∃p xs i v,x=.ref p/\y=.int i/\SqT K H p xs/\atI xs i=some v/\Q v H
theorem Cg:IxR X (JR X.K):=by
 intro value slice pins s σ H x y v u Q I rx ry h hs;obtain⟨p,xs,i,z,rfl,rfl,hq,he,q⟩:=h;cases rx;obtain⟨t,rfl⟩:=ry;obtain⟨its,r,pl,hz⟩:=I.list hq;obtain⟨j,h1,h2,h3,h4,h5⟩:=wQ he;obtain⟨w,ew,rw'⟩:=r.get h2;have hl:=r.length;have hn:=rA;have fin:EP X pins σ Q w s:=⟨z,H,I,rw',q⟩;by_cases h0:0<=i
 ·have hj:i.toNat=j:=by
   rw[seqIndex_of h0 h5]at h1;exact Option.some.inj h1
  exact item_listR pl.isList h0 (by omega) (by rw[hj];simpa using ew) fin hs
 ·have hj:(i+(its.toArray.size:Int)).toNat=j:=by
   rw[seqIndex_neg (by omega) h4]at h1;rw[QF,<-hl];exact Option.some.inj h1
  exact subscriptTail_builtinR (x:=w) pl.isList.typeIs slot_list_getitem.lookup
   (wpAny_getItem_list_neg (Q:=fun r s'=>r=w/\EP X pins σ Q r s') pl.isList (by omega) (by rw[QF]<;>omega) (by omega) (by rw[hj];simpa using ew) ⟨rfl,fin⟩) hs
theorem Fg:IxR X (JQ X.K):=by
 intro value slice pins s σ H x y v u Q I rx ry h hs;obtain⟨p,xs,i,z,rfl,rfl,hq,he,q⟩:=h;cases rx;obtain⟨t,rfl⟩:=ry;obtain⟨its,r,pl,hz⟩:=I.tuple hq;obtain⟨j,h1,h2,h3,h4,h5⟩:=wQ he;obtain⟨w,ew,rw'⟩:=r.get h2;have hl:=r.length;have hn:=rA;have fin:EP X pins σ Q w s:=⟨z,H,I,rw',q⟩;exact subscriptTail_builtinR (x:=w) pl.typeIs slot_tuple_getitem.lookup
  (getItem_tuple (j:=j) (Q:=fun r s'=>r=w/\EP X pins σ Q r s') pl (by omega) (by omega) (by rw[QF,<-hl];exact h1) (by simpa using ew) ⟨rfl,fin⟩) hs
theorem sO(its:List Q2)(n j:Nat)(u:Q2):Obj.mapSeq (·.setIfInBounds j u) { cls:=.type "list",data:=.seq its.toArray n }={ cls:=.type "list",data:=.seq (its.set j u).toArray n }:=by
 simp[Obj.mapSeq]
theorem Inv.lst{pins:List (Addr×Obj)}{σ:St}{H:Hp}{s:Q3}{p:Addr}{xs:List V}(I:Inv X pins σ H s)(h:H p=some (.lst xs)) :
  ∃(its:List Q2) (n:Nat),bD xs its/\s.heap.get? p=some { cls:=.type "list",data:=.seq its.toArray n }/\xs.length<=QD:=by
 obtain⟨z,its,n,r,e⟩:=I.hok p _ h;exact⟨its,n,r,e,z⟩
theorem Inv.lstUpd{pins:List (Addr×Obj)}{σ:St}{H:Hp}{s:Q3}{p:Addr}{xs ys:List V}{its its':List Q2}{n n':Nat}{f:Obj->Obj}(I:Inv X pins σ H s)(h:H p=some (.lst xs))
  (ho:s.heap.get? p=some { cls:=.type "list",data:=.seq its.toArray n }) (hf:f { cls:=.type "list",data:=.seq its.toArray n }={ cls:=.type "list",data:=.seq its'.toArray n' }) (r:bD ys its') (hz:ys.length<=QD) (t:Nat) :
  Inv X pins σ (upd H p (.lst ys)) { s with heap:=s.heap.update p f,toks:=t }:=by
 have e:(s.heap.update p f).get? p=some { cls:=.type "list",data:=.seq its'.toArray n' }:=by
  rw[Heap.get?_update_self f ho (by rw[hf]<;>rfl),hf]
 refine I.write (x:=p) (e:=p) (by rw[h];trivial) (.inl rfl) (fun b u hb q=>(Heap.get?_update_other _ _ (Ne.symm hb)).trans q) ⟨_,e⟩ ?_;exact⟨hz,its',n',r,e⟩
def Hs:V->V->V->Hp->(Hp->Prop)->Prop:=fun o i v H Q=>∃p xs k j,o=.ref p/\i=.int k/\H p=some (.lst xs)/\ixN xs.length k=some j/\Q (upd H p (.lst (xs.set j v)))
theorem xI:IM X Hs:=by
 intro pins s σ H o i v ov iv u Q I ro ri rv h;obtain⟨p,xs,k,j,rfl,rfl,hp,hj,q⟩:=h;cases ro;obtain⟨t,rfl⟩:=ri;obtain⟨its,n,r,ho,hz⟩:=I.lst hp;obtain⟨h1,h2,h3,h4⟩:=vT hj;have hl:=r.length;have hn:=rA;have I':Inv X pins σ (upd H p (.lst (xs.set j v))) { s with heap:=s.heap.update p (Obj.mapSeq (·.setIfInBounds j u)) }:=
  I.lstUpd hp ho (sO its n j u) (r.set rv j) (by rw[Z8];exact hz) s.toks
 by_cases h0:0<=k
 ·have hk:k.toNat=j:=by
   rw[seqIndex_of h0 h4]at h1;exact Option.some.inj h1
  exact PySem.W.ki_setAt ho h0 (by omega) (by rw[QF,<-hl];exact h4) (by rw[hk];exact⟨_,I',q⟩)
 ·have hk:(k+(its.toArray.size:Int)).toNat=j:=by
   rw[seqIndex_neg (by omega) h3]at h1;rw[QF,<-hl];exact Option.some.inj h1
  exact PySem.W.ki_setBack ho (by omega) (by rw[QF,<-hl];exact h3) (by omega) (by rw[hk];exact⟨_,I',q⟩)
theorem nO(lo hi:Option Int)(n:Nat):(sliceBounds lo hi none n).1=((HT.sIx n 0 lo:Nat):Int)/\(sliceBounds lo hi none n).2.1=((HT.sIx n n hi:Nat):Int)/\(sliceBounds lo hi none n).2.2=1:=by
 refine⟨?_,?_,rfl⟩
 ·cases lo with
  |none=>simp[sliceBounds,HT.sIx]
  |some i=>
   simp only[sliceBounds,HT.sIx,Option.getD_none,show(1:Int)>0 by decide,if_true];by_cases h:i<0
   ·simp only[h,if_true]<;>omega
   ·simp only[h,if_false]<;>omega
 ·cases hi with
  |none=>simp[sliceBounds,HT.sIx]
  |some i=>
   simp only[sliceBounds,HT.sIx,Option.getD_none,show(1:Int)>0 by decide,if_true];by_cases h:i<0
   ·simp only[h,if_true]<;>omega
   ·simp only[h,if_false]<;>omega
theorem mB(its:List Q2)(lo hi:Option Int):slicePick its.toArray lo hi none=((its.drop (HT.sIx its.length 0 lo)).take (HT.sIx its.length its.length hi-HT.sIx its.length 0 lo)).toArray:=by
 obtain⟨h1,h2,h3⟩:=nO lo hi its.toArray.size;unfold slicePick;rw[h1,h2,h3];simp only[sliceRange_one,pick_run,QF]<;>rfl
def JP(K:Q1):V->Option Int->Option Int->Hp->VK->Prop:=fun x lo hi H Q=>∃a xs,x=.ref a/\SqL K H a xs/\∀p,H p=none->Q (.ref p) (upd H p (.lst (Ad xs lo hi)))
theorem uB:SlR X (JP X.K):=by
 intro pins s σ H x v vl vu lo hi sl Q I rx hs pl pu h;obtain⟨a,xs,rfl,hx,q⟩:=h;cases rx;obtain⟨its,r,ht,hz⟩:=I.list hx;have hlen:=r.length;refine⟨"list",_,slot_list_getitem.lookup,ht.isList.typeIs,?_⟩;refine wpAny_getItem_list_slice ht.isList hs pl pu .none (by simp) ?_ (by rw[QF]<;>omega);rw[mB,<-hlen];refine⟨.ref s.heap.objs.size,_,I.laid (t':=s.toks) (o:=.lst (Ad xs lo hi)) (fun b ob q=>Q7 _ q) (Q8 _) ?_,rfl,q _ (I.hok.fresh (Q8 _))⟩;exact⟨Qb (kJ xs lo hi) hz,_,0,(r.drop (HT.sIx xs.length 0 lo)).take (HT.sIx xs.length xs.length hi-HT.sIx xs.length 0 lo),Qx _ rfl⟩
def lI:V->Bool
 |.non=>true
 |.bl _=>true
 |.int _=>true
 |.str _=>true
 |_=>false
def eqV:V->V->Bool
 |.non,.non=>true
 |.bl a,.bl b=>a == b
 |.bl a,.int b=>(if a then 1 else 0) == b
 |.int a,.bl b=>a == (if b then 1 else 0)
 |.int a,.int b=>a == b
 |.str a,.str b=>a == b
 |_,_=>false
theorem FD{A:Qa}{s:Q3}{y x:V}{u v:Q2}(ry:bR y u)(rx:bR x v)(fy:lI y=true)(fx:lI x=true):SeqAt.EqAt A s u v (eqV y x):=by
 cases y with
 |non=>
  cases ry;cases x with
  |non=>cases rx;exact SeqAt.EqAt.same _
  |bl b=>cases rx;exact SeqAt.EqAt.none_bool b
  |int b=>obtain⟨t,rfl⟩:=rx;exact SeqAt.EqAt.none_int b t
  |str b=>obtain⟨t,rfl⟩:=rx;exact SeqAt.EqAt.none_str b t
  |_=>exact absurd (show false=true from fx) Q9
 |bl a=>
  cases ry;cases x with
  |non=>cases rx;exact SeqAt.EqAt.bool_none a
  |bl b=>cases rx;exact SeqAt.EqAt.bool_bool a b
  |int b=>obtain⟨t,rfl⟩:=rx;exact SeqAt.EqAt.bool_int a b t
  |str b=>obtain⟨t,rfl⟩:=rx;exact SeqAt.EqAt.bool_str a b t
  |_=>exact absurd (show false=true from fx) Q9
 |int a=>
  obtain⟨t',rfl⟩:=ry;cases x with
  |non=>cases rx;exact SeqAt.EqAt.int_none a t'
  |bl b=>cases rx;exact SeqAt.EqAt.int_bool a t' b
  |int b=>obtain⟨t,rfl⟩:=rx;exact SeqAt.EqAt.int_int a t' b t
  |str b=>obtain⟨t,rfl⟩:=rx;exact SeqAt.EqAt.int_str a t' b t
  |_=>exact absurd (show false=true from fx) Q9
 |str a=>
  obtain⟨t',rfl⟩:=ry;cases x with
  |non=>cases rx;exact SeqAt.EqAt.str_none a t'
  |bl b=>cases rx;exact SeqAt.EqAt.str_bool a t' b
  |int b=>obtain⟨t,rfl⟩:=rx;exact SeqAt.EqAt.str_int a t' b t
  |str b=>obtain⟨t,rfl⟩:=rx;exact SeqAt.EqAt.str_str a t' b t
  |_=>exact absurd (show false=true from fx) Q9
 |_=>exact absurd (show false=true from fy) Q9
def eqU(x:V)(u:Q2):Bool:=match u with
 |.none=>eqV .non x
 |.bool b=>eqV (.bl b) x
 |.int i _=>eqV (.int i) x
 |.str z _=>eqV (.str z) x
 |_=>false
theorem zZ{x y:V}{u:Q2}(r:bR y u)(f:lI y=true):eqU x u=eqV y x:=by
 cases y with
 |non=>cases r;rfl
 |bl b=>cases r;rfl
 |int i=>obtain⟨t,rfl⟩:=r;rfl
 |str z=>obtain⟨t,rfl⟩:=r;rfl
 |_=>exact absurd (show false=true from f) Q9
theorem kW{x:V}:∀{xs:List V} {us:List Q2},bD xs us->xs.all lI=true->us.any (eqU x)=xs.any fun y=>eqV y x
 |_,_,.nil,_=>rfl
 |y::xs,u::us,.cons r t,f=>by
  rw[List.all_cons,Zw]at f;rw[ZH,ZH,zZ r f.1,kW t f.2]
theorem iV{A:Qa}{s:Q3}{x:V}{v:Q2}(rx:bR x v)(fx:lI x=true):∀{xs:List V} {us:List Q2},bD xs us->xs.all lI=true->∀u∈us,SeqAt.EqAt A s u v (eqU x u)
 |_,_,.nil,_=>fun u hu=>by cases hu
 |y::xs,u::us,.cons r t,f=>fun u' hu=>by
  rw[List.all_cons,Zw]at f;rcases QM.mp hu with rfl|hu
  ·rw[zZ r f.1];exact FD r rx f.1 fx
  ·exact iV rx fx t f.2 u' hu
def inV(x:V)(xs:List V):Bool:=xs.any fun y=>eqV y x
def rIn(K:Q1)(neg:Bool):R2:=fun x y H Q=>∃p xs,y=.ref p/\(SqL K H p xs\/SqT K H p xs)/\lI x=true/\xs.all lI=true/\Q (.bl (if neg then !inV x xs else inV x xs)) H
theorem vn:OpR X (compareOp .In) (rIn X.K false):=by
 intro pins s σ H x y v u Q I rx ry h;obtain⟨p,xs,rfl,hq,fx,fs,q⟩:=h;cases ry;rcases hq with hq|hq
 ·obtain⟨its,r,pl,hz⟩:=I.list hq;refine SeqAt.in_listAt (eqU x) pl.isList (fun w hw=>iV rx fx r fs w (by simpa using hw)) ⟨.bl _,H,I,rfl,?_⟩;rw[show its.toArray.any (eqU x)=its.any (eqU x)by simp,kW r fs];exact q
 ·obtain⟨its,r,pl,hz⟩:=I.tuple hq;refine SeqAt.in_tupleAt (eqU x) pl (fun w hw=>iV rx fx r fs w (by simpa using hw)) ⟨.bl _,H,I,rfl,?_⟩;rw[show its.toArray.any (eqU x)=its.any (eqU x)by simp,kW r fs];exact q
theorem nW:OpR X (compareOp .NotIn) (rIn X.K true):=by
 intro pins s σ H x y v u Q I rx ry h;obtain⟨p,xs,rfl,hq,fx,fs,q⟩:=h;cases ry;rcases hq with hq|hq
 ·obtain⟨its,r,pl,hz⟩:=I.list hq;refine SeqAt.notIn_listAt (eqU x) pl.isList (fun w hw=>iV rx fx r fs w (by simpa using hw)) ⟨.bl _,H,I,rfl,?_⟩;rw[show its.toArray.any (eqU x)=its.any (eqU x)by simp,kW r fs];exact q
 ·obtain⟨its,r,pl,hz⟩:=I.tuple hq;refine SeqAt.notIn_tupleAt (eqU x) pl (fun w hw=>iV rx fx r fs w (by simpa using hw)) ⟨.bl _,H,I,rfl,?_⟩;rw[show its.toArray.any (eqU x)=its.any (eqU x)by simp,kW r fs];exact q
theorem oA:fq X (.builtin "len") (fun xs H Q=>∃p ys,xs=[.ref p]/\(SqL X.K H p ys\/SqT X.K H p ys)/\Q (.int ys.length) H):=by
 intro pins s σ H xs us Q I r h;obtain⟨p,ys,rfl,hq,q⟩:=h;obtain⟨u,rfl,rx⟩:=k7 r;cases rx;have hn:=rA;rcases hq with hq|hq
 ·obtain⟨its,r',pl,hz⟩:=I.list hq;have hlen:=r'.length;exact Calls.call_len_list pl.isList (by simp only[QF]<;>omega) ⟨.int ys.length,H,I.tok _,⟨s.toks+1,by rw[QF,hlen]⟩,q⟩
 ·obtain⟨its,r',pl,hz⟩:=I.tuple hq;have hlen:=r'.length;exact len_tuple pl (by simp only[QF]<;>omega) ⟨.int ys.length,H,I.tok _,⟨s.toks+1,by rw[QF,hlen]⟩,q⟩
theorem fq.or{f:Q2}{r r':List V->Hp->VK->Prop}(h:fq X f r)(h':fq X f r'):fq X f (fun xs H Q=>r xs H Q\/r' xs H Q):=by
 intro pins s σ H xs us Q I rs q;rcases q with q|q
 ·exact h pins s σ H xs us Q I rs q
 ·exact h' pins s σ H xs us Q I rs q
theorem gv:fq X (.type "list") (fun xs H Q=>∃p ys,xs=[.ref p]/\(SqL X.K H p ys\/SqT X.K H p ys)/\∀l,H l=none->Q (.ref l) (upd H l (.lst ys))):=by
 intro pins s σ H xs us Q I r h;obtain⟨p,ys,rfl,hq,q⟩:=h;obtain⟨u,rfl,rx⟩:=k7 r;cases rx;have fin:∀(its:List Q2),bD ys its->ys.length<=QD->∀(h':Heap) (c':Nat),(∀b o',s.heap.get? b=some o'->h'.get? b=some o')->
   h'.get? s.heap.objs.size=some { cls:=.type "list",dict:=none,data:=.seq its.toArray c',slots:=#[] }->EP X pins σ Q (.ref s.heap.objs.size) { s with heap:=h' }:=fun its r' hz h' c' kp e=>
  ⟨.ref s.heap.objs.size,_,I.laid (t':=s.toks) kp (Q8 _) (show c8 X.prog X.w _ h' _ (.lst ys)from⟨hz,its,c',r',e⟩),rfl,q _ (I.hok.fresh (Q8 _))⟩
 rcases hq with hq|hq
 ·obtain⟨its,r',pl,hz⟩:=I.list hq;have hlen:=r'.length;obtain⟨o,ho,hc,n,hd⟩:=pl.isList;exact call_list_seq p (.inl rfl) ho hc hd (fun h' c' kp e=>fin its r' hz h' c' kp e) (by simp only[QF]<;>omega)
 ·obtain⟨its,r',pl,hz⟩:=I.tuple hq;have hlen:=r'.length;obtain⟨o,ho,hc,n,hd⟩:=pl;exact call_list_seq p (.inr rfl) ho hc hd (fun h' c' kp e=>fin its r' hz h' c' kp e) (by simp only[QF]<;>omega)
theorem fD:fq X (.type "tuple") (fun xs H Q=>∃p ys,xs=[.ref p]/\((SqL X.K H p ys/\∀l,H l=none->Q (.ref l) (upd H l (.tup ys)))\/(SqT X.K H p ys/\Q (.ref p) H))):=by
 intro pins s σ H xs us Q I r h;obtain⟨p,ys,rfl,h⟩:=h;obtain⟨u,rfl,rx⟩:=k7 r;cases rx;rcases h with⟨hq,q⟩|⟨hq,q⟩
 ·obtain⟨its,r',pl,hz⟩:=I.list hq;have hlen:=r'.length;refine call_tuple_list pl.isList (fun h' kp=>?_) (by simp only[QF]<;>omega);have I1:Inv X pins σ H { s with heap:=h' }:=I.kept (t':=s.toks) kp;have I2:Inv X pins σ (upd H h'.objs.size (.tup ys)) { s with heap:=h'.push { cls:=.type "tuple",data:=.seq its.toArray } }:=
   I1.laid (t':=s.toks) (fun b o e=>Q7 _ e) (Q8 _) (show c8 X.prog X.w _ _ _ (.tup ys)from⟨hz,its,r',zb.new _ _⟩)
  exact⟨.ref h'.objs.size,_,I2,rfl,q _ (I1.hok.fresh (Q8 _))⟩
 ·obtain⟨its,r',pl,hz⟩:=I.tuple hq;exact call_tuple_same pl ⟨.ref p,H,I,rfl,q⟩
def tyV(K:Q1)(T:String)(x:V)(H:Hp):Prop:=match x with
 |.str _=>T="str"
 |.int _=>T="int"
 | .ref p=>(T="list"/\∃xs,SqL K H p xs)\/(T="tuple"/\∃o,K.lookup p=some o/\o.cls=.type "tuple"/\o.dict=none)\/
   (T="dict"/\((∃kvs,H p=some (.dK kvs))\/∃kvs,H p=some (.dT kvs)))\/(T="set"/\∃S n,H p=some (.set S n))
 |_=>False
theorem DU{pins:List (Addr×Obj)}{σ:St}{H:Hp}{s:Q3}{T:String}{x:V}{v:Q2}(I:Inv X pins σ H s)(r:bR x v)(ty:tyV X.K T x H) :
  s.TypeIs v T/\∀a,v=.ref a->∃ob,s.heap.get? a=some ob/\ob.dict=none:=by
 cases x with
 |str z=>
  obtain⟨t,rfl⟩:=r;cases (show T="str" from ty);exact⟨typeIs_str s z t,fun _ e=>nomatch e⟩
 |int i=>
  obtain⟨t,rfl⟩:=r;cases (show T="int" from ty);exact⟨typeIs_int s i t,fun _ e=>nomatch e⟩
 |ref p=>
  cases r;rcases ty with⟨rfl,xs,hq⟩|⟨rfl,o,hk,hc,hd⟩|⟨rfl,hk⟩|⟨rfl,S,n,hk⟩
  ·obtain⟨its,_,pl,_⟩:=I.list hq;refine⟨pl.isList.typeIs,fun a e=>?_⟩;cases e;obtain⟨o,n,e,c,hd,_⟩:=pl;exact⟨o,e,hd⟩
  ·refine⟨⟨o,I.kIn p o hk,hc⟩,fun a e=>?_⟩;cases e;exact⟨o,I.kIn _ o hk,hd⟩
  ·have z:∃o,s.heap.get? p=some o/\o.ExactDict:=by
    rcases hk with⟨kvs,hk⟩|⟨kvs,hk⟩
    ·obtain⟨_,_,_,_,o,_,_,e,ex,_⟩:=I.hok p _ hk;exact⟨o,e,ex⟩
    ·obtain⟨_,_,_,_,o,_,_,e,ex,_⟩:=I.hok p _ hk;exact⟨o,e,ex⟩
   obtain⟨o,e,ex⟩:=z;refine⟨⟨o,e,ex.1⟩,fun a e2=>?_⟩;cases e2;exact⟨o,e,ex.2.1⟩
  ·obtain⟨o,_,_,_,e,ex,_⟩:=I.hok p _ hk;refine⟨⟨o,e,ex.1⟩,fun a e2=>?_⟩;cases e2;exact⟨o,e,ex.2.1⟩
 |_=>exact False.elim ty
def tBM(K:Q1)(T:String)(r:V->List V->Hp->VK->Prop)(to:TE)(t:TA):TE:=fun σ H Q=>to σ H fun x H1=>tyV K T x H1/\t σ H1 fun xs H2=>r x xs H2 Q
variable{o e:QC}{es:List QC}{to:TE}{t:TA}{name:Str}{apos cpos:Pos}{T id:String}{r:V->List V->Hp->VK->Prop}
theorem HH(pa:PlainAttrs T)(slot:Slot T name id)(hty:typeOf (.builtin id)=pure (.type "method_descriptor"))(hm:MtR X id r)(ho:PE X o to)(ha:PA X (e::es) t)
  (hbase:attributeBase o name X.env (eval o X.env)=eval o X.env:=by rfl)
  (hfew:((ZQ cpos (QJ (e::es) X.env)).all (fun x=>!x.1)&&(backToKw cpos (keywordEach [] X.env)).all (fun x=>x.1.isSome)
   && decide ((e::es).length+([]:List Keyword).length+(if ([]:List Keyword).isEmpty then 0 else 1)<30))=true:=by rfl)
  (hline:(apos.endLine == cpos.line)=true:=by rfl) (hs:QJ (e::es) X.env=(false,eval e X.env)::QJ es X.env:=by rfl) (hplain:(ZQ cpos (QJ es X.env)).any (·.1)=false:=by rfl) :
  PE X (.Call (.Attribute o name apos) (e::es) [] cpos) (tBM X.K T r to t):=by
 intro pins s σ H Q I h;refine wpAny_Call_method_late hbase hfew hline rfl (thn (ho pins s σ H _ I h) fun v s1 hz=>?_);obtain⟨x,H1,I1,r1,ty,q1⟩:=hz;obtain⟨h1,h2⟩:=DU I1 r1 ty;refine⟨T,id,pa,slot,hty,h1,h2,?_⟩;have hA:=ha cpos pins s1 σ H1 _ I1 q1;rw[hs]at hA ⊢;refine Calls.callWith_builtin (by show(false||(ZQ cpos (QJ es X.env)).any (·.1))=false;rw[hplain]<;>rfl) (Calls.evalArgs_plain ?_);exact thn hA fun us s2 ⟨vs,H2,I2,r2,q2⟩=>hm pins s2 σ H2 x vs v us Q I2 r1 r2 q2
end
def MtM(X:Cx)(id:String)(r:V->List V->Hp->VK->Prop):Prop:=
 ∀(pins:List (Addr×Obj)) (s:Q3) (σ:St) (H:Hp) (x:V) (xs:List V) (v:Q2) (us:List Q2) (Q:VK),Inv X pins σ H s->bR x v->bD xs us->r x xs H Q->
  wpAny (Qj X.prog X.w) X.A (call (.builtin id) (v::us)) (EP X pins σ Q) X.xe s
theorem bD.one:∀{x:V} {us:List Q2},bD [x] us->∃u,us=[u]/\bR x u
 |_,_,.cons r .nil=>⟨_,rfl,r⟩
theorem bD.eraseIdx:∀{xs:List V} {us:List Q2} (i:Nat),bD xs us->bD (xs.eraseIdx i) (us.eraseIdx i)
 |_,_,_,.nil=>.nil
 |_,_,0,.cons _ t=>t
 |_,_,i+1,.cons r t=>.cons r (bD.eraseIdx i t)
theorem bD.rep{xs:List V}{us:List Q2}(h:bD xs us):∀k:Nat,bD (QU k xs).flatten (QU k us).flatten
 |0=>.nil
 |k+1=>by
  rw[ZI,ZI,Zu,Zu];exact bD.append h (bD.rep h k)
theorem nZ{α:Type}:∀(l:List α) (i:Nat),(l.eraseIdx i).length<=l.length
 |[],_=>Q8 _
 |_::_,0=>Nat.le_succ _
 |_::r,i+1=>Nat.succ_le_succ (nZ r i)
theorem kC(its:List Q2):∀(k:Nat) (acc:List Q2),
  List.foldl (fun x1 x2=>x1++x2) acc.toArray (QU k its.toArray)=(acc++(QU k its).flatten).toArray
 |0,acc=>by simp
 |k+1,acc=>by
  have e:acc.toArray++its.toArray=(acc++its).toArray:=by simp
  have e2:(acc++its)++(QU k its).flatten=acc++(QU (k+1) its).flatten:=by
   rw[ZI,Zu,Qk]
  rw[<-e2,<-kC its k (acc++its),<-e,ZI,List.foldl_cons]
section
variable{X:Cx}{pins:List (Addr×Obj)}{σ:St}{H:Hp}{s:Q3}{l:Addr}{xs ys:List V}
theorem Inv.lset{its its':List Q2}{n:Nat}{f:Array Q2->Array Q2}{t':Nat}(I:Inv X pins σ H s)(hH:H l=some (.lst xs))
  (e:s.heap.get? l=some { cls:=.type "list",data:=.seq its.toArray n }) (hf:f its.toArray=its'.toArray) (hv:bD ys its') (hz:ys.length<=QD) :
  Inv X pins σ (upd H l (.lst ys)) { s with heap:=s.heap.update l (Obj.mapSeq f),toks:=t' }:=by
 have q:=PySem.IsL.update e f;rw[hf]at q;refine I.write (x:=l) (e:=l) (by rw[hH];exact trivial) (.inl rfl) (fun b' u hb hu=>(Heap.get?_update_other s.heap (Obj.mapSeq f) (Ne.symm hb)).trans hu) ⟨_,q⟩ ?_;exact⟨hz,its',_,hv,q⟩
theorem Inv.lnew{its:List Q2}{t':Nat}(I:Inv X pins σ H s)(hv:bD ys its)(hz:ys.length<=QD) :
  Inv X pins σ (upd H s.heap.objs.size (.lst ys)) { s with heap:=s.heap.push { cls:=.type "list",data:=.seq its.toArray },toks:=t' }:=
 I.laid (fun _ _ q=>Q7 _ q) (Q8 _) ⟨hz,its,0,hv,Qx _ rfl⟩
def Inv.fresh(I:Inv X pins σ H s):H s.heap.objs.size=none:=I.hok.fresh (Q8 _)
theorem Inv.lstM(I:Inv X pins σ H s)(hH:H l=some (.lst xs)):xs.length<=QD/\∃(its:List Q2) (n:Nat),bD xs its/\xs.length=its.length/\s.heap.get? l=some { cls:=.type "list",data:=.seq its.toArray n }:=by
 obtain⟨z,its,n,r,e⟩:=I.hok l _ hH;exact⟨z,its,n,r,r.length,e⟩
theorem ym{n:Nat}(h:n<=QD):Builtin.List.listTooLong n=false:=by
 unfold Builtin.List.listTooLong;exact decide_eq_false (by omega)
end
section
variable{X:Cx}
def uK:V->List V->Hp->VK->Prop:=fun x vs H Q=>∃l xs y,x=.ref l/\vs=[y]/\H l=some (.lst xs)/\xs.length<QD/\Q .non (upd H l (.lst (xs++[y])))
theorem kg:MtM X "list.append" uK:=by
 intro pins s σ H x vs v us Q I rx rv h;obtain⟨l,xs,y,rfl,rfl,hH,hz,q⟩:=h;cases rx;obtain⟨u,rfl,ru⟩:=rv.one;obtain⟨z,its,n,r,hl,e⟩:=I.lstM hH;refine call_meets F.slot_list_append ⟨_,e,rfl⟩ F.entry_list_append (F.args_list_append_2 _ _) (PySem.list_append l its.toArray n u (by rw[QF];omega)) ⟨e,?_⟩;refine⟨.non,_,I.lset (its':=its++[u]) hH e (by simp) (r.append (.cons ru .nil)) ?_,rfl,q⟩;rw[Qr,List.length_singleton];omega
def zE:V->List V->Hp->VK->Prop:=fun x vs H Q=>∃l xs i k y,x=.ref l/\vs=[.int i]/\H l=some (.lst xs)/\-(2^63)<=i/\i<2^63/\seqIndex? i xs.length=some k/\xs[k]?=some y/\Q y (upd H l (.lst (xs.eraseIdx k)))
theorem yn:MtM X "list.pop" zE:=by
 intro pins s σ H x vs v us Q I rx rv h;obtain⟨l,xs,i,k,y,rfl,rfl,hH,h1,h2,hk,hy,q⟩:=h;cases rx;obtain⟨u,rfl,ru⟩:=rv.one;obtain⟨t,rfl⟩:=ru;obtain⟨z,its,n,r,hl,e⟩:=I.lstM hH;obtain⟨w,hw,rw'⟩:=r.get hy;refine call_meets F.slot_list_pop ⟨_,e,rfl⟩ F.entry_list_pop (F.args_list_pop_2 _ _)
  (MeetsSeq.list_pop_at l its.toArray n i t k w (fitsIndex_both h1 h2) (by rw[QF,<-hl];exact hk) (by rw[<-Array.getElem?_toList];exact hw) (by rw[QF];omega)) ⟨e,?_⟩
 refine⟨y,_,I.lset (its':=its.eraseIdx k) hH e ?_ (r.eraseIdx k) ?_,rw',q⟩
 ·show its.toArray.eraseIdxIfInBounds k=(its.eraseIdx k).toArray;rw[List.eraseIdxIfInBounds_toArray]
 ·have:=nZ xs k;omega
def F0:R2:=fun x y H Q=>∃l b xs zs,x=.ref l/\y=.ref b/\H l=some (.lst xs)/\H b=some (.lst zs)/\xs.length+zs.length<=QD/\∀p,H p=none->Q (.ref p) (upd H p (.lst (xs++zs)))
theorem ET:OpR X (binaryOp .Add) F0:=by
 intro pins s σ H x y v u Q I rx ry h;obtain⟨l,b,xs,zs,rfl,rfl,hH,hB,hz,q⟩:=h;cases rx;cases ry;obtain⟨z,its,n,r,hl,e⟩:=I.lstM hH;obtain⟨z2,its2,n2,r2,hl2,e2⟩:=I.lstM hB;refine PySem.P.add_list e e2 ?_ (by rw[QF,QF];omega);have ea:its.toArray++its2.toArray=(its++its2).toArray:=by simp
 rw[ea];exact⟨.ref _,_,I.lnew (t':=s.toks) (r.append r2) (by rw[Qr];omega),rfl,q _ I.fresh⟩
def Ht:R2:=fun x y H Q=>∃l k xs,x=.ref l/\y=.int k/\H l=some (.lst xs)/\-(2^63)<=k/\k<2^63/\xs.length*k.toNat<=QD/\
 ∀p,H p=none->Q (.ref p) (upd H p (.lst (QU k.toNat xs).flatten))
theorem pV{α:Type}(xs:List α)(k:Nat):(QU k xs).flatten.length=k*xs.length:=by
 induction k with
 |zero=>simp
 |succ k ih=>rw[ZI,Zu,Qr,ih,Nat.succ_mul,Nat.add_comm]
theorem ER:OpR X (binaryOp .Mult) Ht:=by
 intro pins s σ H x y v u Q I rx ry h;obtain⟨l,k,xs,rfl,rfl,hH,h1,h2,hz,q⟩:=h;cases rx;obtain⟨t,rfl⟩:=ry;obtain⟨z,its,n,r,hl,e⟩:=I.lstM hH;have hlen:its.toArray.size*k.toNat<=QD:=by rw[QF,<-hl];exact hz
 have hcap:¬its.toArray.size*k.toNat>(2^63-1) / 8:=by
  have:(QD:Nat)<=(2^63-1) / 8:=by decide
  omega
 have hfit:¬(!Builtin.List.listFitsIndex k)=true:=by
  rw[fitsIndex_both h1 h2];exact Q9
 have hlong:¬Builtin.List.listTooLong (its.toArray.size*k.toNat)=true:=by
  rw[ym hlen];exact Q9
 have hnew:List.foldl (fun x1 x2=>x1++x2) #[] (QU (if its.toArray.isEmpty=true then 0 else k.toNat) its.toArray)=(QU k.toNat its).flatten.toArray:=by
  have f0:∀m:Nat,List.foldl (fun x1 x2=>x1++x2) #[] (QU m its.toArray)=(QU m its).flatten.toArray:=fun m=>by
   have:=kC its m [];rw[ZE]at this;exact this
  rw[f0];cases its with
  |nil=>simp
  |cons a r'=>rw[if_neg (by simp)]
 refine wpAny_binaryOp_repeat_ref (T:="list") (U:="int") (by decide) ⟨_,e,rfl⟩ (fun s'=>typeIs_int s' k t) noFill_list_mul F.fills_int_mul F.slot_int_rmul repeat_list F.slot_int_index.lookup
  (call_meets F.slot_int_rmul (typeIs_int s k t) F.entry_int_rmul (F.args_int_rmul_2 _ _) (int___rmul___int_list k t l its.toArray n)
   ⟨e,rfl,⟨_,e,rfl⟩,call_meets F.slot_list_mul ⟨_,e,rfl⟩ F.entry_list_mul (F.args_list_mul_2 _ _) (AutoListH.list___mul___list_int_3 l its.toArray n k t hfit hcap hlong) ⟨e,?_⟩⟩)
 rw[hnew];exact⟨.ref _,_,I.lnew (t':=s.toks) (r.rep k.toNat) (by rw[pV,Nat.mul_comm];exact hz),rfl,q _ I.fresh⟩
end
section
variable{κ:Type}[DecidableEq κ]
def gP(kvs:List (κ×V))(k:κ):Option V:=(kvs.find? fun kv=>decide (kv.1=k)).map (·.2)
def nz(kvs:List (κ×V))(k:κ)(v:V):List (κ×V):=
 if (kvs.any fun kv=>decide (kv.1=k))=true then kvs.map (fun kv=>if kv.1=k then(kv.1,v)else kv)else kvs++[(k,v)]
def m7(kvs:List (κ×V))(k:κ):List (κ×V):=kvs.filter fun kv=>decide (kv.1≠k)
def cR{p:κ×V}{r:List (κ×V)}{k:κ}(e:p.1=k):gP (p::r) k=some p.2:=by simp[gP,Qd,e]
def cS{p:κ×V}{r:List (κ×V)}{k:κ}(e:¬p.1=k):gP (p::r) k=gP r k:=by simp[gP,Qd,e]
theorem jR(k:κ):∀kvs:List (κ×V),(kvs.any fun kv=>decide (kv.1=k))=(gP kvs k).isSome
 |[]=>rfl
 |p::r=>by
  rw[ZH];by_cases e:p.1=k
  ·simp only[cR e,decide_eq_true e,Bool.true_or,Zr]
  ·rw[cS e,decide_eq_false e,Bool.false_or];exact jR k r
theorem qK(k j:κ)(y:V):∀kvs:List (κ×V),gP (kvs.map fun kv=>if kv.1=k then(kv.1,y)else kv) j=(gP kvs j).map fun x=>if j=k then y else x
 |[]=>rfl
 |p::r=>by
  have ih:=qK k j y r;rw[QN];by_cases h:p.1=k
  ·rw[if_pos h];by_cases e:p.1=j
   ·rw[cR (p:=(p.1,y)) e,cR e,ZV,if_pos (e.symm.trans h)]
   ·rw[cS (p:=(p.1,y)) e,cS e,ih]
  ·rw[if_neg h];by_cases e:p.1=j
   ·rw[cR (p:=p) e,cR e,ZV,if_neg (fun z=>h (e.trans z))]
   ·rw[cS (p:=p) e,cS e,ih]
theorem nI(k j:κ)(y:V):∀kvs:List (κ×V),gP kvs k=none->gP (kvs++[(k,y)]) j=if j=k then some y else gP kvs j
 |[],_=>by
  by_cases e:k=j
  ·rw[if_pos e.symm];exact cR (p:=(k,y)) e
  ·rw[if_neg (fun z=>e z.symm)];exact cS (p:=(k,y)) e
 |p::r,hn=>by
  rw[ZS];have hk:¬p.1=k:=fun z=>by rw[cR z]at hn;cases hn
  rw[cS hk]at hn;have ih:=nI k j y r hn;by_cases e:p.1=j
  ·rw[cR e,cR e,if_neg (fun z=>hk (e.trans z))]
  ·rw[cS e,cS e,ih]
theorem xC(kvs:List (κ×V))(k j:κ)(y:V):gP (nz kvs k y) j=if j=k then some y else gP kvs j:=by
 unfold nz;by_cases a:(kvs.any fun kv=>decide (kv.1=k))=true
 ·rw[if_pos a,qK];rw[jR]at a;by_cases e:j=k
  ·obtain⟨x,hx⟩:=Qm.mp a;rw[if_pos e,e,hx,ZV,if_pos rfl]
  ·rw[if_neg e];cases gP kvs j with
   |none=>rfl
   |some x=>rw[ZV,if_neg e]
 ·rw[if_neg a];refine nI k j y kvs ?_;rw[jR]at a;cases q:gP kvs k with
  |none=>rfl
  |some x=>rw[q]at a;exact(a rfl).elim
theorem kn(kvs:List (κ×V))(k:κ)(v:V):(nz kvs k v).length<=kvs.length+1:=by
 unfold nz;split
 ·rw[QV];omega
 ·rw[Qr,QY,List.length_nil];omega
theorem nr.isSome_eq{o:Option V}{u:Option Q2}(r:nr o u):o.isSome=u.isSome:=by
 cases o with
 |none=>cases u with
  |none=>rfl
  |some _=>exact(show False from r).elim
 |some _=>cases u with
  |none=>exact(show False from r).elim
  |some _=>rfl
theorem nr.getD{o:Option V}{u:Option Q2}{d:V}{d':Q2}(r:nr o u)(rd:bR d d'):bR (o.getD d) (u.getD d'):=by
 cases o with
 |none=>cases u with
  |none=>exact rd
  |some _=>exact(show False from r).elim
 |some _=>cases u with
  |none=>exact(show False from r).elim
  |some _=>exact r
theorem KV.val{kvs:List (κ×V)}{vs:List (κ×Q2)}(r:KV kvs vs)(k:κ):nr (gP kvs k) (valueAt vs k):=by
 unfold KV at r;induction r with
 |nil=>exact True.intro
 |@cons p q ps qs h t ih=>
  obtain⟨h1,h2⟩:=h;by_cases e:p.1=k
  ·have e':q.1=k:=h1.symm.trans e;have b:valueAt (q::qs) k=some q.2:=by simp[valueAt,Qd,e']
   rw[cR e,b];exact h2
  ·have e':¬q.1=k:=fun z=>e (h1.trans z);have b:valueAt (q::qs) k=valueAt qs k:=by simp[valueAt,Qd,e']
   rw[cS e,b];exact ih
theorem KV.any{kvs:List (κ×V)}{vs:List (κ×Q2)}(r:KV kvs vs)(k:κ):(kvs.any fun kv=>decide (kv.1=k))=vs.any fun kv=>decide (kv.1=k):=by
 unfold KV at r;induction r with
 |nil=>rfl
 |cons h t ih=>rw[ZH,ZH,ih,h.1]
theorem KV.repl{kvs:List (κ×V)}{vs:List (κ×Q2)}(r:KV kvs vs)(k:κ){y:V}{u:Q2}(ry:bR y u) :
  KV (kvs.map fun kv=>if kv.1=k then(kv.1,y)else kv) (vs.map fun kv=>if kv.1=k then(kv.1,u)else kv):=by
 unfold KV at r ⊢;induction r with
 |nil=>exact .nil
 |@cons p q ps qs h t ih=>
  rw[QN,QN];refine .cons ?_ ih;obtain⟨h1,h2⟩:=h;by_cases e:p.1=k
  ·rw[if_pos e,if_pos (h1.symm.trans e)];exact⟨h1,ry⟩
  ·rw[if_neg e,if_neg (fun z=>e (h1.trans z))];exact⟨h1,h2⟩
theorem KV.put{kvs:List (κ×V)}{vs:List (κ×Q2)}(r:KV kvs vs)(k:κ){y:V}{u:Q2}(ry:bR y u):KV (nz kvs k y) (stored vs k u):=by
 unfold nz stored;rw[r.any k];by_cases e:(vs.any fun kv=>decide (kv.1=k))=true
 ·rw[if_pos e,if_pos e];exact r.repl k ry
 ·rw[if_neg e,if_neg e];exact Paired.snoc r ⟨rfl,ry⟩
theorem KV.drop{kvs:List (κ×V)}{vs:List (κ×Q2)}(r:KV kvs vs)(k:κ):KV (m7 kvs k) (without vs k):=by
 unfold KV at r ⊢;unfold m7 without;induction r with
 |nil=>exact .nil
 |@cons p q ps qs h t ih=>
  obtain⟨h1,h2⟩:=h;rw[ZO,ZO];by_cases e:p.1=k
  ·have a:¬decide (p.1≠k)=true:=by simp[e]
   have b:¬decide (q.1≠k)=true:=by simp[h1.symm.trans e]
   rw[if_neg a,if_neg b];exact ih
  ·have e':¬q.1=k:=fun z=>e (h1.trans z);have a:decide (p.1≠k)=true:=by simp[e]
   have b:decide (q.1≠k)=true:=by simp[e']
   rw[if_pos a,if_pos b];exact .cons ⟨h1,h2⟩ ih
def KV.length{kvs:List (κ×V)}{vs:List (κ×Q2)}(r:KV kvs vs):kvs.length=vs.length:=Paired.length r
def yL(kvs:List (κ×V))(k:κ):(m7 kvs k).length<=kvs.length:=List.length_filter_le _ _
end
theorem pY{P:Qv}{w:Qe}{k:Key}{u:Q2}(r:bR (kV k) u):(bO P w).is k u=true:=by
 cases k with
 |inl i=>obtain⟨t,e⟩:=(show ∃t,u=Value.int i t from r);subst e;exact pT P w i t
 |inr x=>obtain⟨t,e⟩:=(show ∃t,u=Value.str x t from r);subst e;exact pS P w x t
theorem n5{P:Qv}{w:Qe}:∀{ks:List Key} {us:List Q2},bD (ks.map kV) us->ItemsAre (bO P w) ks us
 |[],_,r=>by rw[ZU]at r;cases r;exact .nil
 |k::ks,_,r=>by
  rw[QN]at r;cases r with
  |cons h t=>exact .cons (pY h) (n5 t)
abbrev KT(H:Hp):List (List Key×V)->List (List Key×Addr×Q2)->Prop:=Paired fun p q=>p.1=q.1/\H q.2.1=some (.tup (p.1.map kV))/\bR p.2 q.2.2
theorem KT.val{H:Hp}{kvs:List (List Key×V)}{xs:List (List Key×Addr×Q2)}(r:KT H kvs xs)(k:List Key):nr (gP kvs k) ((atKey xs k).map (·.2)):=by
 induction r with
 |nil=>exact True.intro
 |@cons p q ps qs h t ih=>
  obtain⟨h1,_,h2⟩:=h;by_cases e:p.1=k
  ·have e':q.1=k:=h1.symm.trans e;have b:atKey (q::qs) k=some q.2:=by simp[atKey,Qd,e']
   rw[cR e,b];exact h2
  ·have e':¬q.1=k:=fun z=>e (h1.trans z);have b:atKey (q::qs) k=atKey qs k:=by simp[atKey,Qd,e']
   rw[cS e,b];exact ih
theorem KT.repl{H:Hp}{kvs:List (List Key×V)}{xs:List (List Key×Addr×Q2)}(r:KT H kvs xs)(k:List Key){y:V}{u:Q2}(ry:bR y u) :
  KT H (kvs.map fun kv=>if kv.1=k then(kv.1,y)else kv) (xs.map (putAt k u)):=by
 induction r with
 |nil=>exact .nil
 |@cons p q ps qs h t ih=>
  rw[QN,QN];refine .cons ?_ ih;obtain⟨h1,h2,h3⟩:=h;unfold putAt;by_cases e:p.1=k
  ·rw[if_pos e,if_pos (h1.symm.trans e)];exact⟨h1,h2,ry⟩
  ·rw[if_neg e,if_neg (fun z=>e (h1.trans z))];exact⟨h1,h2,h3⟩
theorem KT.put{H:Hp}{kvs:List (List Key×V)}{xs:List (List Key×Addr×Q2)}(r:KT H kvs xs)(k:List Key){b:Addr}{y:V}{u:Q2}(hb:H b=some (.tup (k.map kV)))(ry:bR y u) :
  KT H (nz kvs k y) (storedH xs k b u):=by
 have e:(kvs.any fun kv=>decide (kv.1=k))=(atKey xs k).isSome:=by
  rw[jR,(r.val k).isSome_eq,Option.isSome_map]
 unfold nz storedH;rw[e];by_cases q:(atKey xs k).isSome=true
 ·rw[if_pos q,if_pos q];exact r.repl k ry
 ·rw[if_neg q,if_neg q];exact Paired.snoc r ⟨rfl,hb,ry⟩
theorem KT.keeps{H H':Hp}{kvs:List (List Key×V)}{xs:List (List Key×Addr×Q2)}(r:KT H kvs xs)(ht:∀b ys,H b=some (.tup ys)->H' b=some (.tup ys)):KT H' kvs xs:=
 Paired.mapP r fun _ _ z=>⟨z.1,ht _ _ z.2.1,z.2.2⟩
section
variable{P:Qv}{w:Qe}{H:Hp}{h:Heap}{a:Addr}
def Ec{u:HO}(ok:HOk P w H h)(e:Rd H a u):c8 P w H h a u:=e.ok ok
theorem oo{kvs:List (Key×V)}(ok:HOk P w H h)(e:Rd H a (.dK kvs)):kvs.length<=QD/\(a == sysModules)=false/\∃vs,KV kvs vs/\h.DictOf (bO P w) a vs:=
 show c8 P w H h a (.dK kvs)from Ec ok e
theorem wy{kvs:List (Key×V)}(ok:HOk P w H h)(e:H a=some (.dK kvs)):kvs.length<=QD/\(a == sysModules)=false/\∃vs,KV kvs vs/\h.DictOf (bO P w) a vs:=oo ok (.inl e)
theorem lX{ks:List Key}(ok:HOk P w H h)(e:H a=some (.tup (ks.map kV))):(tupleKind (bO P w)).is h ks a:=by
 obtain⟨_,its,r,o,h1,h2,n,h3⟩:=(show c8 P w H h a (.tup (ks.map kV))from ok a _ e);exact⟨o,its.toArray,n,h1,h2.1,h3,by simpa using n5 r⟩
theorem qi{kvs:List (List Key×V)}(ok:HOk P w H h)(e:Rd H a (.dT kvs)):kvs.length<=QD/\(a == sysModules)=false/\
  ∃xs,KT H kvs xs/\h.DictOfH (tupleKind (bO P w)) a xs:=by
 obtain⟨z,y,xs,r,o,es,ep,h1,h2,h3,h4,h5⟩:=(show c8 P w H h a (.dT kvs)from Ec ok e);refine⟨z,y,xs,r,o,es,ep,h1,h2,h3,h4,fun x hx=>?_,h5⟩;have all:∀{l:List (List Key×V)} {m:List (List Key×Addr×Q2)},KT H l m->∀x∈m,(tupleKind (bO P w)).is h x.1 x.2.1:=by
  intro l m q;induction q with
  |nil=>intro x hx;exact nomatch hx
  |@cons p q ps qs hq t ih=>
   intro x hx;rcases QM.mp hx with e|hx
   ·subst e;exact lX ok (by rw[<-hq.1];exact hq.2.1)
   ·exact ih x hx
 exact all r x hx
theorem IE{kvs:List (List Key×V)}(ok:HOk P w H h)(e:H a=some (.dT kvs)):kvs.length<=QD/\(a == sysModules)=false/\
  ∃xs,KT H kvs xs/\h.DictOfH (tupleKind (bO P w)) a xs:=qi ok (.inl e)
end
def DGet(H:Hp)(a:Addr)(y:V)(r:Option V):Prop:=
 (∃kvs k,Rd H a (.dK kvs)/\y=kV k/\r=gP kvs k)\/∃kvs k b,Rd H a (.dT kvs)/\y=.ref b/\H b=some (.tup (k.map kV))/\r=gP kvs k
def FX(H:Hp)(a:Addr)(y v:V)(H':Hp):Prop:=
 (∃kvs k,H a=some (.dK kvs)/\y=kV k/\kvs.length<QD/\H'=upd H a (.dK (nz kvs k v)))\/
 ∃kvs k b,H a=some (.dT kvs)/\y=.ref b/\H b=some (.tup (k.map kV))/\kvs.length<QD/\H'=upd H a (.dT (nz kvs k v))
theorem DGet.k{H:Hp}{a:Addr}{kvs:List (Key×V)}{k:Key}(e:H a=some (.dK kvs)):DGet H a (kV k) (gP kvs k):=.inl ⟨kvs,k,.inl e,rfl,rfl⟩
theorem FX.k{H:Hp}{a:Addr}{kvs:List (Key×V)}{k:Key}{v:V}(e:H a=some (.dK kvs))(hl:kvs.length<QD):FX H a (kV k) v (upd H a (.dK (nz kvs k v))):=.inl ⟨kvs,k,e,rfl,hl,rfl⟩
section
variable{X:Cx}{pins:List (Addr×Obj)}{σ:St}{H:Hp}{s:Q3}{a:Addr}{y v:V}{u r:Q2}{o:Option V}{A:Qa}{E:Q2->Q3->Prop}
theorem Inv.big(I:Inv X pins σ H s):sysModules<s.heap.objs.size:=by
 have h:mainGlobals<s.heap.objs.size:=(I.mod.glob.keeps I.bk).lt;exact Nat.lt_trans (by decide) h
theorem wD{Q:Q2->Q3->Prop}(hu:A.units+1<cLine)(I:Inv X pins σ H s)(g:DGet H a y (some v))(ry:bR y u)(h:∀w' s',Inv X pins σ H s'->bR v w'->Q w' s') :
  wpAny (Qj X.prog X.w) A (getItem (.ref a) u) Q E s:=by
 rcases g with⟨kvs,k,e,ey,l⟩|⟨kvs,k,b,e,ey,eb,l⟩
 ·subst ey;obtain⟨z,hd,vs,rel,dd⟩:=oo I.hok e;obtain⟨w',hw,rw'⟩:=nr.some_of (v:=v) (o:=valueAt vs k) (by rw[l];exact rel.val k);exact wpAny_getItem_of (pY ry) dd.mapOf hw (h w' _ (I.tok _) rw')
 ·subst ey;cases (show u=Value.ref b from ry);obtain⟨z,hd,xs,rel,dd⟩:=qi I.hok e;obtain⟨w',hw,rw'⟩:=nr.some_of (v:=v) (o:=(atKey xs k).map (·.2)) (by rw[l];exact rel.val k);obtain⟨p,hp,hp2⟩:=ZK.mp hw;refine wpAny_getItem_heap (tupleKind_room_in1 hu) (lX I.hok eb) dd hp ?_;rw[hp2];exact h w' _ (I.tok _) rw'
theorem JY{Q:Q2->Q3->Prop}(hu:A.units+1<cLine)(I:Inv X pins σ H s)(g:DGet H a y o)(ry:bR y u)(h:∀s',Inv X pins σ H s'->Q (.bool o.isSome) s') :
  wpAny (Qj X.prog X.w) A (compareOp .In u (.ref a)) Q E s:=by
 rcases g with⟨kvs,k,e,ey,l⟩|⟨kvs,k,b,e,ey,eb,l⟩
 ·subst ey;obtain⟨z,hd,vs,rel,dd⟩:=oo I.hok e;refine wpAny_in_of (pY ry) hd dd.mapOf ?_;rw[<-(rel.val k).isSome_eq,<-l];exact h _ (I.tok _)
 ·subst ey;cases (show u=Value.ref b from ry);obtain⟨z,hd,xs,rel,dd⟩:=qi I.hok e;refine wpAny_in_heap (tupleKind_room_in1 hu) (lX I.hok eb) hd dd ?_;have q:=(rel.val k).isSome_eq;rw[Option.isSome_map]at q;rw[<-q,<-l];exact h _ (I.tok _)
theorem Cw{Q:Q2->Q3->Prop}(hu:A.units+1<cLine)(I:Inv X pins σ H s)(g:DGet H a y o)(ry:bR y u)(h:∀s',Inv X pins σ H s'->Q (.bool (!o.isSome)) s') :
  wpAny (Qj X.prog X.w) A (compareOp .NotIn u (.ref a)) Q E s:=by
 rcases g with⟨kvs,k,e,ey,l⟩|⟨kvs,k,b,e,ey,eb,l⟩
 ·subst ey;obtain⟨z,hd,vs,rel,dd⟩:=oo I.hok e;refine wpAny_notIn_of (pY ry) hd dd.mapOf ?_;rw[<-(rel.val k).isSome_eq,<-l];exact h _ (I.tok _)
 ·subst ey;cases (show u=Value.ref b from ry);obtain⟨z,hd,xs,rel,dd⟩:=qi I.hok e;refine wpAny_notIn_heap (tupleKind_room_in1 hu) (lX I.hok eb) hd dd ?_;have q:=(rel.val k).isSome_eq;rw[Option.isSome_map]at q;rw[<-q,<-l];exact h _ (I.tok _)
theorem qp{h':Heap}{t':Nat}{ob:HO}(I:Inv X pins σ H s)(mu:Mut (H a))(hs:Heap.SameBut a s.heap h')(he:∃q,h'.get? a=some q)(new:c8 X.prog X.w (upd H a ob) h' a ob) :
  Inv X pins σ (upd H a ob) { s with heap:=h',toks:=t' }:=
 I.write (x:=a) (e:=a) mu (.inl rfl) (fun b q hb z=>(hs.2 b hb).trans z) he new
theorem Aa{P:Qv}{w:Qe}{H':Hp}{h':Heap}{kvs:List (Key×V)}{vs:List (Key×Q2)}(z:kvs.length<=QD)(hd:(a == sysModules)=false)(rel:KV kvs vs)(dd:h'.DictOf (bO P w) a vs) :
  c8 P w H' h' a (.dK kvs):=⟨z,hd,vs,rel,dd⟩
theorem wC{H':Hp}{Q:Unit->Q3->Prop}(hu:A.units+1<cLine)(I:Inv X pins σ H s)(g:FX H a y v H')(ry:bR y u)(rv:bR v r)(h:∀s',Inv X pins σ H' s'->Q () s') :
  wpAny (Qj X.prog X.w) A (setItem (.ref a) u r) Q E s:=by
 rcases g with⟨kvs,k,e,ey,l,eH⟩|⟨kvs,k,b,e,ey,eb,l,eH⟩
 ·subst ey eH;obtain⟨z,hd,vs,rel,dd⟩:=wy I.hok e;have hz:vs.length<=QD:=by rw[<-rel.length];exact z
  have hl:(nz kvs k v).length<=QD:=by have:=kn kvs k v;omega
  refine wpAny_setItem_pairs (hsz:=hz) (pY ry) dd fun h' dd' hs=>h _ ?_;have he:∃q,h'.get? a=some q:=let ⟨q,_,_,hq,_⟩:=dd';⟨q,hq⟩
  exact qp I (by rw[e];exact True.intro) hs he (Aa hl hd (rel.put k rv) dd')
 ·subst ey eH;cases (show u=Value.ref b from ry);obtain⟨z,hd,xs,rel,dd⟩:=IE I.hok e;have hz:xs.length<=QD:=by rw[<-Paired.length rel];exact z
  have hl:(nz kvs k v).length<=QD:=by have:=kn kvs k v;omega
  refine wpAny_setItem_heap (hsz:=hz) (tupleKind_room_in1 hu) (lX I.hok eb) dd fun h' dd' hs=>h _ ?_;obtain⟨q,es,ep,hq,h2,h3,h4,_,h5⟩:=dd';refine qp I (by rw[e];exact True.intro) hs ⟨q,hq⟩ ⟨hl,hd,_,(rel.put k eb rv).keeps fun c ys ec=>?_,q,es,ep,hq,h2,h3,h4,h5⟩;rw[aB (HR ec e (fun z=>nomatch z))];exact ec
end
section
variable{X:Cx}{pins:List (Addr×Obj)}{σ:St}{H:Hp}{s:Q3}{a:Addr}{kvs:List (Key×V)}{k:Key}{u:Q2}{A:Qa}{E:Q2->Q3->Prop}
theorem IF{v:V}{more:List Q2}{Q:Q2->Q3->Prop}(I:Inv X pins σ H s)(e:H a=some (.dK kvs))(ry:bR (kV k) u)(l:gP kvs k=some v)(hm:more=[]\/∃x,more=[x])
  (h:∀w' s',Inv X pins σ (upd H a (.dK (m7 kvs k))) s'->bR v w'->Q w' s'):wpAny (Qj X.prog X.w) A (call (.builtin "dict.pop") (.ref a::u::more)) Q E s:=by
 obtain⟨z,hd,vs,rel,dd⟩:=wy I.hok e;obtain⟨w',hw,rw'⟩:=nr.some_of (v:=v) (o:=valueAt vs k) (by rw[<-l];exact rel.val k);have hp:(keyPart u).isSome=true:=by
  cases k with
  |inl i=>obtain⟨t,q⟩:=(show ∃t,u=Value.int i t from ry);subst q;rfl
  |inr x=>obtain⟨t,q⟩:=(show ∃t,u=Value.str x t from ry);subst q;rfl
 have ha:argsOk "dict.pop" ⟨.ref a::u::more,[]⟩:=by
  rcases hm with q|⟨x,q⟩
  ·subst q;exact PySem.F.args_dict_pop_2 _ _
  ·subst q;exact PySem.F.args_dict_pop_3 _ _ _
 refine call_meetsIn PySem.F.slot_dict_pop dd.typeIs PySem.F.entry_dict_pop ha (meets_dict_pop_there (bO X.prog X.w) a (pY ry) more hm hp)
  ⟨vs,w',dd,by rw[<-rel.length];exact z,hw,fun h' dd' hs=>h w' _ ?_ rw'⟩
 have he:∃q,h'.get? a=some q:=let ⟨q,_,_,hq,_⟩:=dd';⟨q,hq⟩
 exact qp I (by rw[e];exact True.intro) hs he (Aa (Qb (yL kvs k) z) hd (rel.drop k) dd')
theorem IG{Q:Q2->Q3->Prop}(I:Inv X pins σ H s)(e:Rd H a (.dK kvs))(h:∀t s',Inv X pins σ H s'->Q (.int kvs.length t) s'):wpAny (Qj X.prog X.w) A (call (.builtin "len") [.ref a]) Q E s:=by
 obtain⟨z,hd,vs,rel,dd⟩:=oo I.hok e;refine call_len_dict hd dd (by rw[<-rel.length];rw[sizeLine_eq]at z;omega) ?_;rw[<-rel.length];exact h _ _ (I.tok _)
end
def FN(i:QC):Prop:=∀ov iv,subscripted i false ov iv=operate [ov,iv] (getItem ov iv)
theorem Bf{prog:Qv}{w:Qe}{A:Qa}{E:Q2->Q3->Prop}{s:Q3}{env:Env}{value slice:QC}{pos:Pos}{T id:String}{Q:Q2->Q3->Prop}
  (hl:typeLookup (.type T) "__getitem__"=pure (some (.builtin id))) (hs:FN slice)
  (h:wpAny (Qj prog w) A (eval value env) (fun o s₁=>wpAny (Qj prog w) A (eval slice env) (fun i s₂=>s₂.TypeIs o T/\wpAny (Qj prog w) A (getItem o i) Q E s₂) E s₁) E s) :
  wpAny (Qj prog w) A (eval (.Subscript value slice pos) env) Q E s:=by
 refine Subscript_ (ZX h (fun o s₁ h₁=>ZX h₁ (fun i s₂ h₂=>?_) fun _ _ x=>x) fun _ _ x=>x);obtain⟨hT,h₂⟩:=h₂;unfold subscriptTail;refine Q5 ?_;rw[getitemInPython_of_ne hT.not_modules];refine Q5 (wpAny_specialOf hT hl ?_);have fin:wpAny (Qj prog w) A (subscripted slice false o i) (fun r s₃=>wpAny (Qj prog w) A (letTemporaryGo value o r >>= fun _=>pure r) Q E s₃) E s₂:=by
  rw[hs o i];exact wpAny_operating (ZX h₂ (fun r s₃ h₃=>Q5 (wpAny_letTemporaryGo (QL h₃))) fun _ _ x=>x)
 first
  |exact QL (Q5 fin)
  |exact Q5 (QL (Q5 fin))
  |exact Q5 fin
theorem qo{X:Cx}{pins:List (Addr×Obj)}{σ:St}{H:Hp}{s:Q3}{a:Addr}{y:V}{o:Option V}(I:Inv X pins σ H s)(g:DGet H a y o):s.TypeIs (.ref a) "dict":=by
 rcases g with⟨kvs,k,e,_,_⟩|⟨kvs,k,b,e,_,_,_⟩
 ·obtain⟨_,_,vs,_,dd⟩:=oo I.hok e;exact dd.typeIs
 ·obtain⟨_,_,xs,_,dd⟩:=qi I.hok e;exact dd.typeIs
def D4(td ty:TE):TE:=fun σ H Q=>td σ H fun x H1=>ty σ H1 fun y H2=>∃a v,x=.ref a/\DGet H2 a y (some v)/\Q v H2
def Hq(ty td:TE):TE:=fun σ H Q=>ty σ H fun y H1=>td σ H1 fun x H2=>∃a o,x=.ref a/\DGet H2 a y o/\Q (.bl o.isSome) H2
def pG(ty td:TE):TE:=fun σ H Q=>ty σ H fun y H1=>td σ H1 fun x H2=>∃a o,x=.ref a/\DGet H2 a y o/\Q (.bl (!o.isSome)) H2
def Eb(td ty tv:TE):TS:=fun D σ H=>tv σ H fun v H1=>td σ H1 fun x H2=>ty σ H2 fun y H3=>∃a H4,x=.ref a/\FX H3 a y v H4/\D.nx σ H4
section
variable{X:Cx}{o i value:QC}{pos pos':Pos}{td ty tv:TE}
theorem BM(hu:X.A.units+1<cLine)(ho:PE X o td)(hi:PE X i ty)(hs:FN i):PE X (.Subscript o i pos) (D4 td ty):=by
 intro pins s σ H Q I h;refine Bf PySem.F.slot_dict_getitem.lookup hs (thn (ho pins s σ H _ I h) fun u s1 ⟨x,H1,I1,rx,q1⟩=>thn (hi pins s1 σ H1 _ I1 q1) fun iv s2 hz=>?_);obtain⟨y,H2,I2,ry,a,v,ex,g,q2⟩:=hz;subst ex;obtain rfl:u=Value.ref a:=rx;exact⟨qo I2 g,wD hu I2 g ry fun w' s3 I3 rw'=>⟨v,H2,I3,rw',q2⟩⟩
theorem EI(hu:X.A.units+1<cLine)(hi:PE X i ty)(ho:PE X o td):PC X .In i o (Hq ty td):=by
 intro pins s σ H Q I h;refine thn (hi pins s σ H _ I h) fun iv s1 ⟨y,H1,I1,ry,q1⟩=>thn (ho pins s1 σ H1 _ I1 q1) fun u s2 hz=>?_;obtain⟨x,H2,I2,rx,a,ov,ex,g,q2⟩:=hz;subst ex;obtain rfl:u=Value.ref a:=rx;exact JY hu I2 g ry fun s3 I3=>⟨.bl ov.isSome,H2,I3,rfl,q2⟩
theorem uY(hu:X.A.units+1<cLine)(hi:PE X i ty)(ho:PE X o td):PC X .NotIn i o (pG ty td):=by
 intro pins s σ H Q I h;refine thn (hi pins s σ H _ I h) fun iv s1 ⟨y,H1,I1,ry,q1⟩=>thn (ho pins s1 σ H1 _ I1 q1) fun u s2 hz=>?_;obtain⟨x,H2,I2,rx,a,ov,ex,g,q2⟩:=hz;subst ex;obtain rfl:u=Value.ref a:=rx;exact Cw hu I2 g ry fun s3 I3=>⟨.bl (!ov.isSome),H2,I3,rfl,q2⟩
theorem BE(hu:X.A.units+1<cLine)(ho:PE X o td)(hi:PE X i ty)(hv:PE X value tv)(hs:ZP value (some (.Subscript o i pos')) pos.line X.env=pure false) :
  PS X (.Assign [.Subscript o i pos'] value pos) (Eb td ty tv):=by
 intro pins s σ H D I h;refine wpAny_Assign_Subscript (thn (hv pins s σ H _ I h) fun r s1 ⟨v,H1,I1,rv,q1⟩=>thn (ho pins s1 σ H1 _ I1 q1) fun u s2 ⟨x,H2,I2,rx,q2⟩=>thn (hi pins s2 σ H2 _ I2 q2) fun iv s3 hz=>?_) hs;obtain⟨y,H3,I3,ry,a,H4,ex,g,q3⟩:=hz;subst ex;obtain rfl:u=Value.ref a:=rx;exact wC hu I3 g ry rv fun s4 I4=>⟨σ,H4,I4,q3⟩
end
theorem yN{P:Qv}{w:Qe}{H:Hp}(h:Heap)(hb:sysModules<h.objs.size):c8 P w H (h.push { cls:=.type "dict",data:=.dict #[] }) h.objs.size (.dK []):=
 ⟨Z6 _,beq_eq_false_iff_ne.mpr (Ne.symm (Qy hb)),[],.nil,Heap.DictOf.new h⟩
def zw:TE:=fun _ H Q=>∀p,H p=none->Q (.ref p) (upd H p (.dK []))
section
variable{X:Cx}{pos:Pos}
theorem yb:PE X (.Dict [] [] pos) zw:=fun pins s σ H Q I h=>
 wpAny_Dict_empty ⟨.ref s.heap.objs.size,_,I.laid (a:=s.heap.objs.size) (o:=.dK []) (t':=s.toks) (fun _ _ q=>Q7 _ q) (Q8 _) (yN s.heap I.big),rfl,h _ (I.hok.fresh (Q8 _))⟩
end
structure M1(X:Cx)(o:QC)(m:Str)(apos:Pos)(e:QC)(cpos:Pos):Prop where
 base:attributeBase o m X.env (eval o X.env)=eval o X.env
 few:((ZQ cpos (QJ [e] X.env)).all (fun x=>!x.1)&&(backToKw cpos (keywordEach [] X.env)).all (fun x=>x.1.isSome)
  && decide (([e]:List QC).length+([]:List Keyword).length+(if ([]:List Keyword).isEmpty then 0 else 1)<30))=true
 line:(apos.endLine == cpos.line)=true
 trees:ZQ cpos (QJ [e] X.env)=[(false,eval e X.env)]
structure M2(X:Cx)(o:QC)(m:Str)(apos:Pos)(e f:QC)(cpos:Pos):Prop where
 base:attributeBase o m X.env (eval o X.env)=eval o X.env
 few:((ZQ cpos (QJ [e,f] X.env)).all (fun x=>!x.1)&&(backToKw cpos (keywordEach [] X.env)).all (fun x=>x.1.isSome)
  && decide (([e,f]:List QC).length+([]:List Keyword).length+(if ([]:List Keyword).isEmpty then 0 else 1)<30))=true
 line:(apos.endLine == cpos.line)=true
 trees:ZQ cpos (QJ [e,f] X.env)=[(false,eval e X.env),(false,eval f X.env)]
def IsD(H:Hp)(a:Addr):Prop:=(∃kvs,Rd H a (.dK kvs))\/∃kvs,Rd H a (.dT kvs)
theorem zQ{X:Cx}{pins:List (Addr×Obj)}{σ:St}{H:Hp}{s:Q3}{a:Addr}(I:Inv X pins σ H s)(d:IsD H a) :
  s.TypeIs (.ref a) "dict"/\(∀b,Value.ref a=.ref b->∃ob,s.heap.get? b=some ob/\ob.dict=none)/\(a == sysModules)=false:=by
 rcases d with⟨kvs,e⟩|⟨kvs,e⟩
 ·obtain⟨_,hd,vs,_,dd⟩:=oo I.hok e;refine⟨dd.typeIs,fun b q=>?_,hd⟩;cases q;obtain⟨ob,_,_,h1,h2,_⟩:=dd;exact⟨ob,h1,h2.2.1⟩
 ·obtain⟨_,hd,xs,_,dd⟩:=qi I.hok e;refine⟨dd.typeIs,fun b q=>?_,hd⟩;cases q;obtain⟨ob,_,_,h1,h2,_⟩:=dd;exact⟨ob,h1,h2.2.1⟩
section
variable{X:Cx}{pins:List (Addr×Obj)}{σ:St}{H:Hp}{s:Q3}{a:Addr}{y d:V}{u r:Q2}{o:Option V}{A:Qa}{E:Q2->Q3->Prop}
theorem FH{Q:Q2->Q3->Prop}(hu:A.units+1<cLine)(I:Inv X pins σ H s)(g:DGet H a y o)(ry:bR y u)(rd:bR d r)(h:∀w' s',Inv X pins σ H s'->bR (o.getD d) w'->Q w' s') :
  wpAny (Qj X.prog X.w) A (call (.builtin "dict.get") [.ref a,u,r]) Q E s:=by
 rcases g with⟨kvs,k,e,ey,l⟩|⟨kvs,k,b,e,ey,eb,l⟩
 ·subst ey;obtain⟨z,hd,vs,rel,dd⟩:=oo I.hok e;refine call_meetsIn PySem.F.slot_dict_get dd.typeIs PySem.F.entry_dict_get (PySem.F.args_dict_get_3 _ _ _) (meets_dict_get_default (bO X.prog X.w) a (pY ry) hd r) ⟨_,dd.mapOf,h _ _ (I.tok _) ?_⟩;rw[l];exact(rel.val k).getD rd
 ·subst ey;cases (show u=Value.ref b from ry);obtain⟨z,hd,xs,rel,dd⟩:=qi I.hok e;refine call_meetsIn PySem.F.slot_dict_get dd.typeIs PySem.F.entry_dict_get (PySem.F.args_dict_get_3 _ _ _) (meetsH_dict_get_default (tupleKind (bO X.prog X.w)) a b hd r) ⟨tupleKind_room_in1 hu,k,xs,lX I.hok eb,dd,h _ _ (I.tok _) ?_⟩;rw[l];exact(rel.val k).getD rd
end
def zy(td ty tx:TE):TE:=fun σ H Q=>td σ H fun x H1=>∃a,x=.ref a/\IsD H1 a/\ty σ H1 fun y H2=>tx σ H2 fun z H3=>∃o,DGet H3 a y o/\Q (o.getD z) H3
def zu(td ty:TE):TE:=fun σ H Q=>td σ H fun x H1=>∃a,x=.ref a/\IsD H1 a/\ty σ H1 fun y H2=>∃kvs k v,H2 a=some (.dK kvs)/\y=kV k/\gP kvs k=some v/\Q v (upd H2 a (.dK (m7 kvs k)))
section
variable{X:Cx}{o e f:QC}{apos cpos:Pos}{td ty tx:TE}
theorem yc(hu:X.A.units+1<cLine)(ho:PE X o td)(he:PE X e ty)(hf:PE X f tx)(m:M2 X o "get" apos e f cpos):PE X (.Call (.Attribute o "get" apos) [e,f] [] cpos) (zy td ty tx):=by
 intro pins s σ H Q I h;refine wpAny_Call_method m.base m.few m.line PySem.F.plainAttrs_dict PySem.F.slot_dict_get PySem.F.type_dict_get (thn (ho pins s σ H _ I h) fun u s1 hz=>?_);obtain⟨x,H1,I1,rx,a,ex,d,q1⟩:=hz;subst ex;obtain rfl:u=Value.ref a:=rx;obtain⟨t1,t2,_⟩:=zQ I1 d;refine⟨t1,t2,?_⟩;rw[m.trees];refine Calls.callWith_builtin rfl (Calls.evalArgs_plain (Calls.spliced_cons (thn (he pins s1 σ H1 _ I1 q1) fun iv s2 ⟨y,H2,I2,ry,q2⟩=>
  Calls.spliced_cons (thn (hf pins s2 σ H2 _ I2 q2) fun fv s3 ⟨z,H3,I3,rz,ov,g,q3⟩=>Calls.spliced_nil ?_))))
 exact FH hu I3 g ry rz fun w' s4 I4 rw'=>⟨_,H3,I4,rw',q3⟩
theorem x8(ho:PE X o td)(he:PE X e ty)(m:M1 X o "pop" apos e cpos):PE X (.Call (.Attribute o "pop" apos) [e] [] cpos) (zu td ty):=by
 intro pins s σ H Q I h;refine wpAny_Call_method m.base m.few m.line PySem.F.plainAttrs_dict PySem.F.slot_dict_pop PySem.F.type_dict_pop (thn (ho pins s σ H _ I h) fun u s1 hz=>?_);obtain⟨x,H1,I1,rx,a,ex,d,q1⟩:=hz;subst ex;obtain rfl:u=Value.ref a:=rx;obtain⟨t1,t2,_⟩:=zQ I1 d;refine⟨t1,t2,?_⟩;rw[m.trees];refine Calls.callWith_builtin rfl (Calls.evalArgs_plain (Calls.spliced_cons (thn (he pins s1 σ H1 _ I1 q1) fun iv s2 ⟨y,H2,I2,ry,kvs,k,v,ea,ey,l,q2⟩=>Calls.spliced_nil ?_)));subst ey;exact IF I2 ea ry l (.inl rfl) fun w' s3 I3 rw'=>⟨v,_,I3,rw',q2⟩
end
end L2
namespace Att
open PySem PySem.W PySem.Calls PyProof.Rows
theorem kx{P:Params}{h:Heap}:∀(ns:List Int) (vs:List Q2),WellAll P h vs (ns.map WData.int)->IntsAre vs ns:=by
 intro ns;induction ns with
 |nil=>
  intro vs w;rw[ZU]at w;cases w;exact .nil
 |cons n ns ih=>
  intro vs w;rw[QN]at w;cases w with
  |cons a b=>
   cases a;exact .cons _ _ (ih _ b)
theorem uD{l:OpenLaw}{n:Nat}(hn:l.most=some n){P:Params}{h:Heap}{args:List WData}{vals:List Q2}
  (hpre:l.row.toRowW.claim.pre args=true) (hwl:WellAll P h vals args) :
  ∃a vs ns,vals=[Value.ref a]/\args=[WData.list (ns.map WData.int)]/\h.get? a=some { cls:=.type "list",data:=.seq vs.toArray }/\IntsAre vs ns/\ns.length<=n:=by
 have hsh:WShape.hasAll [] args [.list .int]=true:=(pre_splitW hpre).1;have hc:l.pre.holds [] { args:=args }=true:=(pre_splitW hpre).2;obtain⟨d,r,rfl,h1,h2⟩:=hasAllW_cons hsh;obtain rfl:=hasAllW_nil h2;obtain⟨xs,rfl,h3⟩:=hasW_list h1;obtain⟨ns,rfl⟩:=items_int h3;have hlen:ns.length<=n:=by
  unfold OpenLaw.pre at hc;have h4:(WTm.not (.lt (.lit (.int (n:Int))) (.len (.arg 0)))).holds [] { args:=[.list (ns.map .int)] }=true:=by
   have h4:=(holds_andW hc).1;rw[hn]at h4;exact h4
  have h5:=condW_of h4 (w_not (w_lt w_lit (w_len_list (w_arg rfl))));rw[QV]at h5;refine Nat.le_of_not_lt fun q=>?_;have q':(n:Int)<((ns.length:Nat):Int):=by omega
  first
   |(rw[decide_eq_true q']at h5;exact absurd h5 (by decide))
   |(simp at h5;omega)
 cases hwl with
 |cons w1 w2=>
  cases w2;cases w1 with
  |list ho hall=>exact⟨_,_,ns,rfl,rfl,ho,kx ns _ hall,hlen⟩
theorem uU(l:OpenLaw)(args:List WData):l.row.toRowW.claim.post args (.bool true) args=true:=
 postW_of (r:=l.row.toRowW) (X:=(true == true))
  (show WShape.has [] (.bool true) .bool=true by first|rfl|decide|simp[WShape.has,WShape.arms,WShape.armsAll])
  (show(WTm.eq .res (.lit (.bool true))).value [] { args:=args,res:=some (.bool true),after:=args }=some (.bool (true == true))from w_eq_bool (w_res rfl) w_lit) rfl
theorem attach_call{l:OpenLaw}{n:Nat}{q:Qv}{bZ:List Str}{XP:(Str->Option Q2)->Heap->Prop}{YP:Qe->Heap->Prop}{d:DefRec}
  (hn:l.most=some n) (hdf:d.params.defaults=[])
  (call:∀(w:Qe) (s₀ s₁:Q3) (mg mb:Str->Option Q2) (fa:Addr) (o:Obj) (pm cd doc:Q2) (a:Addr) (vs:List Q2) (ns:List Int),
   Ground q bZ [] XP w s₀ mg mb s₁.heap->YP w s₁.heap->
   s₁.heap.get? fa=some o->o.data=.func (docDef d.name d.params d.body d.scope pm cd doc)->s₁.heap.CodeRec cd d.name->mg d.name=some (.ref fa)->
   s₁.heap.get? a=some { cls:=.type "list",data:=.seq vs.toArray }->IntsAre vs ns->ns.length<=n->s₁.gens=#[]->
   codeAny (Qj l.prog w) callerA (.call (.ref fa) ⟨[.ref a],[]⟩) (fun r s'=>r=.ok (.ret (.bool true))/\OldK s₁.heap s'.heap/\s'.os=s₁.os/\AllBare s'.gens) s₁) :
  WalkO q bZ XP YP l.row.toRowW d [] (fun f vs=>PySem.call f vs):=by
 intro w s₀ s₁ mg mb G Y fa o pm cd doc dV kV ho hd hcd hD hmg hg args vals as hpre hlay hrd hwl hlo;obtain rfl:dV=.none:=Dflts.none hD hdf;obtain rfl:kV=.none:=Dflts.noKw hD;obtain⟨a,vs,ns,rfl,rfl,hobj,hints,hlen⟩:=uD hn hpre hwl;refine enter_call (codeAny_mono (call w s₀ s₁ mg mb fa o pm cd doc a vs ns G Y ho (fd_plain hd) hcd hmg hobj hints hlen hg) fun r s' hq=>?_);obtain⟨rfl,h2,h3,h4⟩:=hq;exact⟨.inl ⟨.bool true,.bool true,[],rfl,fun _=>rfl,.bool true,uU l _,fun _=>⟨List.Pairwise.nil,fun _ hm=>(nomatch hm)⟩⟩,h2,h3,h4⟩
end Att
namespace L2
open PySem PySem.Spec PyProof.Rows
theorem fR:∀{vs:List Q2} {ns:List Int},IntsAre vs ns->bD (ns.map V.int) vs
 |_,_,.nil=>.nil
 |_,_,.cons n t h=>.cons ⟨t,rfl⟩ (fR h)
def bJ(s:Z0)(j:Nat):Z0:=match s with
 |.ClassDef _ _ _ body _ _ _ _ _ _ _=>body.getD j (.Pass ⟨0,0,0,0⟩)
 |_=>.Pass ⟨0,0,0,0⟩
def iA(s:Z0):Arguments:=match s with
 |.FunctionDef _ a _ _ _ _ _ _ _ _=>a
 |_=>{ posonlyargs:=[],args:=[],vararg:=none,kwonlyargs:=[],kw_defaults:=[],kwarg:=none,defaults:=[] }
def cI(s:Z0):List Z0:=match s with
 |.FunctionDef _ _ b _ _ _ _ _ _ _=>b
 |_=>[]
def aq(s:Z0):Zq:=match s with
 |.FunctionDef _ _ _ _ _ _ sc _ _ _=>sc
 |_=>{ kind:=.function,names:=[],isGenerator:=false,isCoroutine:=false }
abbrev CX0:CXT:=fun _ _ _ _ _ _=>False
abbrev E0:XK:=fun _ _ _=>False
def uZ{X:Cx}:gF CX0 X E0:=fun _ _ _ _ _ _ _ h=>h.elim
structure Fun(K:Q1)(x qual:Str)(st:Z0)(f:Addr)(fd:ZN):Prop where
 ex:∃(oc:Q2) (od:Option Addr) (kV doc pm:Q2) (an:Option Addr) (cdv ct:Q2) (osl:Array (Option Q2)),
  fd=PySem.W.fnOf x qual (iA st) (cI st) (aq st) .none kV doc pm an cdv ct/\K.lookup f=some ⟨oc,od,.func fd,osl⟩/\PySem.W.codeIn K cdv qual=true
 kp:PySem.W.keepIn K (.ref f)=true
section
variable{P:Qv}{w:Qe}{K:Q1}{mg:Str->Option Q2}{base:Heap}
theorem Fun.ok{x qual:Str}{st:Z0}{f:Addr}{fd:ZN}{N ps:List Str}{k:Nat}{sp:Sp}(F:Fun K x qual st f fd)(S:aM N ps (aq st))(len:∀vs H Q E,sp vs H Q E->vs.length=ps.length)
  (hbody:∀(cdv:Q2) (A:Qa) (outer:List Env) (s:Q3) (H:Hp) (vs:List V) (Q:VK) (E:XK),dG k (A.deeper (envOfC qual (aq st) s.heap.objs.size f cdv))->sp vs H Q E->
   ∃t,PSs (oX CX0 P w K mg base N qual (aq st) f cdv A outer s H E).nox (cI st) t/\t { nx:=fun _ H'=>Q .non H',rt:=Q } (iL N vs) H):jx P w K mg base CX0 (k+1) f fd ps sp:=by
 obtain⟨oc,od,kV,doc,pm,an,cdv,ct,osl,rfl,lk,hcd⟩:=F.ex;refine Fv lk hcd S len fun A outer s H vs Q E hr hsp=>?_;obtain⟨t,h,q⟩:=hbody cdv A outer s H vs Q E hr hsp;exact⟨t,h.nox,q⟩
theorem Fun.binds{x qual:Str}{st:Z0}{f:Addr}{fd:ZN}{ps:List Str}(F:Fun K x qual st f fd)
  (h:∀(kV doc pm:Q2) (an:Option Addr) (cdv ct:Q2) (us:List Q2),us.length=ps.length->bindArgs (PySem.W.fnOf x qual (iA st) (cI st) (aq st) .none kV doc pm an cdv ct) ⟨us,[]⟩=pure (ps.zip us)):fN K fd ps []:=by
 obtain⟨oc,od,kV,doc,pm,an,cdv,ct,osl,rfl,lk,hcd⟩:=F.ex;exact .all (h kV doc pm an cdv ct)
theorem zU{x qual:Str}{st:Z0}{f:Addr}{oc:Q2}{od an:Option Addr}{osl:Array (Option Q2)}{kV doc pm cdv ct:Q2}(l:K.lookup f=some ⟨oc,od,.func (PySem.W.fnOf x qual (iA st) (cI st) (aq st) .none kV doc pm an cdv ct),osl⟩)
  (c:PySem.W.codeIn K cdv qual=true) (k:PySem.W.keepIn K (.ref f)=true):Fun K x qual st f (PySem.W.fnOf x qual (iA st) (cI st) (aq st) .none kV doc pm an cdv ct):=⟨⟨oc,od,kV,doc,pm,an,cdv,ct,osl,rfl,l,c⟩,k⟩
end
theorem c7{A:Qa}{k:Nat}(hr:dG k A):A.units+1<cLine:=Nat.lt_of_le_of_lt (Nat.add_le_add_left (by decide:1<=64) _) hr.units
def uA{n:Nat}(h:n<=1000):n<QD:=Nat.lt_of_le_of_lt h (by decide)
section
variable{X:Cx}
theorem pv(i:Nat){x:Str}{pos:Pos}(hN:X.N[i]?=some x:=by rfl)(hv:Vis X.env.scope x:=by first|exact Or.inl rfl|exact Or.inr (Or.inl rfl)|exact Or.inr (Or.inr rfl))(hd:(x == ("__debug__":Str))=false:=by decide)
  (hcd:(x == ("__classdict__":Str))=false:=by decide):PE X (.Name x pos) (FY i):=Ez hN hv hd hcd
theorem wJ:fq X (.builtin "len") (fun xs H Q=>∃a kvs,xs=[V.ref a]/\H a=some (.dK kvs)/\Q (.int kvs.length) H):=by
 intro pins s σ H xs us Q I r h;obtain⟨a,kvs,rfl,ha,q⟩:=h;obtain⟨u,rfl,ru⟩:=k7 r;cases ru;exact IG I (.inl ha) fun t s' I'=>⟨.int kvs.length,H,I',⟨t,rfl⟩,q⟩
end
theorem Fi{A B:Prop}(h:B):if false=true then A else B:=by
 rw[if_neg Q9];exact h
theorem Fh{A B:Prop}(h:A):if true=true then A else B:=by
 rw[if_pos rfl];exact h
def Aj(H H':Hp):Prop:=∀b o,H b=some o->H' b=some o
def Aj.refl(H:Hp):Aj H H:=fun _ _ h=>h
end L2
namespace OG
open PySem PySem.Spec PyProof.Rows L2
structure WE(X:Cx)(e:QC)(t:TE):Prop where
 h:PE X e t
structure WT(X:Cx)(e:QC)(t:TT):Prop where
 h:PT X e t
structure WW(X:Cx)(e:QC)(t:TT):Prop where
 h:PW X e t
structure WA(X:Cx)(es:List QC)(t:TA):Prop where
 h:PA X es t
structure WS(X:Cx)(st:Z0)(t:TS):Prop where
 h:PS X st t
structure WSs(X:Cx)(st:List Z0)(t:TS):Prop where
 h:PSs X st t
structure WI(X:Cx)(tg iter:QC)(wi:TI):Prop where
 h:PI X tg iter wi
structure WG(X:Cx)(target:QC)(t:TG):Prop where
 h:PG X target t
structure WGs(X:Cx)(ts:List QC)(t:TGs):Prop where
 h:PGs X ts t
structure WC(X:Cx)(op:CmpOp)(a b:QC)(t:TE):Prop where
 h:PC X op a b t
structure WO(X:Cx)(e:Option QC)(t:TO):Prop where
 h:PO X e t
section
variable{X:Cx}
def A0{i j pos}:WE X (.Constant (.int i) j pos) (tC (.int i)):=⟨EF ⟩
def DQ{b j pos}:WE X (.Constant (.bool b) j pos) (tC (.bl b)):=⟨HI ⟩
def AY{j pos}:WE X (.Constant .none j pos) (tC .non):=⟨ED ⟩
def AW{x j pos}:WE X (.Constant (.str x) j pos) (tC (.str x)):=⟨EB ⟩
end
section
variable{X:Cx}
variable{a b:QC}{pos:Pos}
theorem tW{op:CmpOp}{t:TE}(h:WC X op a b t)(h1:behindInMarks op b=false:=by first|exact nobehind _ (by decide) (by decide)|rfl):WT X (.Compare a [op] [b] pos) (tB t):=⟨Eo h.h h1⟩
end
section
variable{X:Cx}
variable{pos:Pos}
theorem AL{e:QC}{t:TE}(h:WE X e t)(he:∀whole,isTrue e X.env whole=(do let v <-whole;standAt e.pos;holding [v] (truthy v)):=by intro _;rfl):WT X e (tB t):=⟨Em h.h he⟩
end
section
variable{X:Cx}
variable{a:QC}{pos:Pos}
variable{tA:TT}
def xi(ha:WT X a tA):WW X (.BoolOp .And [a] pos) tA:=⟨Bx ha.h⟩
def AJ(ha:WT X a tA):WW X (.BoolOp .Or [a] pos) tA:=⟨Ek ha.h⟩
end
section
variable{X:Cx}
variable{a b:QC}{pos:Pos}
variable{tA tB':TT}{rest:List QC}
theorem AK(ha:WT X a tA)(hb:WW X (.BoolOp .And (b::rest) pos) tB'):WW X (.BoolOp .And (a::b::rest) pos) (IZ tA tB'):=⟨El ha.h hb.h⟩
theorem DK(ha:WT X a tA)(hb:WW X (.BoolOp .Or (b::rest) pos) tB'):WW X (.BoolOp .Or (a::b::rest) pos) (tOr tA tB'):=⟨HA ha.h hb.h⟩
end
section
variable{X:Cx}
variable{a:QC}{pos:Pos}
variable{tA:TT}
def AM(ha:WT X a tA):WT X (.UnaryOp .Not a pos) (IV tA):=⟨En ha.h⟩
end
section
variable{X:Cx}
variable{a:QC}{pos:Pos}
def AX{op}{t:TE}(h:WE X a t):WE X (.BoolOp op [a] pos) t:=⟨EC h.h⟩
end
section
variable{X:Cx}
variable{a b:QC}{ta tb:TE}{pos:Pos}
variable{rest:List QC}
theorem A2(ha:WE X a ta)(hb:WE X (.BoolOp .And (b::rest) pos) tb):WE X (.BoolOp .And (a::b::rest) pos) (D7 ta tb):=⟨EH ha.h hb.h⟩
theorem DM(ha:WE X a ta)(hb:WE X (.BoolOp .Or (b::rest) pos) tb):WE X (.BoolOp .Or (a::b::rest) pos) (IU ta tb):=⟨HE ha.h hb.h⟩
end
section
variable{X:Cx}
def xk :WSs X [] DZ:=⟨BC ⟩
end
section
variable{X:Cx}{st:Z0}{rest:List Z0}{t u:TS}
def tX(h1:WS X st t)(h2:WSs X rest u):WSs X (st::rest) (IS t u):=⟨xW h1.h h2.h⟩
end
section
variable{X:Cx}{st:Z0}{t:TS}
def xj(h1:WS X st t):WSs X [st] t:=⟨BB h1.h⟩
end
section
variable{X:Cx}{e:QC}{te:TE}{pos:Pos}
def xl(he:WE X e te)(hs:ZP e none pos.line X.env=pure false:=by rfl):WS X (.Expr e pos) (D0 te):=⟨BD he.h hs⟩
def AO(he:WE X e te):WS X (.Return (some e) pos) (IT te):=⟨Er he.h⟩
end
section
variable{X:Cx}{t u:TS}{pos:Pos}
theorem DL{c:QC}{a b:List Z0}{tc:TT}(hc:WT X c tc)(ha:WSs X a t)(hb:WSs X b u):WS X (.If c a b pos) (IX tc t u):=⟨HB hc.h ha.h hb.h⟩
end
section
variable{X:Cx}{st:Z0}
def tY :WS X st zr:=⟨xX ⟩
end
section
variable{X:Cx}{pos:Pos}
theorem aU{i:Nat}{x:Str}(hN:X.N.Nodup)(hi:X.N[i]?=some x)(hx:Loc X.env.scope x)(hf:X.fn x=true\/X.env.scope.names.lookup x=some .local:=by first|exact .inl rfl|exact .inr rfl|assumption):WG X (.Name x pos) (sW i):=⟨BJ hN hi hx hf⟩
end
section
variable{X:Cx}
def xq :WGs X [] Jq:=⟨BI ⟩
theorem t9{e:QC}{es:List QC}{t:TG}{u:TGs}(h1:WG X e t)(h2:WGs X es u)(hs:(assignEach (e::es) X.env).map (·.2)=assign e X.env::(assignEach es X.env).map (·.2):=by rfl):WGs X (e::es) (Fu t u):=⟨xZ h1.h h2.h hs⟩
end
section
variable{X:Cx}{pos:Pos}
theorem AS{es:List QC}{k:Nat}{t:TGs}{n:Nat}(hc:X.calm=true)(h:WGs X es t)(hn:(assignEach es X.env).length=n:=by rfl)(hst:(assignEach es X.env).findIdx? (·.1)=none:=by rfl):WG X (.Tuple es k pos) (Jo X.K n t):=⟨Ex hc h.h hn hst⟩
theorem AU {o i : QC} {to ti : TE} {t : Gm} (ho : WE X o to) (hi : WE X i ti) (hs : IM X t) (ha : ∀ v, assign (.Subscript o i pos) X.env v = (do
   let ov <-holding [v] (eval o X.env)
   let iv <-holding [v,ov] (eval i X.env)
   standAt pos
   holding [v,ov,iv] (setItem ov iv v)
   release [v,ov,iv] []):=by intro _;rfl):WG X (.Subscript o i pos) (Jp to ti t):=⟨Ey ho.h hi.h hs ha⟩
theorem t7{tg e:QC}{te:TE}{g:TG}(he:WE X e te)(hg:WG X tg g)(hs:swapsWithSole [tg] e pos.line X.env=pure false:=by rfl)(hw:swappedStores [tg] e X.env=pure none:=by rfl)(h1:(assignEach [tg] X.env).map (·.2)=[assign tg X.env]:=by rfl):WS X (.Assign [tg] e pos) (D6 te g):=⟨Eu he.h hg.h hs hw h1⟩
theorem AN{i:Nat}{x:Str}{e:QC}{te:TE}{pos':Pos}(hN:X.N.Nodup)(hi:X.N[i]?=some x)(hx:Loc X.env.scope x)(he:WE X e te)(hs:ZP e (some (.Name x pos')) pos.line X.env=pure false:=by rfl)(hf:X.fn x=true\/X.env.scope.names.lookup x=some .local:=by first|exact .inl rfl|exact .inr rfl|assumption):WS X (.Assign [.Name x pos'] e pos) (D6 te (sW i)):=⟨Ep hN hi hx he.h hs hf⟩
end
section
variable{X:Cx}{tg:QC}
def xp{l:QC}{tl:TE}(hl:WE X l tl):WI X tg l (Fs X.K tl):=⟨BH hl.h⟩
def AR{l:QC}{tl:TE}(hl:WE X l tl):WI X tg l (Jn X.K tl):=⟨Ew hl.h⟩
theorem sC{a:QC}{ta:TA}{p pos:Pos}(hg:Gl X "range")(hm:X.mg "range"=none)(ha:WA X [a] ta)(hs:QJ [a] X.env=[(false,eval a X.env)]:=by rfl):WI X tg (.Call (.Name "range" p) [a] [] pos) (Fq ta):=⟨uV hg hm ha.h hs⟩
theorem tZ{iter:QC}{body:List Z0}{wi:TI}{g:TG}{tb:TS}{pos:Pos}(hp:PassesOwn (Qj X.prog X.w) X.A X.env X.xe)(hc:X.calm=true)(hi:WI X tg iter wi)(hg:WG X tg g)(hb:WSs X body tb)(hs:∀x,foldedSetIterable iter X.env x=pure x:=by intro _;rfl):WS X (.For tg iter body [] pos) (FZ wi g tb):=⟨Es hp hc hi.h hg.h hb.h hs⟩
end
section
variable{X:Cx}{a b:QC}{ta tb:TE}{pos:Pos}
theorem DN{op:Operator}{r:R2}(ho:OpR X (binaryOp op) r)(ha:WE X a ta)(hb:WE X b tb):WE X (.BinOp a op b pos) (tOp r ta tb):=⟨HF ho ha.h hb.h⟩
theorem xy{op:CmpOp}{r:R2}(ho:OpR X (compareOp op) r)(ha:WE X a ta)(hb:WE X b tb)(hm:behindInMarks op b=false):WE X (.Compare a [op] [b] pos) (tOp r ta tb):=⟨BN ho ha.h hb.h hm⟩
theorem mr{op:CmpOp}{r:R2}(ho:OpR X (compareOp op) r)(ha:WE X a ta)(hb:WE X b tb)(hm:behindInMarks op b=false):WT X (.Compare a [op] [b] pos) (DW (tOp r ta tb)):=⟨BA ho ha.h hb.h hm⟩
end
section
variable{X:Cx}{e:QC}{f:Str}{pos:Pos}{ta:TE}
theorem A1(he:WE X e ta)(hb:attributeBase e f X.env (eval e X.env)=eval e X.env):WE X (.Attribute e f pos) (IY X.K ta f):=⟨EG he.h hb⟩
end
section
variable{X:Cx}{o value:QC}{f:Str}{pos pos':Pos}{ta tv:TE}
theorem AQ(ha:WE X o ta)(hv:WE X value tv)(hs:ZP value (some (.Attribute o f pos')) pos.line X.env=pure false):WS X (.Assign [.Attribute o f pos'] value pos) (I0 X.K ta tv f):=⟨Et ha.h hv.h hs⟩
end
section
variable{X:Cx}
def ug :WA X [] DY:=⟨EJ ⟩
end
section
variable{X:Cx}{e:QC}{es:List QC}{te:TE}{t:TA}
theorem qG(ha:WE X e te)(hr:WA X es t)(hs:QJ (e::es) X.env=(false,eval e X.env)::QJ es X.env:=by rfl):WA X (e::es) (D5 te t):=⟨BP ha.h hr.h hs⟩
end
section
variable{X:Cx}{es:List QC}{t:TA}{pos:Pos}
def AV{x1}(h:WA X es t):WE X (.Tuple es x1 pos) (IQ t):=⟨EA h.h⟩
def AZ(h:WA X es t):WE X (.List es pos) (IW t):=⟨EE h.h⟩
end
section
variable{X:Cx}{CX:CXT}{k:Nat}{f C:Addr}{fd:ZN}{ps:List Str}{sp:Sp}{dvs:List V}{ds:List Q2}{E:XK}{m:Str}{pos apos:Pos}{e o:QC}{es:List QC}{ta:TE}{t:TA}
theorem xt {pl : Sem Bool} (he : WE X o ta) (c : Cls X.K C) (hm : CM X.K C m f) (F : jx X.prog X.w X.K X.mg X.base CX k f fd ps sp) (hr : dG k X.A) (hb : fN X.K fd ps ds) (hd : bD dvs ds) (hx : gF CX X E) (ha : WA X (e :: es) t) (hst : QJ (e :: es) X.env = (false, eval e X.env) :: QJ es X.env := by rfl) (hpl : (ZQ pos (QJ es X.env)).any (·.1) = false := by rfl) (ht : eval (.Call (.Attribute o m apos) (e :: es) [] pos) X.env = (do
   let ov <-eval o X.env
   standAt apos.atName
   let (f,first) <-holding [ov] (getMethod ov m pl)
   callWith pos f first (ZQ pos (QJ (e::es) X.env)) (backToKw pos (keywordEach [] X.env))):=by rfl):WE X (.Call (.Attribute o m apos) (e::es) [] pos) (ux C m sp dvs E ta t):=⟨BK he.h c hm F hr hb hd hx ha.h hst hpl ht⟩
end
section
variable{X:Cx}{CX:CXT}{k:Nat}{f C:Addr}{fd:ZN}{ps:List Str}{sp:Sp}{dvs:List V}{ds:List Q2}{E:XK}{m:Str}{pos apos:Pos}{o:QC}{ta:TE}
theorem ub {pl : Sem Bool} (he : WE X o ta) (c : Cls X.K C) (hm : CM X.K C m f) (F : jx X.prog X.w X.K X.mg X.base CX k f fd ps sp) (hr : dG k X.A) (hb : fN X.K fd ps ds) (hd : bD dvs ds) (hx : gF CX X E) (ht : eval (.Call (.Attribute o m apos) [] [] pos) X.env = (do
   let ov <-eval o X.env
   standAt apos.atName
   let (f,first) <-holding [ov] (getMethod ov m pl)
   callWith pos f first (ZQ pos (QJ [] X.env)) (backToKw pos (keywordEach [] X.env))):=by rfl):WE X (.Call (.Attribute o m apos) [] [] pos) (ux C m sp dvs E ta DY):=⟨x6 he.h c hm F hr hb hd hx ht⟩
end
section
variable{X:Cx}{CX:CXT}{k:Nat}{f C:Addr}{fd:ZN}{ps:List Str}{sp:Sp}{dvs:List V}{ds:List Q2}{E:XK}{x:Str}{p pos:Pos}{e:QC}{es:List QC}{t:TA}
theorem xv(M:Mk X.K C f)(F:jx X.prog X.w X.K X.mg X.base CX k f fd ps sp)(hr:dG (k+1) X.A)(hg:Gl X x)(hm:X.mg x=some (.ref C))(hb:fN X.K fd ps ds)(hd:bD dvs ds)(hx:gF CX X E)(ha:WA X (e::es) t)(hdb:(x == ("__debug__":Str))=false:=by decide)(he:QJ (e::es) X.env=(false,eval e X.env)::QJ es X.env:=by rfl)(hpl:(ZQ pos (QJ es X.env)).any (·.1)=false:=by rfl):WE X (.Call (.Name x p) (e::es) [] pos) (Bb C sp dvs E t):=⟨BL M F hr hg hm hb hd hx ha.h hdb he hpl⟩
end
section
variable{X:Cx}{x:Str}{p pos:Pos}{e:QC}{es:List QC}{t:TA}{id:String}{r:List V->Hp->VK->Prop}
theorem uf(hc:fq X (.builtin id) r)(hg:Gl X x)(hm:X.mg x=none)(hv:Z7 x=some (.builtin id))(ha:WA X (e::es) t)(hn:x≠"__name__":=by decide)(hdb:(x == ("__debug__":Str))=false:=by decide)(he:QJ (e::es) X.env=(false,eval e X.env)::QJ es X.env:=by rfl)(hpl:(ZQ pos (QJ es X.env)).any (·.1)=false:=by rfl):WE X (.Call (.Name x p) (e::es) [] pos) (tCB r t):=⟨yd hc hg hm hv ha.h hn hdb he hpl⟩
end
section
variable{X:Cx}{x:Str}{p pos:Pos}{e:QC}{es:List QC}{t:TA}{T:String}{r:List V->Hp->VK->Prop}
theorem sE(hc:fq X (.type T) r)(hg:Gl X x)(hm:X.mg x=none)(hv:Z7 x=some (.type T))(ha:WA X (e::es) t)(hn:x≠"__name__":=by decide)(hdb:(x == ("__debug__":Str))=false:=by decide)(he:QJ (e::es) X.env=(false,eval e X.env)::QJ es X.env:=by rfl)(hpl:(ZQ pos (QJ es X.env)).any (·.1)=false:=by rfl):WE X (.Call (.Name x p) (e::es) [] pos) (tCB r t):=⟨uX hc hg hm hv ha.h hn hdb he hpl⟩
end
section
variable{X:Cx}
def xo :WO X none uw:=⟨BG ⟩
end
section
variable{X:Cx}{e:QC}{te:TE}
def xn(h:WE X e te):WO X (some e) (DX te):=⟨BF h.h⟩
end
section
variable{X:Cx}{e:QC}{te:TE}{lo hi:Option QC}{tl th:TO}{pos p2:Pos}
theorem nE{r:V->Option Int->Option Int->Hp->VK->Prop}(hr:SlR X r)(he:WE X e te)(hl:WO X lo tl)(hu:WO X hi th):WE X (.Subscript e (.Slice lo hi none p2) pos) (tSl r te tl th):=⟨x5 hr he.h hl.h hu.h⟩
end
section
variable{X:Cx}{a b:QC}{ta tb:TE}{pos:Pos}
theorem DO{r:R2}(hr:IxR X r)(ha:WE X a ta)(hb:WE X b tb)(hs:qz b):WE X (.Subscript a b pos) (tOp r ta tb):=⟨HG hr ha.h hb.h hs⟩
end
section
variable{X:Cx}
variable{o e:QC}{es:List QC}{to:TE}{t:TA}{name:Str}{apos cpos:Pos}{T id:String}{r:V->List V->Hp->VK->Prop}
theorem zm (pa : PlainAttrs T) (slot : Slot T name id) (hty : typeOf (.builtin id) = pure (.type "method_descriptor")) (hm : MtR X id r) (ho : WE X o to) (ha : WA X (e :: es) t) (hbase : attributeBase o name X.env (eval o X.env) = eval o X.env := by rfl) (hfew : ((ZQ cpos (QJ (e :: es) X.env)).all (fun x => !x.1) && (backToKw cpos (keywordEach [] X.env)).all (fun x => x.1.isSome)
   && decide ((e::es).length+([]:List Keyword).length+(if ([]:List Keyword).isEmpty then 0 else 1)<30))=true:=by rfl) (hline:(apos.endLine == cpos.line)=true:=by rfl) (hs:QJ (e::es) X.env=(false,eval e X.env)::QJ es X.env:=by rfl) (hplain:(ZQ cpos (QJ es X.env)).any (·.1)=false:=by rfl):WE X (.Call (.Attribute o name apos) (e::es) [] cpos) (tBM X.K T r to t):=⟨HH pa slot hty hm ho.h ha.h hbase hfew hline hs hplain⟩
end
section
variable{X:Cx}{o i:QC}{pos:Pos}{td ty:TE}
theorem xw(hu:X.A.units+1<cLine)(ho:WE X o td)(hi:WE X i ty)(hs:FN i):WE X (.Subscript o i pos) (D4 td ty):=⟨BM hu ho.h hi.h hs⟩
end
section
variable{X:Cx}{o i:QC}{td ty:TE}
def A3(hu:X.A.units+1<cLine)(hi:WE X i ty)(ho:WE X o td):WC X .In i o (Hq ty td):=⟨EI hu hi.h ho.h⟩
def sF(hu:X.A.units+1<cLine)(hi:WE X i ty)(ho:WE X o td):WC X .NotIn i o (pG ty td):=⟨uY hu hi.h ho.h⟩
end
section
variable{X:Cx}{o i value:QC}{pos pos':Pos}{td ty tv:TE}
theorem xm(hu:X.A.units+1<cLine)(ho:WE X o td)(hi:WE X i ty)(hv:WE X value tv)(hs:ZP value (some (.Subscript o i pos')) pos.line X.env=pure false):WS X (.Assign [.Subscript o i pos'] value pos) (Eb td ty tv):=⟨BE hu ho.h hi.h hv.h hs⟩
end
section
variable{X:Cx}{pos:Pos}
def ud :WE X (.Dict [] [] pos) zw:=⟨yb ⟩
end
section
variable{X:Cx}{o e f:QC}{apos cpos:Pos}{td ty tx:TE}
theorem ue(hu:X.A.units+1<cLine)(ho:WE X o td)(he:WE X e ty)(hf:WE X f tx)(m:M2 X o "get" apos e f cpos):WE X (.Call (.Attribute o "get" apos) [e,f] [] cpos) (zy td ty tx):=⟨yc hu ho.h he.h hf.h m⟩
end
section
variable{X:Cx}{o e:QC}{apos cpos:Pos}{td ty:TE}
theorem uc(ho:WE X o td)(he:WE X e ty)(m:M1 X o "pop" apos e cpos):WE X (.Call (.Attribute o "pop" apos) [e] [] cpos) (zu td ty):=⟨x8 ho.h he.h m⟩
end
section
variable{X:Cx}
theorem wpv(i:Nat){x:Str}{pos:Pos}(hN:X.N[i]?=some x:=by rfl)(hv:Vis X.env.scope x:=by first|exact Or.inl rfl|exact Or.inr (Or.inl rfl)|exact Or.inr (Or.inr rfl))(hd:(x == ("__debug__":Str))=false:=by decide)(hcd:(x == ("__classdict__":Str))=false:=by decide):WE X (.Name x pos) (FY i):=⟨pv i hN hv hd hcd⟩
end
def WW.pt{X:Cx}{e:QC}{t:TT}(h:WW X e t):WT X e t:=⟨h.h.pt⟩
section
variable{X:Cx}
def tD(i j:Int):Prop:=0<j/\j.natAbs.log2<9000
theorem rk:OpR X (binaryOp .FloorDiv) (rI tD fun i j=>.int (i / j)):=opI fun i j _ _ _ _ _ hc q=>by
 refine PyProof.Rows.floordiv_int (by have:=hc.1;omega) ?_ (.inl (PyProof.noPylong_of_log2 hc.2));rw[Int.fdiv_eq_ediv_of_nonneg i (Int.le_of_lt hc.1)];exact q
end
def ft{H:Hp}{p:Addr}(h:H p=none)(o:HO):Aj H (upd H p o):=fun b u q=>by rw[aB (cP q h)];exact q
def Def(K:Q1)(mg:Str->Option Q2)(x:Str)(st:Z0)(ps:List Str):Prop:=
 ∃f fd,Fun K x x st f fd/\fN K fd ps []/\mg x=some (.ref f)
def Has(P:Qv)(w:Qe)(K:Q1)(mg:Str->Option Q2)(base:Heap)(x:Str)(k:Nat)(ps:List Str)(sp:Sp):Prop:=
 ∃f fd,jx P w K mg base CX0 k f fd ps sp/\fN K fd ps []/\PySem.W.keepIn K (.ref f)=true/\mg x=some (.ref f)
section
variable{P:Qv}{w:Qe}{K:Q1}{mg:Str->Option Q2}{base:Heap}{x:Str}{st:Z0}{ps N:List Str}{k j:Nat}{sp:Sp}
theorem Has.mono(h:Has P w K mg base x j ps sp)(l:j<=k):Has P w K mg base x k ps sp:=by
 obtain⟨f,fd,a,b,c,d⟩:=h;exact⟨f,fd,a.mono l,b,c,d⟩
theorem Def.has(d:Def K mg x st ps)(S:aM N ps (aq st))(len:∀vs H Q E,sp vs H Q E->vs.length=ps.length)
  (hbody:∀(f:Addr) (cdv:Q2) (A:Qa) (outer:List Env) (s:Q3) (H:Hp) (vs:List V) (Q:VK) (E:XK),dG k (A.deeper (envOfC x (aq st) s.heap.objs.size f cdv))->sp vs H Q E->
   ∃t,WSs (oX CX0 P w K mg base N x (aq st) f cdv A outer s H E).nox (cI st) t/\t { nx:=fun _ H'=>Q .non H',rt:=Q } (iL N vs) H):Has P w K mg base x (k+1) ps sp:=by
 obtain⟨f,fd,F,b,m⟩:=d;exact⟨f,fd,F.ok S len (fun cdv A outer s H vs Q E hr h=>let ⟨t,a,b⟩:=hbody f cdv A outer s H vs Q E hr h;⟨t,a.h,b⟩),b,F.kp,m⟩
end
theorem DP{X:Cx}{k:Nat}{ps:List Str}{sp:Sp}{x:Str}{p pos:Pos}{e:QC}{es:List QC}{t:TA}(F:Has X.prog X.w X.K X.mg X.base x k ps sp)(hr:dG k X.A)(hg:Gl X x)
  (ha:WA X (e::es) t) (hdb:(x == ("__debug__":Str))=false:=by decide) (he:QJ (e::es) X.env=(false,eval e X.env)::QJ es X.env:=by rfl) (hpl:(ZQ pos (QJ es X.env)).any (·.1)=false:=by rfl) :
  WE X (.Call (.Name x p) (e::es) [] pos) (Be sp [] E0 t):=by
 obtain⟨f,fd,a,b,c,d⟩:=F;exact⟨BO a hr hg d c b .nil uZ ha.h hdb he hpl⟩
structure Blt(mg:Str->Option Q2):Prop where
 len:mg "len"=none
 isinstance:mg "isinstance"=none
 int:mg "int"=none
 bool:mg "bool"=none
 str:mg "str"=none
 tuple:mg "tuple"=none
 list:mg "list"=none
 range:mg "range"=none
 min:mg "min"=none
 sum:mg "sum"=none
 all:mg "all"=none
 zip:mg "zip"=none
 sorted:mg "sorted"=none
 dict:mg "dict"=none
 enumerate:mg "enumerate"=none
 any:mg "any"=none
 max:mg "max"=none
 set:mg "set"=none
def nN{n:Nat}(h:n<=1000):n<=QD:=Nat.le_of_lt (uA h)
theorem sR{n:Nat}(h:n<2^60):n.log2<1920:=by
 by_cases e:n=0
 ·subst e;decide
 ·have:=(Nat.log2_lt e).mpr h;omega
def nq:Z7 "int"=some (.type "int"):=rfl
def jt:Z7 "tuple"=some (.type "tuple"):=rfl
def i8:Z7 "list"=some (.type "list"):=rfl
def yV:Z7 "min"=some (.builtin "min"):=rfl
def yW:Z7 "max"=some (.builtin "max"):=rfl
def sg:Z7 "any"=some (.builtin "any"):=rfl
def fK:Z7 "sorted"=some (.builtin "sorted"):=rfl
theorem Fun.okW{P:Qv}{w:Qe}{K:Q1}{mg:Str->Option Q2}{base:Heap}{x qual:Str}{st:Z0}{f:Addr}{fd:ZN}{N ps:List Str}{k:Nat}{sp:Sp}(F:Fun K x qual st f fd)(S:aM N ps (aq st))(len:∀vs H Q E,sp vs H Q E->vs.length=ps.length)
  (hbody:∀(cdv:Q2) (A:Qa) (outer:List Env) (s:Q3) (H:Hp) (vs:List V) (Q:VK) (E:XK),dG k (A.deeper (envOfC qual (aq st) s.heap.objs.size f cdv))->sp vs H Q E->
   ∃t,WSs (oX CX0 P w K mg base N qual (aq st) f cdv A outer s H E).nox (cI st) t/\t { nx:=fun _ H'=>Q .non H',rt:=Q } (iL N vs) H):jx P w K mg base CX0 (k+1) f fd ps sp:=
 F.ok S len fun cdv A outer s H vs Q E hr h=>let ⟨t,a,b⟩:=hbody cdv A outer s H vs Q E hr h;⟨t,a.h,b⟩
def sx(env:Env):List (Str×Addr)->Prop
 |[]=>True
 |p::r=>env.cells.lookup p.1=some p.2/\sx env r
theorem sx.look{env:Env}:∀{cl:List (Str×Addr)} {y:Str} {c:Addr},sx env cl->cl.lookup y=some c->env.cells.lookup y=some c
 |[],_,_,_,h=>by simp at h
 |(n,d)::r,y,c,a,h=>by
  obtain⟨a1,a2⟩:=a;rw[ZF]at h;by_cases e:(y == n)=true
  ·rw[e]at h;have e':y=n:=by simpa using e
   subst e';cases h;exact a1
  ·have e':(y == n)=false:=by simpa using e
   rw[e']at h;exact sx.look a2 h
abbrev cxC(X:Cx)(Nc:List Str)(scope:Zq)(cl:List (Str×Addr))(s3:Q3)(H3:Hp)(fp:List Addr):Cx where
 prog:=X.prog
 w:=X.w
 K:=X.K
 mg:=X.mg
 base:=X.base
 A:=X.A
 N:=Nc
 s₀:=s3
 H₀:=H3
 env:=compEnvC scope cl s3.heap.objs.size X.env
 outer:=X.stack
 stack:=X.stack
 ex:=fp
 fn:=fun _=>false
 calm:=X.calm
 pn:=[]
 xe:=fun _ _=>False
def stC(n:Nat)(caps:List Nat)(σ:L2.St):L2.St:=QU n none++caps.map fun i=>(σ[i]?).getD none
def Bc(wi:TI)(g:TG)(te:TE)(n:Nat)(caps:List Nat):TE:=fun σ H Q=>wi σ H fun J H1=>∀l,H1 l=none->∃W:Nat->Nat->L2.St->Hp->Prop,(∃m,W 0 m (stC n caps σ) (upd H1 l (.lst [])))/\
 ∀i m σ' H2,W i m σ' H2->(J.stop i H2/\Q (.ref l) H2)\/(J.go i H2/\∃N:L2.St->Hp->Prop,(∀σ'' H',N σ'' H'->∃m',m'<m/\W (i+1) m' σ'' H')/\
  ∀x H3,J.yld i H2 x H3->g x σ' H3 fun σ2 H4=>te σ2 H4 fun v H5=>∃ys,H5 l=some (.lst ys)/\ys.length<QD/\N σ2 (upd H5 l (.lst (ys++[v]))))
theorem oy{prog:Qv}{w:Qe}{A:Qa}{R:Result->Q3->Prop}{s:Q3}{elt target iter:QC}{scope:Zq}{pos:Pos}{it acc:Q2}{env:Env}(I:Nat->Q3->Prop)
  (turn:∀n s,I n s->wpAny (Qj prog w) A (pyNext it) (fun r s₁=>match r with
   |none=>R (.ok .next) s₁
   | some v=>wpAny (Qj prog w) A (letOwnedTupleGo target it v) (fun _ s₁'=>wpAny (Qj prog w) A (assign target env v) (fun _ s₂=>wpAny (Qj prog w) A (eval elt env) (fun x s₃=>
     wpAny (Qj prog w) A (call (.builtin "list.append") [acc,x]) (fun _ s₄=>∃m,m<n/\I m s₄) (fun _ _=>False) s₃)
     (fun _ _=>False) s₂) (fun _ _=>False) s₁') (fun _ _=>False) s₁) (fun _ _=>False) s)
  (n:Nat) (h:I n s) :
  codeAny (Qj prog w) A (.compLoop (.ListComp elt [⟨target,iter,[],0⟩] scope pos) 0 it acc env) R s:=by
 refine codeAny_loop rfl I (fun n s hI=>?_) n h;show wpAny _ _ ((compTurn (.ListComp elt [⟨target,iter,[],0⟩] scope pos) 0 it acc env).onRaise (fun x=>do noteFrame x env;theTreesLotGoes x)) _ _ s;refine wpAny_noted ?_;rw[compTurn_list1];refine Q5 (wpAny_standAt (Q5 (ZX (turn n s hI) (fun r s₁ h₁=>?_) fun _ _ h'=>h'.elim)));cases r with
 |none=>exact QL h₁
 |some v=>
  refine Q5 (ZX h₁ (fun _ s₁' h₁'=>?_) fun _ _ h'=>h'.elim);exact Q5 (ZX h₁' (fun _ s₂ h₂=>Q5 (Q5 (ZX h₂ (fun x s₃ h₃=>Q5 (ZX h₃
   (fun _ s₄ h₄=>QL (QL ⟨rfl,h₄⟩)) fun _ _ h'=>h'.elim)) fun _ _ h'=>h'.elim))) fun _ _ h'=>h'.elim)
section
variable{X:Cx}{pins:List (Addr×Obj)}{σ:L2.St}{H:Hp}{s:Q3}{Nc capN:List Str}{scope:Zq}{cl:List (Str×Addr)}{fp:List Addr}{n:Nat}{caps:List Nat}
def Cap(X:Cx)(scope:Zq)(cl:List (Str×Addr))(i:Nat)(y:Str):Prop:=X.N[i]?=some y/\X.env.scope.names.lookup y=some .cell/\(relabel scope X.env).names.lookup y=some .cell/\∃c,cl.lookup y=some c
theorem Inv.comp{h1:Heap}{t':Nat}(I:Inv X pins σ H s)(hc:X.calm=true)(f2:∀b∈fp,tH X pins H b)(fo:∀b∈fp,b<s.heap.objs.size)(hkind:scope.kind=.function)(hcl:sx X.env cl)
  (hhas:((relabel scope X.env).names.all fun p=>!(p.2 == .cell||p.2 == .free)||(cl.lookup p.1).isSome)=true)
  (hcap:Paired (Cap X scope cl) caps capN) (tn:List Str) (hN:Nc=tn++capN) (hn:tn.length=n)
  (hns:h1.Ns s.heap.objs.size (fun _=>none)) (hk:∀b o,s.heap.get? b=some o->h1.get? b=some o) :
  Inv (cxC X Nc scope cl s H fp) [] (stC n caps σ) H { s with heap:=h1,toks:=t' }:=by
 have lkc:∀y c,cl.lookup y=some c->X.env.cells.lookup y=some c:=fun y c e=>hcl.look e;refine⟨⟨I.ok.mod,?_,I.ok.glob,I.ok.blt,Q8 _,fun x y c a b=>I.ok.inj x y c (lkc _ _ a) (lkc _ _ b),fun x hx=>?_,fun x c z=>(nomatch z),I.ok.hd,I.ok.frames,.inl rfl,fun b hb=>⟨Qy (fo b hb),fun x c e=>(f2 b hb).2.2.2.2.1 x c (lkc _ _ e)⟩,I.bs,Qb I.ok.bsz I.sz,
  fun b o e hb=>?_,fun b hb z=>?_,I.stack,I.stkFree⟩,rfl,I.bare,Un.kept hk,⟨_,hns,fun i y v h1' h2 h3=>?_⟩,fun y c e=>?_,I.hok.fresh (Q8 _),fun y c e=>I.freeC y c (lkc _ _ e),fun p hp=>(by simp at hp),I.hok.kept hk,?_⟩
 ·exact hkind
 ·have hx':(relabel scope X.env).names.lookup x=some .cell\/(relabel scope X.env).names.lookup x=some .free:=hx;have mem:∀{k},(relabel scope X.env).names.lookup x=some k->(x,k)∈(relabel scope X.env).names:=fun{k} e=>by
   generalize (relabel scope X.env).names=L at e;induction L with
   |nil=>simp at e
   |cons p r ih=>
    obtain⟨a,b⟩:=p;rw[ZF]at e;by_cases q:(x == a)=true
    ·rw[q]at e;cases e;have:x=a:=by simpa using q
     subst this;exact QZ
    ·rw[show(x == a)=false by simpa using q]at e;exact QQ _ (ih e)
  have fin:∀{k},(k=NameKind.cell\/k=.free)->(relabel scope X.env).names.lookup x=some k->∃c,cl.lookup x=some c:=fun{k} hk' e=>by
   have:=List.all_eq_true.mp hhas _ (mem e);dsimp only at this;have q:(cl.lookup x).isSome=true:=by
    rcases hk' with z|z<;>subst z<;>simpa using this
   exact Qm.mp q
  rcases hx' with e|e
  ·exact fin (.inl rfl) e
  ·exact fin (.inr rfl) e
 ·rcases(f2 b hb).2.2.2.1 with z|z
  ·exact I.ok.noex b o e z
  ·exact absurd (Qq (QK e) I.ok.bsz) (Nat.not_lt.mpr z)
 ·rcases QM.mp (I.stkSub b z)with q|q
  ·exact(f2 b hb).2.1 q
  ·exact(f2 b hb).2.2.1 q
 ·obtain⟨m,hm,hl⟩:=I.loc;have h2':(stC n caps σ)[i]?=some (some v):=h2;have h1'':Nc[i]?=some y:=h1';unfold stC at h2';by_cases hi:i<n
  ·rw[Qt (by simpa using hi),ZG,if_pos hi]at h2';cases h2'
  ·rw[Qn (by simp;omega),List.length_replicate,Qu]at h2';rw[hN,Qn (by omega),hn]at h1'';have key:∀(j:Nat) {caps:List Nat} {capN:List Str},Paired (Cap X scope cl) caps capN->capN[j]?=some y->(Option.map (fun i=>(σ[i]?).getD none) caps[j]?)=some (some v)->∃k,Cap X scope cl k y/\σ[k]?=some (some v):=by
    intro j;induction j with
    |zero=>
     intro caps capN P e1 e2;cases P with
     |nil=>simp at e1
     |@cons a b l r p t=>
      simp at e1 e2;subst e1;cases q:σ[a]? with
      |none=>rw[q]at e2;simp at e2
      |some w'=>rw[q]at e2;simp at e2;subst e2;exact⟨a,p,q⟩
    |succ j ih=>
     intro caps capN P e1 e2;cases P with
     |nil=>simp at e1
     |cons p t=>exact ih t (by simpa using e1) (by simpa using e2)
   obtain⟨k,⟨c1,c2,c3,c,c4⟩,e⟩:=key _ hcap h1'' h2';obtain⟨u,r,lk⟩:=hl k y v c1 e (.inr (.inl c2));refine⟨u,r,.inr ⟨.inl c3,c,c4,?_⟩⟩;rcases lk with⟨z,_⟩|⟨_,c',e',o,ho,hd⟩
   ·have z':X.env.scope.names.lookup y=some .local:=z;rw[c2]at z';cases z'
   ·rw[lkc _ _ c4]at e';cases e';exact⟨o,hk _ _ ho,hd⟩
 ·obtain⟨v,o,ho,hd⟩:=I.cell y c (lkc _ _ e);exact⟨v,o,hk _ _ ho,hd⟩
 ·show(stC n caps σ).length=Nc.length;have pl:caps.length=capN.length:=Paired.length hcap;unfold stC;rw[Qr,List.length_replicate,QV,hN,Qr,hn,pl]
end
theorem yR{X:Cx}{Nc capN tn:List Str}{scope:Zq}{cl:List (Str×Addr)}{n:Nat}{caps:List Nat}{tg iter elt:QC}{pos:Pos}{wi:TI}{g:TG}{te:TE}
  (hc:X.calm=true) (hi:WI X tg iter wi) (hg:∀s3 H3 fp,WG (cxC X Nc scope cl s3 H3 fp) tg g) (he:∀s3 H3 fp,WE (cxC X Nc scope cl s3 H3 fp) elt te)
  (hclos:closureFor scope X.env=pure cl) (hkind:scope.kind=.function) (hnl:∀x∈scope.names,x.2=.local->scope.names.lookup x.1=some .local) (hcell:∀x∈scope.names,x.2≠.cell)
  (hcl:sx X.env cl) (hhas:((relabel scope X.env).names.all fun p=>!(p.2 == .cell||p.2 == .free)||(cl.lookup p.1).isSome)=true)
  (hcap:Paired (Cap X scope cl) caps capN) (hN:Nc=tn++capN) (hn:tn.length=n)
  {use:Option (Q2->Sem Unit)} {pins:List (Addr×Obj)} {σ:L2.St} {H:Hp} {s:Q3} {Q:VK} {Qf:Q2->Q3->Prop} (I:Inv X pins σ H s) (h:Bc wi g te n caps σ H Q)
  (hend:∀(D C:Addr) (s6:Q3) (H5:Hp) (m:Str->Option Q2),Inv X pins σ H5 s6->s6.heap.Ns C m->H5 C=none->C≠X.env.locals->X.s₀.heap.objs.size<=C->(∀x c,X.env.cells.lookup x=some c->c≠C)->(∀p∈X.pn++pins,p.1≠C)->Q (.ref D) H5->compPost (Qj X.prog X.w) X.A X.xe use Qf (.ref D) C (.ok .next) s6)
  (hs:∀x,foldedSetIterable iter X.env x=pure x) :
  wpAny (Qj X.prog X.w) X.A (comprehension (.ListComp elt [⟨tg,iter,[],0⟩] scope pos) scope X.env (firstIterPos [⟨tg,iter,[],0⟩] pos) (newList []) (firstAsync [⟨tg,iter,[],0⟩]) (firstIter [⟨tg,iter,[],0⟩] X.env) use) Qf X.xe s:=by
 refine wpAny_comprehension_free (use:=use) (g:=⟨tg,iter,[],0⟩) (gs:=[]) rfl hs hclos hkind hnl (thn (hi.h pins s σ H _ I h) fun v s1 h1=>thn h1 fun itv s2 h2=>?_);obtain⟨it,fp,tnn,J,H2,rfl,I2,T,st2,f2,hW⟩:=h2;have hD:=I2.fresh;obtain⟨W,⟨m0,w0⟩,turn⟩:=hW _ hD;refine wpAny_newObj_type (wpAny_newFunctionEnv hcell (by intro y hy;simp at hy) (fun h₁ hns₁ hsb₁=>?_) hkind);dsimp only at hns₁ hsb₁ ⊢;have I3:Inv X pins σ (upd H2 s2.heap.objs.size (.lst [])) { s2 with heap:=s2.heap.push { cls:=.type "list",dict:=none,data:=.seq ([]:List Q2).toArray },toks:=s2.toks }:=I2.lnew (its:=[]) .nil (Z6 _);generalize hs3:({ s2 with heap:=s2.heap.push { cls:=.type "list",dict:=none,data:=.seq ([]:List Q2).toArray },toks:=s2.toks }:Q3)=s3 at I3;have es3:s3.heap=s2.heap.push { cls:=.type "list",dict:=none,data:=.seq ([]:List Q2).toArray }:=by rw[<-hs3]
 generalize hDD:s2.heap.objs.size=D at *;have kept:∀b o,s3.heap.get? b=some o->h₁.get? b=some o:=fun b o e=>by
  have lt:=QK e;rw[es3]at lt e;exact hsb₁.extBut b o (Qy lt) (Q7 _ e)
 have old:∀b o,s2.heap.get? b=some o->s3.heap.get? b=some o:=fun b o e=>by rw[es3];exact Q7 _ e
 have ltD:∀b∈fp,b<D:=fun b hb=>by
  obtain⟨o,e,_⟩:=T.obj 0 _ st2 b hb;rw[<-hDD];exact QK e
 have fo:∀b∈fp,b<s3.heap.objs.size:=fun b hb=>by
  obtain⟨o,e,_⟩:=T.obj 0 _ st2 b hb;exact QK (old _ _ e)
 have f3:∀b∈fp,tH X pins (upd H2 D (.lst [])) b:=fun b hb=>by
  refine⟨?_,(f2 b hb).2⟩;rw[aB (Qy (ltD b hb))];exact(f2 b hb).1
 rw[<-es3]at hns₁ hsb₁ ⊢;have Ic:=fun t'=>Inv.comp (h1:=h₁) (t':=t') (Nc:=Nc) (n:=n) I3 hc f3 fo hkind hcl hhas hcap tn hN hn hns₁ kept;have stat:∀{H':Hp},(∀b∈fp,H' b=none)->∀b∈fp,tH (cxC X Nc scope cl s3 (upd H2 D (.lst [])) fp) [] H' b:=fun hn' b hb=>by
  refine⟨hn' b hb,Qy (fo b hb),fun z=>?_,.inl hb,fun x c e=>(f2 b hb).2.2.2.2.1 x c (hcl.look e),fun p hp=>(by simp at hp)⟩;rcases QM.mp (I3.stkSub b z)with q|q
  ·exact(f2 b hb).2.1 q
  ·exact(f2 b hb).2.2.1 q
 have loop:∀s4:Q3,(∃t',s4={ s3 with heap:=h₁,toks:=t' })->codeAny (Qj X.prog X.w) X.A (.compLoop (.ListComp elt [⟨tg,iter,[],0⟩] scope pos) 0 (.ref it) (.ref D) (compEnvC scope cl s3.heap.objs.size X.env))
   (compPost (Qj X.prog X.w) X.A X.xe use Qf (.ref D) s3.heap.objs.size) s4:=by
  rintro s4 ⟨t',rfl⟩;refine oy (fun n' s'=>∃i σ' H',Inv (cxC X Nc scope cl s3 (upd H2 D (.lst [])) fp) [] σ' H' s'/\tnn i s'.heap/\(∀b∈fp,H' b=none)/\W i n' σ' H') ?_ m0
   ⟨0,_,_,Ic t',T.keep 0 _ _ st2 fun b hb o e=>kept _ _ (old _ _ e),fun b hb=>(f3 b hb).1,w0⟩
  rintro n' s5 ⟨i,σ5,H5,I5,st5,fr5,w5⟩;rcases turn i n' σ5 H5 w5 with⟨stop,qn⟩|⟨go,N,hN',step⟩
  ·refine thn (T.done (cxC X Nc scope cl s3 (upd H2 D (.lst [])) fp) rfl rfl rfl hc i [] s5 σ5 H5 (fun _ _=>False) I5 (stat fr5) st5 stop) fun r s6 ⟨hr,I6⟩=>?_;subst hr;obtain⟨m,hm,_⟩:=I6.loc;have I7:Inv X pins σ H5 s6:=Inv.call' (ch:=fp) I3 I6.os I6.base I6.hok I6.bare fun b hb=>⟨(f2 b hb).2.2.2.1,(f2 b hb).2.1,(f2 b hb).2.2.2.2.1,(f2 b hb).2.2.2.2.2⟩;exact hend D _ s6 H5 m I7 hm I6.free (Ne.symm (Qy I3.lt)) I3.sz (fun x c e=>by
     obtain⟨v',o,ho,_⟩:=I3.cell x c e;exact Qy (QK ho)) (fun p hp=>Qy (QK (I3.pin p hp).1)) qn
  ·refine thn (T.item (cxC X Nc scope cl s3 (upd H2 D (.lst [])) fp) rfl rfl rfl hc i [] s5 σ5 H5 (fun _ _=>False) I5 (stat fr5) st5 go) fun r s6 ⟨u,hr,h6⟩=>?_;subst hr;refine thn h6 fun _ s7 hz=>?_;obtain⟨x,H7,I7,r7,y7,st7,fr7⟩:=hz;have I7':=I7.pinned (stat fr7) (T.obj _ _ st7);refine thn ((hg s3 (upd H2 D (.lst [])) fp).h _ s7 σ5 H7 x u _ I7' r7 (step x H7 y7)) fun _ s8 hz=>?_;obtain⟨σ8,H8,I8,q8⟩:=hz;refine thn ((he s3 (upd H2 D (.lst [])) fp).h _ s8 σ8 H8 _ I8 q8) fun v9 s9 hz=>?_;obtain⟨x9,H9,I9,r9,ys,hy,hlt,q9⟩:=hz;refine thn (kg (X:=cxC X Nc scope cl s3 (upd H2 D (.lst [])) fp) _ s9 σ8 H9 (.ref D) [x9] (.ref D) [v9] (fun _ H'=>N σ8 H') I9 rfl (.cons r9 .nil) ⟨D,ys,x9,rfl,rfl,hy,hlt,q9⟩) fun _ s10 hz=>?_;obtain⟨_,H10,I10,_,q10⟩:=hz;obtain⟨m',hm,w10⟩:=hN' σ8 H10 q10;refine⟨m',hm,i+1,σ8,H10,I10.unpinned,T.keep _ _ _ st7 fun b hb o e=>(I10.pin (b,o) (QR _ (QR _ (dX hb e)))).1,fun b hb=>?_,w10⟩;obtain⟨o,e,d⟩:=T.obj _ _ st7 b hb;exact(I10.pin (b,o) (QR _ (QR _ (dX hb e)))).2.1
 have e4:∀t',({ s2 with heap:=h₁,toks:=t' }:Q3)={ s3 with heap:=h₁,toks:=t' }:=fun t'=>by rw[<-hs3]
 refine codeAny_compStart_list (loop _ ⟨_,e4 _⟩) (T.self _ 0 _ _ _ (T.keep 0 _ _ st2 fun b hb o e=>kept _ _ (old _ _ e)) (loop _ ⟨_,e4 _⟩))
theorem qF{X:Cx}{Nc capN tn:List Str}{scope:Zq}{cl:List (Str×Addr)}{n:Nat}{caps:List Nat}{tg iter elt:QC}{pos:Pos}{wi:TI}{g:TG}{te:TE}
  (hc:X.calm=true) (hi:WI X tg iter wi) (hg:∀s3 H3 fp,WG (cxC X Nc scope cl s3 H3 fp) tg g) (he:∀s3 H3 fp,WE (cxC X Nc scope cl s3 H3 fp) elt te)
  (hclos:closureFor scope X.env=pure cl) (hkind:scope.kind=.function) (hnl:∀x∈scope.names,x.2=.local->scope.names.lookup x.1=some .local) (hcell:∀x∈scope.names,x.2≠.cell)
  (hcl:sx X.env cl) (hhas:((relabel scope X.env).names.all fun p=>!(p.2 == .cell||p.2 == .free)||(cl.lookup p.1).isSome)=true)
  (hcap:Paired (Cap X scope cl) caps capN) (hN:Nc=tn++capN) (hn:tn.length=n)
  (hs:∀x,foldedSetIterable iter X.env x=pure x:=by intro _;rfl) :
  WE X (.ListComp elt [⟨tg,iter,[],0⟩] scope pos) (Bc wi g te n caps):=by
 constructor;intro pins s σ H Q I h;rw[eval_ListComp];refine yR hc hi hg he hclos hkind hnl hcell hcl hhas hcap hN hn I h (fun D C s6 H5 m I7 hm fr nl sz cn pn qn=>⟨m,hm,fun h' hs'=>?_⟩) hs;exact⟨.ref D,H5,I7.turned (t':=s6.toks) (it:=C) (fun b o hb e=>hs'.extBut b o hb e) fr nl (.inr sz) cn pn,rfl,qn⟩
theorem ui:∀{bs:List Bool} {us:List Q2} {i:Nat} {v:Q2},bD (bs.map V.bl) us->us[i]?=some v->∃b,bs[i]?=some b/\v=.bool b
 |[],_,_,_,r,e=>by cases r;simp at e
 |b::bs,_,0,_,.cons r _,e=>by
  have r':_=Value.bool b:=r;simp at e;subst e;exact⟨b,by simp,r'⟩
 |b::bs,_,i+1,v,.cons _ t,e=>by
  obtain⟨b',e1,e2⟩:=ui (i:=i) (v:=v) t (by simpa using e);exact⟨b',by simpa using e1,e2⟩
theorem B3{h:Heap}{b:Addr}{o:Obj}(e:h.get? b=some o):¬b∈[h.objs.size]:=fun z=>by
 have z':b=h.objs.size:=by simpa using z
 exact absurd (QK e) (by rw[z'];exact ZC _)
open PySem.AutoSeq1 (wpAny_loadPart')
theorem yS{prog:Qv}{w:Qe}{A:Qa}{E:Q2->Q3->Prop}{s:Q3}{t b:Addr}{vs ws:List Q2}{Q:Q2->Q3->Prop}(ht:IsTup s.heap t vs.toArray)(hb:IsTup s.heap b ws.toArray)(hv:vs=[])
  (h1:Q (.ref b) s):wpAny (Qj prog w) A (binaryOp .Add (.ref t) (.ref b)) Q E s:=by
 obtain⟨⟨cls,dd,data,sl⟩,ho,hc,n,hd⟩:=id ht;obtain⟨⟨cls2,dd2,data2,sl2⟩,ho2,hc2,n2,hd2⟩:=id hb;simp only at hc hd hc2 hd2;subst hc hd hc2 hd2;exact concat_meets ⟨_,ho,rfl⟩ ⟨_,ho2,rfl⟩ noFill_tuple_add seq_tuple_add PySem.F.slot_tuple_add PySem.F.entry_tuple_add (PySem.F.args_tuple_add_2 _ _)
   (tuple_addW0 t b vs.toArray ws.toArray n n2 dd dd2 sl sl2 (by simp[hv])) ⟨ho,ho2,h1⟩
theorem jM:fillsNumberSlot (.type "tuple") "mul"=pure false:=
 PySem.fillsNumberSlot_seq (id:="tuple.__mul__") (r:=some (.builtin "tuple.__rmul__")) F.slot_tuple_mul.lookup (by decide +kernel) F.slot_tuple_rmul.lookup (by decide +kernel)
theorem nQ:seqRepeat? (.type "tuple")=pure (some (.builtin "tuple.__mul__")):=by
 unfold seqRepeat?;rw[PySem.seqSlot_of (T:="tuple") (name:="__mul__") (id:="tuple.__mul__") F.slot_tuple_mul.lookup (by decide +kernel),PySem.seqSlot_of (T:="tuple") (name:="__rmul__") (id:="tuple.__rmul__") F.slot_tuple_rmul.lookup (by decide +kernel)];rfl
theorem lB(a:Int)(t:Tok)(l:Addr)(items:Array Q2)(n:Nat)(dd:Option Addr)(sl:Array (Option Q2)) :
  Meets (Builtin.«int.__rmul__» ⟨[.int a t,.ref l],[]⟩) (fun _ R s=>s.heap.get? l=some { cls:=.type "tuple",dict:=dd,data:=.seq items n,slots:=sl }/\R (.ok (.ret Value.notImplemented)) s):=
 .of_wp fun prog w A R s h=>by obtain⟨hp,g,d,tk,os⟩:=s;obtain⟨hl,h⟩:=h;wp_walk using wpAny_loadPart' hl;exact⟨_,rfl,h⟩
theorem pF(l:Addr)(items:Array Q2)(n:Nat)(dd:Option Addr)(sl:Array (Option Q2))(t:Tok) :
  Meets (Builtin.«tuple.__mul__» ⟨[.ref l,.int 1 t],[]⟩) (fun _ R s=>s.heap.get? l=some { cls:=.type "tuple",dict:=dd,data:=.seq items n,slots:=sl }/\R (.ok (.ret (Value.ref l))) s):=
 .of_wp fun prog w A R s h=>by obtain⟨hp,g,d,tk,os⟩:=s;obtain⟨hl,h⟩:=h;have f1:=AutoSeq1.idx_int;wp_walk using wpAny_loadPart' hl;exact⟨_,rfl,h⟩
theorem pE(l:Addr)(items:Array Q2)(n:Nat)(dd:Option Addr)(sl:Array (Option Q2))(k:Int)(t:Tok)(hc0:¬(decide (k < -2^63)||decide (k≥2^63))=true)(hc1:¬(items.isEmpty||k == 1)=true)(hc2:¬(decide (k<=0)||items.isEmpty)=true)
  (hc3:¬((items.size:Int)*k>(2^63-1) / 8)) (hc4:¬Builtin.Tuple.tupleTooMany ((items.size:Int)*k)=true) (hz:(List.foldl (fun x1 x2=>x1++x2) #[] (QU k.toNat items)).size<=QD) :
  Meets (Builtin.«tuple.__mul__» ⟨[.ref l,.int k t],[]⟩) (fun _ R s=>s.heap.get? l=some { cls:=.type "tuple",dict:=dd,data:=.seq items n,slots:=sl }/\
   R (.ok (.ret (Value.ref s.heap.objs.size))) { s with heap:=s.heap.push { cls:=Value.type "tuple",data:=Data.seq (List.foldl (fun x1 x2=>x1++x2) #[] (QU k.toNat items)) } }):=
 .of_wp fun prog w A R s h=>by
  obtain⟨hp,g,d,tk,os⟩:=s;obtain⟨hl,h⟩:=h;have f1:=AutoSeq1.idx_int;have g0:(decide (k < -2^63)||decide (k≥2^63))=false:=by simpa using hc0
  have g1:(items.isEmpty||k == 1)=false:=by simpa using hc1
  have g2:(decide (k<=0)||items.isEmpty)=false:=by simpa using hc2
  have g4:Builtin.Tuple.tupleTooMany ((items.size:Int)*k)=false:=by simpa using hc4
  wp_walk using wpAny_loadPart' hl
  refine PySem.W.KFB.if_not g0 ?_
  wp_walk using wpAny_loadPart' hl
  try (refine PySem.W.KFB.if_not g1 ?_;wp_walk using wpAny_loadPart' hl)
  try (refine PySem.W.KFB.if_not g2 ?_;wp_walk using wpAny_loadPart' hl)
  try (rw[if_neg hc3];wp_walk using wpAny_loadPart' hl)
  try (refine PySem.W.KFB.if_not g4 ?_;wp_walk using wpAny_loadPart' hl)
  try (refine wpAny_ite_false (decide_eq_false (Nat.not_lt.mpr hz)) ?_;wp_walk)
  exact⟨_,rfl,h⟩
theorem vE{m:Int}(h0:0<=m)(h:m<2^60):m.natAbs.log2<9000:=by
 have:=sR (n:=m.natAbs) (by omega);omega
end OG
namespace OP
open PySem PySem.Spec PyProof.Rows L2 OG
inductive U where
 |non|bl (b:Bool)|int (i:Int)|str (x:Str)|tup (us:List U)|ref (l:Nat)|kl (ns:List Int)
structure Cl where
 C:Addr
 ns:List Str
inductive O where
 |lst (us:List U)|dic (kvs:List (Key×U))|ins (c:Cl) (fs:List (Option U))|fdc (ep:Nat) (kvs:List (Key×U))|dit (kvs:List (List Key×U))|fdt (ep:Nat) (kvs:List (List Key×U))|dnt (kvs:List (List (List Int)×U))|fdn (ep:Nat) (kvs:List (List (List Int)×U))|cod (p:Addr) (pos:Pos) (q:Str)|exc (C:Addr)
abbrev Sto:=List O
abbrev Rho:=List (Option U)
def KL(K:Q1)(H:Hp)(a:Addr)(ns:List Int):Prop:=
 (∃o,H a=some (.frz o (.lst (ns.map V.int))))\/
  ∃(o:Obj) (its:Array Q2) (n:Nat),K.lookup a=some o/\o.cls=.type "list"/\o.dict=none/\o.data=.seq its n/\its.size<=QD/\bD (ns.map V.int) its.toList
theorem KL.sq{K:Q1}{H:Hp}{a:Addr}{ns:List Int}(h:KL K H a ns):SqL K H a (ns.map V.int):=by
 rcases h with h|h
 ·exact .inl (.inr h)
 ·exact .inr h
mutual
def Is(K:Q1)(m:List Addr)(H:Hp):V->U->Prop
 |v,.non=>v=.non
 |v,.bl b=>v=.bl b
 |v,.int i=>v=.int i
 |v,.str x=>v=.str x
 |v,.tup us=>∃a xs,v=.ref a/\SqT K H a xs/\IsL K m H xs us
 |v,.ref l=>∃a,m[l]?=some a/\v=.ref a
 |v,.kl ns=>∃a,v=.ref a/\KL K H a ns
def IsL(K:Q1)(m:List Addr)(H:Hp):List V->List U->Prop
 |xs,[]=>xs=[]
 |xs,u::us=>∃x r,xs=x::r/\Is K m H x u/\IsL K m H r us
end
structure wW(K:Q1)(H H':Hp):Prop where
 t:∀a xs,SqT K H a xs->SqT K H' a xs
 l:∀a ns,KL K H a ns->KL K H' a ns
 c:∀a ob,H a=some (.frz ob (.own 0))->H' a=some (.frz ob (.own 0))
structure Ext(K:Q1)(m:List Addr)(H:Hp)(m':List Addr)(H':Hp):Prop where
 pre:∃t,m'=m++t
 keep:wW K H H'
section
variable{K:Q1}{m m' m'':List Addr}{H H' H'':Hp}{v x:V}{u:U}{xs ys:List V}{us ws:List U}{a q:Addr}{o:HO}
def Ext.refl:Ext K m H m H:=⟨⟨[],by simp⟩,fun _ _ h=>h,fun _ _ h=>h,fun _ _ h=>h⟩
theorem Ext.trans(a:Ext K m H m' H')(b:Ext K m' H' m'' H''):Ext K m H m'' H'':=by
 obtain⟨t,rfl⟩:=a.pre;obtain⟨t',rfl⟩:=b.pre;exact⟨⟨t++t',by simp⟩,fun c ys h=>b.keep.t c ys (a.keep.t c ys h),fun c ys h=>b.keep.l c ys (a.keep.l c ys h),fun c ob h=>b.keep.c c ob (a.keep.c c ob h)⟩
def Ext.of(k:wW K H H'):Ext K m H m H':=⟨⟨[],by simp⟩,k⟩
def Ext.new(k:wW K H H'):Ext K m H (m++[q]) H':=⟨⟨[q],rfl⟩,k⟩
theorem Ext.get{l:Nat}(e:Ext K m H m' H')(h:m[l]?=some a):m'[l]?=some a:=by
 obtain⟨t,rfl⟩:=e.pre;rw[Qt (Q6.mp h).1];exact h
mutual
theorem Is.mono(e:Ext K m H m' H'):∀{v:V} {u:U},Is K m H v u->Is K m' H' v u
 |v,.non,h=>by unfold Is at h ⊢;exact h
 |v,.bl b,h=>by unfold Is at h ⊢;exact h
 |v,.int i,h=>by unfold Is at h ⊢;exact h
 |v,.str x,h=>by unfold Is at h ⊢;exact h
 |v,.tup us,h=>by
  unfold Is at h ⊢;obtain⟨a,xs,e1,k,l⟩:=h;exact⟨a,xs,e1,e.keep.t _ _ k,IsL.mono e l⟩
 |v,.ref l,h=>by
  unfold Is at h ⊢;obtain⟨a,k,e1⟩:=h;exact⟨a,e.get k,e1⟩
 |v,.kl ns,h=>by
  unfold Is at h ⊢;obtain⟨a,e1,k⟩:=h;exact⟨a,e1,e.keep.l _ _ k⟩
theorem IsL.mono(e:Ext K m H m' H'):∀{xs:List V} {us:List U},IsL K m H xs us->IsL K m' H' xs us
 |xs,[],h=>by unfold IsL at h ⊢;exact h
 |xs,u::us,h=>by
  unfold IsL at h ⊢;obtain⟨x,r,e1,k,l⟩:=h;exact⟨x,r,e1,Is.mono e k,IsL.mono e l⟩
end
def Is.int_{i:Int}:Is K m H (.int i) (.int i):=by unfold Is;rfl
def Is.bl_{b:Bool}:Is K m H (.bl b) (.bl b):=by unfold Is;rfl
def Is.non_:Is K m H .non .non:=by unfold Is;rfl
def Is.str_{x:Str}:Is K m H (.str x) (.str x):=by unfold Is;rfl
def Is.of_int{i:Int}(h:Is K m H v (.int i)):v=.int i:=by unfold Is at h;exact h
def Is.of_bl{b:Bool}(h:Is K m H v (.bl b)):v=.bl b:=by unfold Is at h;exact h
def Is.of_non(h:Is K m H v .non):v=.non:=by unfold Is at h;exact h
def Is.of_str{x:Str}(h:Is K m H v (.str x)):v=.str x:=by unfold Is at h;exact h
def Is.of_tup(h:Is K m H v (.tup us)):∃a xs,v=.ref a/\SqT K H a xs/\IsL K m H xs us:=by unfold Is at h;exact h
def Is.of_ref{l:Nat}(h:Is K m H v (.ref l)):∃a,m[l]?=some a/\v=.ref a:=by unfold Is at h;exact h
def Is.of_kl{ns:List Int}(h:Is K m H v (.kl ns)):∃a,v=.ref a/\KL K H a ns:=by unfold Is at h;exact h
def Is.kl_{ns:List Int}(e:KL K H a ns):Is K m H (.ref a) (.kl ns):=by unfold Is;exact⟨a,rfl,e⟩
def Is.tup_(e:SqT K H a xs)(h:IsL K m H xs us):Is K m H (.ref a) (.tup us):=by unfold Is;exact⟨a,xs,rfl,e,h⟩
def Is.ref_{l:Nat}(e:m[l]?=some a):Is K m H (.ref a) (.ref l):=by unfold Is;exact⟨a,e,rfl⟩
def IsL.nil_:IsL K m H [] []:=by unfold IsL;rfl
def IsL.cons_(h:Is K m H x u)(t:IsL K m H xs us):IsL K m H (x::xs) (u::us):=by unfold IsL;exact⟨x,xs,rfl,h,t⟩
def IsL.of_nil(h:IsL K m H xs []):xs=[]:=by unfold IsL at h;exact h
def IsL.of_cons(h:IsL K m H xs (u::us)):∃x r,xs=x::r/\Is K m H x u/\IsL K m H r us:=by unfold IsL at h;exact h
theorem IsL.length:∀{xs:List V} {us:List U},IsL K m H xs us->xs.length=us.length
 |xs,[],h=>by rw[h.of_nil];rfl
 |xs,d::ds,h=>by
  obtain⟨x,r,rfl,_,t⟩:=h.of_cons;rw[QY,QY,IsL.length t]
theorem IsL.getD:∀{xs:List V} {us:List U} {i:Nat} {u:U},IsL K m H xs us->us[i]?=some u->∃x,xs[i]?=some x/\Is K m H x u
 |xs,[],i,x,h,e=>by simp at e
 |xs,d::ds,0,x,h,e=>by
  obtain⟨y,r,rfl,k,t⟩:=h.of_cons;simp at e;subst e;exact⟨y,by simp,k⟩
 |xs,d::ds,i+1,x,h,e=>by
  obtain⟨y,r,rfl,k,t⟩:=h.of_cons;obtain⟨d',e1,e2⟩:=IsL.getD (i:=i) (u:=x) t (by simpa using e);exact⟨d',by simpa using e1,e2⟩
theorem IsL.append:∀{xs:List V} {us:List U},IsL K m H xs us->IsL K m H ys ws->IsL K m H (xs++ys) (us++ws)
 |xs,[],h,k=>by rw[h.of_nil];exact k
 |xs,d::ds,h,k=>by
  obtain⟨y,r,rfl,z,t⟩:=h.of_cons;exact .cons_ z (IsL.append t k)
theorem IsL.set:∀{xs:List V} {us:List U} {j:Nat},IsL K m H xs us->Is K m H x u->IsL K m H (xs.set j x) (us.set j u)
 |xs,[],j,h,k=>by rw[h.of_nil];exact .nil_
 |xs,d::ds,0,h,k=>by
  obtain⟨y,r,rfl,z,t⟩:=h.of_cons;exact .cons_ k t
 |xs,d::ds,j+1,h,k=>by
  obtain⟨y,r,rfl,z,t⟩:=h.of_cons;exact .cons_ z (IsL.set t k)
theorem IsL.drop:∀{xs:List V} {us:List U} (n:Nat),IsL K m H xs us->IsL K m H (xs.drop n) (us.drop n)
 |xs,us,0,h=>h
 |xs,[],n+1,h=>by rw[h.of_nil];exact .nil_
 |xs,d::ds,n+1,h=>by
  obtain⟨y,r,rfl,z,t⟩:=h.of_cons;exact IsL.drop n t
theorem IsL.take:∀{xs:List V} {us:List U} (n:Nat),IsL K m H xs us->IsL K m H (xs.take n) (us.take n)
 |xs,us,0,h=>.nil_
 |xs,[],n+1,h=>by rw[h.of_nil];exact .nil_
 |xs,d::ds,n+1,h=>by
  obtain⟨y,r,rfl,z,t⟩:=h.of_cons;exact .cons_ z (IsL.take n t)
theorem IsL.erase:∀{xs:List V} {us:List U} (n:Nat),IsL K m H xs us->IsL K m H (xs.eraseIdx n) (us.eraseIdx n)
 |xs,[],n,h=>by rw[h.of_nil];exact .nil_
 |xs,d::ds,0,h=>by
  obtain⟨y,r,rfl,z,t⟩:=h.of_cons;exact t
 |xs,d::ds,n+1,h=>by
  obtain⟨y,r,rfl,z,t⟩:=h.of_cons;exact .cons_ z (IsL.erase n t)
theorem IsL.rep:∀(n:Nat),IsL K m H xs us->IsL K m H (QU n xs).flatten (QU n us).flatten
 |0,h=>.nil_
 |n+1,h=>by
  rw[ZI,ZI,Zu,Zu];exact h.append (IsL.rep n h)
theorem rF(h:H a=some o)(nt:∀xs,o≠.tup xs)(nf:∀ob xs,o≠.frz ob (.tup xs))(nl:∀ob xs,o≠.frz ob (.lst xs))(nc:∀ob,o≠.frz ob (.own 0))(o':HO):wW K H (upd H a o'):=by
 refine⟨fun b xs q=>?_,fun b ns q=>?_,fun b ob q=>by rw[aB (fun z=>by subst z;rw[q]at h;cases h;exact nc _ rfl)];exact q⟩
 ·rcases q with(q|⟨ob,q⟩)|q
  ·have n:b≠a:=fun z=>by subst z;rw[q]at h;cases h;exact nt _ rfl
   exact .inl (.inl (by rw[aB n];exact q))
  ·have n:b≠a:=fun z=>by subst z;rw[q]at h;cases h;exact nf _ _ rfl
   exact .inl (.inr ⟨ob,by rw[aB n];exact q⟩)
  ·exact .inr q
 ·rcases q with⟨ob,q⟩|q
  ·have n:b≠a:=fun z=>by subst z;rw[q]at h;cases h;exact nl _ _ rfl
   exact .inl ⟨ob,by rw[aB n];exact q⟩
  ·exact .inr q
theorem cu(s:Aj H H'):wW K H H':=by
 refine⟨fun b xs q=>?_,fun b ns q=>?_,fun b ob q=>s _ _ q⟩
 ·rcases q with(q|⟨ob,q⟩)|q
  ·exact .inl (.inl (s _ _ q))
  ·exact .inl (.inr ⟨ob,s _ _ q⟩)
  ·exact .inr q
 ·rcases q with⟨ob,q⟩|q
  ·exact .inl ⟨ob,s _ _ q⟩
  ·exact .inr q
def bI(h:H q=none)(o':HO):wW K H (upd H q o'):=cu (ft h o')
end
abbrev NK:=List (List Int)
def hNK(ks:NK):Int:=reduceHash (Builtin.Tuple.tupleHashOf (ks.map fun k=>reduceHash (Builtin.Tuple.tupleHashOf (k.map hashInt))))
abbrev KN:List ((NK×Addr)×V)->List (NK×Addr×Q2)->Prop:=Paired fun p q=>p.1.1=q.1/\p.1.2=q.2.1/\bR p.2 q.2.2
def dNo(a:Addr)(kvs:List ((NK×Addr)×V)):HO:=.ext fun h=>kvs.length<=QD/\(a == sysModules)=false/\∃xs,KN kvs xs/\
 ∃o es ep,h.get? a=some o/\o.ExactDict/\o.data=.dict es ep/\es.toList=(xs.map fun x=>(⟨hNK x.1,.ref x.2.1,x.2.2⟩:DictEntry))/\(xs.map (·.1)).Nodup
def FR(K:Q1)(H:Hp)(b:Addr)(k:NK):Prop:=∃cs:List Addr,SqT K H b (cs.map V.ref)/\Paired (fun(l:List Int) c=>SqT K H c (l.map V.int)) k cs
theorem FR.mono{K:Q1}{H H':Hp}{b:Addr}{k:NK}(e:wW K H H')(h:FR K H b k):FR K H' b k:=let ⟨cs,p,q⟩:=h;⟨cs,e.t _ _ p,Paired.mapP q fun _ _ z=>e.t _ _ z⟩
def nP(kvs:List ((NK×Addr)×V)):List (NK×V):=kvs.map fun p=>(p.1.1,p.2)
def IsP{κ:Type}(K:Q1)(m:List Addr)(H:Hp)(kvs:List (κ×V))(kus:List (κ×U)):Prop:=kvs.map (·.1)=kus.map (·.1)/\IsL K m H (kvs.map (·.2)) (kus.map (·.2))
def Rf(K:Q1)(m:List Addr)(H:Hp):Option V->Option U->Prop
 |some v,some u=>Is K m H v u
 |none,none=>True
 |_,_=>False
structure InF(K:Q1)(m:List Addr)(H:Hp)(c:Cl)(fs:List (Str×V))(fus:List (Option U)):Prop where
 nd:c.ns.Nodup
 few:c.ns.length<1000
 knd:(fs.map (·.1)).Nodup
 sub:∀x∈fs.map (·.1),x∈c.ns
 len:fus.length=c.ns.length
 at_:∀(i:Nat) (x:Str),c.ns[i]?=some x->Rf K m H (fs.lookup x) ((fus[i]?).join)
theorem Rf.mono{K:Q1}{m m':List Addr}{H H':Hp}{v:Option V}{u:Option U}(e:Ext K m H m' H')(h:Rf K m H v u):Rf K m' H' v u:=by
 cases v with
 |none=>cases u with
  |none=>trivial
  |some u=>exact h.elim
 |some v=>cases u with
  |none=>exact h.elim
  |some u=>exact Is.mono e h
theorem InF.mono{K:Q1}{m m':List Addr}{H H':Hp}{c:Cl}{fs:List (Str×V)}{fus:List (Option U)}(e:Ext K m H m' H')(h:InF K m H c fs fus):InF K m' H' c fs fus:=⟨h.nd,h.few,h.knd,h.sub,h.len,fun i x q=>(h.at_ i x q).mono e⟩
def y6(H:Hp)(pos:Pos)(q:Str)(ps:Array Q2):Prop:=TriplesOk ps.toList/\(codeAmong pos ps.toList=none\/∃c ob vs t,codeAmong pos ps.toList=some (.ref c)/\H c=some (.frz ob (.own 0))/\ob.data=.fields vs/\vs[1]?=some (.str q t))
theorem y6.mono{K:Q1}{H H':Hp}{pos:Pos}{q:Str}{ps:Array Q2}(e:wW K H H')(h:y6 H pos q ps):y6 H' pos q ps:=⟨h.1,h.2.imp id fun⟨c,ob,vs,t,h1,h2,h3⟩=>⟨c,ob,vs,t,h1,e.c _ _ h2,h3⟩⟩
def FA(a C:Addr):HO:=.ext fun h=>∃o,h.get? a=some o/\o.cls=.ref C/\o.dict=none/\∃vs,o.data=.fields vs
def Ob(K:Q1)(m:List Addr)(H:Hp)(a:Addr):O->Prop
 |.lst us=>∃xs,H a=some (.lst xs)/\IsL K m H xs us
 |.dic kus=>∃kvs,H a=some (.dK kvs)/\IsP K m H kvs kus
 |.ins c fus=>∃dx fs,H a=some (.ins c.C dx fs)/\InF K m H c fs fus
 |.fdc ep kus=>∃ob es kvs,H a=some (.frz ob (.dK kvs))/\ob.data=.dict es ep/\IsP K m H kvs kus
 |.dit kus=>∃kvs,H a=some (.dT kvs)/\IsP K m H kvs kus
 |.fdt ep kus=>∃ob es kvs,H a=some (.frz ob (.dT kvs))/\ob.data=.dict es ep/\IsP K m H kvs kus
 |.dnt kus=>∃kvs,H a=some (dNo a kvs)/\(∀p∈kvs,FR K H p.1.2 p.1.1)/\IsP K m H (nP kvs) kus
 |.fdn ep kus=>∃ob es kvs,H a=some (.frz ob (dNo a kvs))/\ob.data=.dict es ep/\(∀p∈kvs,FR K H p.1.2 p.1.1)/\IsP K m H (nP kvs) kus
 |.cod p pos q=>a=p/\∃ps,H a=some (.tbl ps)/\y6 H pos q ps
 |.exc C=>H a=some (FA a C)
structure Sr(K:Q1)(m:List Addr)(S:Sto)(H:Hp):Prop where
 len:m.length=S.length
 nd:m.Nodup
 ob:∀(l:Nat) (a:Addr) (o:O),m[l]?=some a->S[l]?=some o->Ob K m H a o
structure Lr(K:Q1)(m:List Addr)(H:Hp)(ρ:Rho)(σ:L2.St):Prop where
 len:ρ.length=σ.length
 at_:∀(i:Nat) (u:U),ρ[i]?=some (some u)->∃v,σ[i]?=some (some v)/\Is K m H v u
section
variable{κ:Type}{K:Q1}{m m':List Addr}{H H':Hp}{S:Sto}{ρ:Rho}{σ:L2.St}{a q:Addr}{l:Nat}{o:O}{ho:HO}{us:List U}{v:V}{u:U}{kvs:List (κ×V)}{kus:List (κ×U)}
def IsP.mono(e:Ext K m H m' H')(h:IsP K m H kvs kus):IsP K m' H' kvs kus:=⟨h.1,h.2.mono e⟩
def IsP.length(h:IsP K m H kvs kus):kvs.length=kus.length:=by have:=h.2.length;simpa using this
def IsP.nil_:IsP (κ:=κ) K m H [] []:=⟨rfl,.nil_⟩
theorem IsP.cons_{k:κ}(h:Is K m H v u)(t:IsP K m H kvs kus):IsP K m H ((k,v)::kvs) ((k,u)::kus):=⟨by simp[t.1],.cons_ h t.2⟩
theorem IsP.ind{P:List (κ×V)->List (κ×U)->Prop}(h0:P [] [])(h1:∀k v u kvs kus,Is K m H v u->IsP K m H kvs kus->P kvs kus->P ((k,v)::kvs) ((k,u)::kus)):∀{kvs:List (κ×V)} {kus:List (κ×U)},IsP K m H kvs kus->P kvs kus
 |[],[],_=>h0
 |[],p::r,h=>by have:=h.length;simp at this
 |p::r,[],h=>by have:=h.length;simp at this
 |(k,v)::r,(k',u)::r',h=>by
  obtain⟨e,i⟩:=h;simp only[QN,List.cons.injEq]at e;obtain⟨e1,e2⟩:=e;subst e1;obtain⟨x,t,e3,iu,it⟩:=i.of_cons;cases e3;exact h1 k v u r r' iu ⟨e2,it⟩ (IsP.ind h0 h1 (⟨e2,it⟩:IsP K m H r r'))
theorem Ob.mono(e:Ext K m H m' H')(h1:H' a=H a)(h:Ob K m H a o):Ob K m' H' a o:=by
 cases o with
 |lst us=>obtain⟨xs,k,i⟩:=h;exact⟨xs,h1.trans k,i.mono e⟩
 |dic kus=>obtain⟨xs,k,i⟩:=h;exact⟨xs,h1.trans k,i.mono e⟩
 |ins C fus=>obtain⟨dx,fs,k,i⟩:=h;exact⟨dx,fs,h1.trans k,i.mono e⟩
 |fdc ep kus=>obtain⟨ob,es,kvs,k,d,i⟩:=h;exact⟨ob,es,kvs,h1.trans k,d,i.mono e⟩
 |dit kus=>obtain⟨xs,k,i⟩:=h;exact⟨xs,h1.trans k,i.mono e⟩
 |fdt ep kus=>obtain⟨ob,es,kvs,k,d,i⟩:=h;exact⟨ob,es,kvs,h1.trans k,d,i.mono e⟩
 |dnt kus=>obtain⟨kvs,k,y,i⟩:=h;exact⟨kvs,h1.trans k,fun p hp=>(y p hp).mono e.keep,i.mono e⟩
 |fdn ep kus=>obtain⟨ob,es,kvs,k,d,y,i⟩:=h;exact⟨ob,es,kvs,h1.trans k,d,fun p hp=>(y p hp).mono e.keep,i.mono e⟩
 |cod p pos q=>obtain⟨z,ps,k,i⟩:=h;exact⟨z,ps,h1.trans k,i.mono e.keep⟩
 |exc C=>exact h1.trans h
theorem Ob.some(h:Ob K m H a o):∃ho,H a=some ho/\(∀xs,ho≠.tup xs)/\(∀ob xs,ho≠.frz ob (.tup xs))/\(∀ob xs,ho≠.frz ob (.lst xs))/\(∀ob,ho≠.frz ob (.own 0)):=by
 cases o with
 |lst us=>obtain⟨xs,k,i⟩:=h;exact⟨_,k,by simp,by simp,by simp,by simp⟩
 |dic kus=>obtain⟨xs,k,i⟩:=h;exact⟨_,k,by simp,by simp,by simp,by simp⟩
 |ins C fus=>obtain⟨dx,fs,k,i⟩:=h;exact⟨_,k,by simp,by simp,by simp,by simp⟩
 |fdc ep kus=>obtain⟨ob,es,kvs,k,d,i⟩:=h;exact⟨_,k,by simp,by simp,by simp,by simp⟩
 |dit kus=>obtain⟨xs,k,i⟩:=h;exact⟨_,k,by simp,by simp,by simp,by simp⟩
 |fdt ep kus=>obtain⟨ob,es,kvs,k,d,i⟩:=h;exact⟨_,k,by simp,by simp,by simp,by simp⟩
 |dnt kus=>obtain⟨kvs,k,y,i⟩:=h;exact⟨_,k,by simp[dNo],by simp[dNo],by simp[dNo],by simp[dNo]⟩
 |fdn ep kus=>obtain⟨ob,es,kvs,k,d,y,i⟩:=h;exact⟨_,k,by simp,by simp[dNo],by simp[dNo],by simp[dNo]⟩
 |cod p pos q=>obtain⟨z,ps,k,i⟩:=h;exact⟨_,k,by simp,by simp,by simp,by simp⟩
 |exc C=>exact⟨_,h,by simp[FA],by simp[FA],by simp[FA],by simp[FA]⟩
theorem Lr.mono(e:Ext K m H m' H')(h:Lr K m H ρ σ):Lr K m' H' ρ σ:=⟨h.len,fun i u e1=>let ⟨v,e2,e3⟩:=h.at_ i u e1;⟨v,e2,e3.mono e⟩⟩
theorem Lr.set(h:Lr K m H ρ σ)(i:Nat)(hv:Is K m H v u):Lr K m H (ρ.set i (some u)) (σ.set i (some v)):=by
 refine⟨by simp[h.len],fun j w e=>?_⟩;by_cases c:i=j
 ·subst c;rw[List.getElem?_set_self' ]at e;rw[List.getElem?_set_self'];have hl:=h.len;cases e1:ρ[i]? with
  |none=>rw[e1]at e;simp at e
  |some z=>
   rw[e1]at e;simp at e;subst e;have:i < σ.length:=by rw[<-hl];exact(Q6.mp e1).1
   rw[Q4 this];exact⟨v,rfl,hv⟩
 ·rw[Qg c]at e;rw[Qg c];exact h.at_ j w e
theorem Sr.get(r:Sr K m S H)(h:S[l]?=some o):∃a,m[l]?=some a/\Ob K m H a o:=by
 have hl:l<m.length:=by rw[r.len];exact(Q6.mp h).1
 exact⟨_,Q4 hl,r.ob _ _ _ (Q4 hl) h⟩
theorem Sr.at_(r:Sr K m S H)(h:m[l]?=some a):∃o,S[l]?=some o/\Ob K m H a o:=by
 have hl:l<S.length:=by rw[<-r.len];exact(Q6.mp h).1
 exact⟨_,Q4 hl,r.ob _ _ _ h (Q4 hl)⟩
theorem Sr.same(r:Sr K m S H)(s:Aj H H'):Sr K m S H':=⟨r.len,r.nd,fun l a o h1 h2=>by
 have q:=r.ob l a o h1 h2;obtain⟨ho,e,_⟩:=q.some;exact q.mono (.of (cu s)) (by rw[s _ _ e,e])⟩
theorem Sr.new(r:Sr K m S H)(h:H q=none)(n:Ob K (m++[q]) (upd H q ho) q o):Sr K (m++[q]) (S++[o]) (upd H q ho):=by
 have hq:q∉m:=fun z=>by
  obtain⟨l,e⟩:=List.getElem?_of_mem z;obtain⟨o,_,k⟩:=r.at_ e;obtain⟨ho,e2,_⟩:=k.some;rw[h]at e2;cases e2
 refine⟨by simp[r.len],?_,fun l a o' h1 h2=>?_⟩
 ·rw[ZT];exact⟨r.nd,by simp,fun x hx y hy z=>by simp at hy;subst hy;subst z;exact hq hx⟩
 ·by_cases c:l<m.length
  ·rw[Qt c]at h1;rw[Qt (by rw[<-r.len];exact c)]at h2;have q':=r.ob l a o' h1 h2;obtain⟨ho',e,_⟩:=q'.some;exact q'.mono (.new (bI h _)) (by rw[aB (cP e h)])
  ·have e:l=m.length:=by
    have:=(Q6.mp h1).1;simp at this;omega
   subst e;rw[Qn (Q8 _)]at h1;rw[Qn (by rw[r.len];exact Q8 _)]at h2;simp[r.len]at h1 h2;subst h1;subst h2;exact n
theorem Sr.put(r:Sr K m S H)(h:m[l]?=some a)(n:Ob K m (upd H a ho) a o):Sr K m (S.set l o) (upd H a ho):=by
 obtain⟨o0,h0,k0⟩:=r.at_ h;obtain⟨ho',e,nt,nf,nl,nc⟩:=k0.some;refine⟨by simp[r.len],r.nd,fun l' a' o' h1 h2=>?_⟩;by_cases c:l=l'
 ·subst c;rw[h]at h1;cases h1;rw[List.getElem?_set_self (Q6.mp h0).1]at h2;cases h2;exact n
 ·rw[Qg c]at h2;have na:a'≠a:=fun z=>by
   subst z;obtain⟨p1,e1⟩:=Q6.mp h;obtain⟨p2,e2⟩:=Q6.mp h1;exact c ((List.getElem_inj r.nd).mp (e1.trans e2.symm))
  exact(r.ob l' a' o' h1 h2).mono (.of (rF e nt nf nl nc _)) (by rw[aB na])
theorem Sr.keep(r:Sr K m S H)(h:m[l]?=some a)(ho:HO):wW K H (upd H a ho):=by
 obtain⟨o0,h0,k0⟩:=r.at_ h;obtain⟨ho',e,nt,nf,nl,nc⟩:=k0.some;exact rF e nt nf nl nc _
end
def jv(K:Q1)(m:List Addr)(H:Hp)(Q:VK)(u:U)(S':Sto):Prop:=∀m' v H',Ext K m H m' H'->Sr K m' S' H'->Is K m' H' v u->Q v H'
abbrev CE:=Rho->Sto->Option (U×Sto)
abbrev CT:=Rho->Sto->Option (Bool×Sto)
abbrev CA:=Rho->Sto->Option (List U×Sto)
inductive Out where
 |nx|rt (u:U)|bk|ct
abbrev CS:=Rho->Sto->Option (Out×Rho×Sto)
def y8(K:Q1)(m:List Addr)(H:Hp)(Q:Bool->Hp->Prop)(b:Bool)(S':Sto):Prop:=∀m' H',Ext K m H m' H'->Sr K m' S' H'->Q b H'
def IK(K:Q1)(m:List Addr)(H:Hp)(Q:List V->Hp->Prop)(us:List U)(S':Sto):Prop:=∀m' vs H',Ext K m H m' H'->Sr K m' S' H'->IsL K m' H' vs us->Q vs H'
def gS(K:Q1)(m:List Addr)(H:Hp)(Q:L2.St->Hp->Prop)(ρ':Rho)(S':Sto):Prop:=∀m' σ' H',Ext K m H m' H'->Sr K m' S' H'->Lr K m' H' ρ' σ'->Q σ' H'
def tw(K:Q1)(m:List Addr)(H:Hp)(D:xg):Out->Rho->Sto->Prop
 |.nx,ρ',S'=>gS K m H D.nx ρ' S'
 |.bk,ρ',S'=>gS K m H D.bk ρ' S'
 |.ct,ρ',S'=>gS K m H D.ct ρ' S'
 |.rt u,_,S'=>jv K m H D.rt u S'
theorem jO{α β γ δ ε:Type}{A B C D:α->β->γ->δ->ε->Prop}{p:Prop}(h:∃a b c d e,A a b c d e/\B a b c d e/\C a b c d e/\D a b c d e)(f:∀a b c d e,A a b c d e->B a b c d e->C a b c d e->D a b c d e->p):p:=by
 obtain⟨a,b,c,d,e,h1,h2,h3,h4⟩:=h;exact f a b c d e h1 h2 h3 h4
theorem sX{α β γ δ ε ζ:Type}{A B C D:α->β->γ->δ->ε->ζ->Prop}{p:Prop}(h:∃a b c d e g,A a b c d e g/\B a b c d e g/\C a b c d e g/\D a b c d e g)(f:∀a b c d e g,A a b c d e g->B a b c d e g->C a b c d e g->D a b c d e g->p):p:=by
 obtain⟨a,b,c,d,e,g,h1,h2,h3,h4⟩:=h;exact f a b c d e g h1 h2 h3 h4
theorem Js{α β γ δ ε ζ:Type}{A B C D E:α->β->γ->δ->ε->ζ->Prop}{p:Prop}(h:∃a b c d e g,A a b c d e g/\B a b c d e g/\C a b c d e g/\D a b c d e g/\E a b c d e g)(f:∀a b c d e g,A a b c d e g->B a b c d e g->C a b c d e g->D a b c d e g->E a b c d e g->p):p:=by
 obtain⟨a,b,c,d,e,g,h1,h2,h3,h4,h5⟩:=h;exact f a b c d e g h1 h2 h3 h4 h5
def tE(K:Q1)(c:CE):TE:=fun σ H Q=>∃m ρ S u S',Sr K m S H/\Lr K m H ρ σ/\c ρ S=some (u,S')/\jv K m H Q u S'
def tT(K:Q1)(c:CT):TT:=fun σ H Q=>∃m ρ S u S',Sr K m S H/\Lr K m H ρ σ/\c ρ S=some (u,S')/\y8 K m H Q u S'
def tA(K:Q1)(c:CA):TA:=fun σ H Q=>∃m ρ S u S',Sr K m S H/\Lr K m H ρ σ/\c ρ S=some (u,S')/\IK K m H Q u S'
def tS(K:Q1)(c:CS):TS:=fun D σ H=>∃m ρ S o ρ' S',Sr K m S H/\Lr K m H ρ σ/\c ρ S=some (o,ρ',S')/\tw K m H D o ρ' S'
abbrev QE(X:Cx)(e:QC)(c:CE):Prop:=WE X e (tE X.K c)
abbrev QT(X:Cx)(e:QC)(c:CT):Prop:=WT X e (tT X.K c)
abbrev QW(X:Cx)(e:QC)(c:CT):Prop:=WW X e (tT X.K c)
abbrev QS(X:Cx)(e:Z0)(c:CS):Prop:=WS X e (tS X.K c)
abbrev QSs(X:Cx)(e:List Z0)(c:CS):Prop:=WSs X e (tS X.K c)
structure QA(X:Cx)(es:List QC)(c:CA):Prop where
 h:WA X es (tA X.K c)
 len:∀ρ S us S',c ρ S=some (us,S')->us.length=es.length
section
variable{X:Cx}{e:QC}{es:List QC}{st:Z0}{sts:List Z0}
theorem _root_.OG.WE.imp{t t':TE}(h:WE X e t)(i:∀σ H Q,t' σ H Q->t σ H Q):WE X e t':=⟨fun pins s σ H Q I k=>h.h pins s σ H Q I (i σ H Q k)⟩
theorem _root_.OG.WT.imp{t t':TT}(h:WT X e t)(i:∀σ H Q,t' σ H Q->t σ H Q):WT X e t':=⟨fun pins s σ H Q I k=>h.h pins s σ H Q I (i σ H Q k)⟩
theorem _root_.OG.WW.imp{t t':TT}(h:WW X e t)(i:∀σ H Q,t' σ H Q->t σ H Q):WW X e t':=⟨fun wh pins s σ H Q I k=>h.h wh pins s σ H Q I (i σ H Q k)⟩
theorem _root_.OG.WA.imp{t t':TA}(h:WA X es t)(i:∀σ H Q,t' σ H Q->t σ H Q):WA X es t':=⟨fun pos pins s σ H Q I k=>h.h pos pins s σ H Q I (i σ H Q k)⟩
theorem _root_.OG.WS.imp{t t':TS}(h:WS X st t)(i:∀D σ H,t' D σ H->t D σ H):WS X st t':=⟨fun pins s σ H D I k=>h.h pins s σ H D I (i D σ H k)⟩
theorem _root_.OG.WSs.imp{t t':TS}(h:WSs X sts t)(i:∀D σ H,t' D σ H->t D σ H):WSs X sts t':=⟨fun pins s σ H D I k=>h.h pins s σ H D I (i D σ H k)⟩
theorem _root_.OG.WI.imp{tg:QC}{t t':TI}(h:WI X tg e t)(i:∀σ H R,t' σ H R->t σ H R):WI X tg e t':=⟨fun pins s σ H R I k=>h.h pins s σ H R I (i σ H R k)⟩
theorem _root_.OG.WG.imp{t t':TG}(h:WG X e t)(i:∀v σ H Q,t' v σ H Q->t v σ H Q):WG X e t':=⟨fun pins s σ H v u Q I r k=>h.h pins s σ H v u Q I r (i v σ H Q k)⟩
theorem _root_.OG.WGs.imp{t t':TGs}(h:WGs X es t)(i:∀v σ H Q,t' v σ H Q->t v σ H Q):WGs X es t':=⟨fun pins s σ H v u Q I r k=>h.h pins s σ H v u Q I r (i v σ H Q k)⟩
theorem _root_.OG.WE.or{t t':TE}(h:WE X e t)(h':WE X e t'):WE X e (fun σ H Q=>t σ H Q\/t' σ H Q):=⟨fun pins s σ H Q I k=>k.elim (h.h pins s σ H Q I) (h'.h pins s σ H Q I)⟩
theorem _root_.OG.WT.or{t t':TT}(h:WT X e t)(h':WT X e t'):WT X e (fun σ H Q=>t σ H Q\/t' σ H Q):=⟨fun pins s σ H Q I k=>k.elim (h.h pins s σ H Q I) (h'.h pins s σ H Q I)⟩
theorem _root_.OG.WS.or{t t':TS}(h:WS X st t)(h':WS X st t'):WS X st (fun D σ H=>t D σ H\/t' D σ H):=⟨fun pins s σ H D I k=>k.elim (h.h pins s σ H D I) (h'.h pins s σ H D I)⟩
theorem _root_.OG.WI.or{tg:QC}{t t':TI}(h:WI X tg e t)(h':WI X tg e t'):WI X tg e (fun σ H D=>t σ H D\/t' σ H D):=⟨fun pins s σ H D I k=>k.elim (h.h pins s σ H D I) (h'.h pins s σ H D I)⟩
end
section
variable{K:Q1}{m m':List Addr}{H H':Hp}{Q:VK}{R:L2.St->Hp->Prop}{D:xg}{u:U}{o:Out}{S':Sto}{ρ':Rho}
def jv.mono(e:Ext K m H m' H')(p:jv K m H Q u S'):jv K m' H' Q u S':=fun m2 v H2 e2 r i=>p m2 v H2 (e.trans e2) r i
theorem y8.mono{Q:Bool->Hp->Prop}{b:Bool}(e:Ext K m H m' H')(p:y8 K m H Q b S'):y8 K m' H' Q b S':=fun m2 H2 e2 r=>p m2 H2 (e.trans e2) r
theorem gS.mono(e:Ext K m H m' H')(p:gS K m H R ρ' S'):gS K m' H' R ρ' S':=fun m2 v H2 e2 r i=>p m2 v H2 (e.trans e2) r i
theorem tw.mono(e:Ext K m H m' H')(p:tw K m H D o ρ' S'):tw K m' H' D o ρ' S':=by
 cases o with
 |nx=>exact gS.mono e p
 |rt u=>exact jv.mono e p
 |bk=>exact gS.mono e p
 |ct=>exact gS.mono e p
end
def LIM:Nat:=100000
def lim{n:Nat}(h:n<=LIM):n<=QD:=Qb h (by unfold LIM QD;decide)
def F8{n:Nat}(h:n<LIM):n<QD:=Qq h (by unfold LIM QD;decide)
def ah(i:Nat):CE:=fun ρ S=>match ρ[i]? with
 |some (some u)=>some (u,S)
 |_=>none
def cC(u:U):CE:=fun _ S=>some (u,S)
section
variable{X:Cx}{e a b c:QC}{ca cb:CE}{pos:Pos}
theorem xO{i:Nat}(h:WE X e (FY i)):QE X e (ah i):=h.imp fun σ H Q hz=>jO hz fun m ρ S u S' sr lr hc post=>by
 unfold ah at hc;split at hc
 ·rename_i u' e;cases hc;obtain⟨v,e1,e2⟩:=lr.at_ i u e;exact⟨v,e1,post m v H .refl sr e2⟩
 ·cases hc
theorem q_c{v:V}{u:U}(h:WE X e (tC v))(hi:∀m H,Is X.K m H v u):QE X e (cC u):=h.imp fun σ H Q hz=>jO hz fun m ρ S u' S' sr lr hc post=>by
 cases hc;exact post m v H .refl sr (hi m H)
def Hz{i:Int}(h:WE X e (tC (.int i))):QE X e (cC (.int i)):=q_c h fun _ _=>.int_
def JT{i:Bool}(h:WE X e (tC (.bl i))):QE X e (cC (.bl i)):=q_c h fun _ _=>.bl_
def Hw{i:Str}(h:WE X e (tC (.str i))):QE X e (cC (.str i)):=q_c h fun _ _=>.str_
def Hy(h:WE X e (tC .non)):QE X e (cC .non):=q_c h fun _ _=>.non_
def cOp(f:U->U->Sto->Option (U×Sto))(ca cb:CE):CE:=fun ρ S=>(ca ρ S).bind fun p=>(cb ρ p.2).bind fun q=>f p.1 q.1 q.2
def OpP(K:Q1)(r:R2)(f:U->U->Sto->Option (U×Sto)):Prop:=
 ∀m S H x y v w u S' Q,Sr K m S H->Is K m H v x->Is K m H w y->f x y S=some (u,S')->jv K m H Q u S'->r v w H Q
theorem vo{K:Q1}{r:R2}{f:U->U->Sto->Option (U×Sto)}(hp:OpP K r f):∀σ H Q,tE K (cOp f ca cb) σ H Q->tOp r (tE K ca) (tE K cb) σ H Q:=by
 rintro σ H Q ⟨m,ρ,S,u,S',sr,lr,hc,post⟩;obtain⟨⟨x,S1⟩,h1,h⟩:=Q0.mp hc;obtain⟨⟨y,S2⟩,h2,h3⟩:=Q0.mp h;exact⟨m,ρ,S,x,S1,sr,lr,h1,fun m1 v1 H1 e1 sr1 i1=>⟨m1,ρ,S1,y,S2,sr1,lr.mono e1,h2,fun m2 v2 H2 e2 sr2 i2=>hp m2 S2 H2 x y v1 v2 u S' Q sr2 (i1.mono e2) i2 h3 (post.mono (e1.trans e2))⟩⟩
theorem iR{op:Operator}{r:R2}{f:U->U->Sto->Option (U×Sto)}(ho:OpR X (binaryOp op) r)(hp:OpP X.K r f)(ha:QE X a ca)(hb:QE X b cb):QE X (.BinOp a op b pos) (cOp f ca cb):=(DN ho ha hb).imp (vo hp)
theorem mD{op:CmpOp}{r:R2}{f:U->U->Sto->Option (U×Sto)}(ho:OpR X (compareOp op) r)(hp:OpP X.K r f)(ha:QE X a ca)(hb:QE X b cb)(hm:behindInMarks op b=false):QE X (.Compare a [op] [b] pos) (cOp f ca cb):=(xy ho ha hb hm).imp (vo hp)
def aK(c:CE):CT:=fun ρ S=>(c ρ S).bind fun p=>match p.1 with
 |.bl b=>some (b,p.2)
 |_=>none
theorem jS{K:Q1}{c:CE}{t:TE}(h:∀σ H Q,tE K c σ H Q->t σ H Q):∀σ H Q,tT K (aK c) σ H Q->t σ H fun x H'=>∃k,x=.bl k/\Q k H':=by
 rintro σ H Q ⟨m,ρ,S,u,S',sr,lr,hc,post⟩;obtain⟨⟨x,S1⟩,h1,h2⟩:=Q0.mp hc;refine h σ H _ ⟨m,ρ,S,x,S1,sr,lr,h1,fun m1 v1 H1 e1 sr1 i1=>?_⟩;cases x<;>simp at h2;obtain⟨rfl,rfl⟩:=h2;exact⟨_,i1.of_bl,post m1 H1 e1 sr1⟩
theorem bu{op:CmpOp}{r:R2}{f:U->U->Sto->Option (U×Sto)}(ho:OpR X (compareOp op) r)(hp:OpP X.K r f)(ha:QE X a ca)(hb:QE X b cb)(hm:behindInMarks op b=false):QT X (.Compare a [op] [b] pos) (aK (cOp f ca cb)):=(mr ho ha hb hm).imp (jS (vo hp))
theorem jF(h:QE X e ca)(he:∀whole,isTrue e X.env whole=(do let v <-whole;standAt e.pos;holding [v] (truthy v)):=by intro _;rfl):QT X e (aK ca):=(AL h he).imp (jS fun _ _ _ z=>z)
variable{ta tb:CT}{rest:List QC}
def tF(ta tb:CT):CT:=fun ρ S=>(ta ρ S).bind fun p=>if p.1=true then tb ρ p.2 else some (false,p.2)
def cOr(ta tb:CT):CT:=fun ρ S=>(ta ρ S).bind fun p=>if p.1=true then some (true,p.2)else tb ρ p.2
def Gk(ta:CT):CT:=fun ρ S=>(ta ρ S).bind fun p=>some (!p.1,p.2)
def w8(h:QW X e ta):QT X e ta:=WW.pt h
def lS(ha:QT X a ta):QW X (.BoolOp .And [a] pos) ta:=xi ha
def xQ(ha:QT X a ta):QW X (.BoolOp .Or [a] pos) ta:=AJ ha
theorem sJ(ha:QT X a ta)(hb:QW X (.BoolOp .And (b::rest) pos) tb):QW X (.BoolOp .And (a::b::rest) pos) (tF ta tb):=(AK ha hb).imp fun σ H Q hz=>jO hz fun m ρ S u S' sr lr hc post=>by
 obtain⟨⟨x,S1⟩,h1,h2⟩:=Q0.mp hc;refine⟨m,ρ,S,x,S1,sr,lr,h1,fun m1 H1 e1 sr1=>?_⟩;cases x with
 |true=>exact Fh ⟨m1,ρ,S1,u,S',sr1,lr.mono e1,h2,post.mono e1⟩
 |false=>cases h2;exact Fi (post m1 H1 e1 sr1)
theorem Ef(ha:QT X a ta)(hb:QW X (.BoolOp .Or (b::rest) pos) tb):QW X (.BoolOp .Or (a::b::rest) pos) (cOr ta tb):=(DK ha hb).imp fun σ H Q hz=>jO hz fun m ρ S u S' sr lr hc post=>by
 obtain⟨⟨x,S1⟩,h1,h2⟩:=Q0.mp hc;refine⟨m,ρ,S,x,S1,sr,lr,h1,fun m1 H1 e1 sr1=>?_⟩;cases x with
 |true=>cases h2;exact Fh (post m1 H1 e1 sr1)
 |false=>exact Fi ⟨m1,ρ,S1,u,S',sr1,lr.mono e1,h2,post.mono e1⟩
theorem zH(ha:QT X a ta):QT X (.UnaryOp .Not a pos) (Gk ta):=(AM ha).imp fun σ H Q hz=>jO hz fun m ρ S u S' sr lr hc post=>by
 obtain⟨⟨x,S1⟩,h1,h2⟩:=Q0.mp hc;cases h2;exact⟨m,ρ,S,x,_,sr,lr,h1,fun m1 H1 e1 sr1=>post m1 H1 e1 sr1⟩
def yT(ca cb:CE):CE:=fun ρ S=>(ca ρ S).bind fun p=>match p.1 with
 |.bl true=>cb ρ p.2
 |.bl false=>some (.bl false,p.2)
 |_=>none
def Gj(ca cb:CE):CE:=fun ρ S=>(ca ρ S).bind fun p=>match p.1 with
 |.bl false=>cb ρ p.2
 |.bl true=>some (.bl true,p.2)
 |_=>none
def Eg{op}(h:QE X a ca):QE X (.BoolOp op [a] pos) ca:=AX h
theorem Ej(ha:QE X a ca)(hb:QE X (.BoolOp .And (b::rest) pos) cb):QE X (.BoolOp .And (a::b::rest) pos) (yT ca cb):=(A2 ha hb).imp fun σ H Q hz=>jO hz fun m ρ S u S' sr lr hc post=>by
 obtain⟨⟨x,S1⟩,h1,h2⟩:=Q0.mp hc;refine⟨m,ρ,S,x,S1,sr,lr,h1,fun m1 v1 H1 e1 sr1 i1=>?_⟩;cases x with
 |bl k=>
  refine⟨k,i1.of_bl,?_⟩;cases k with
  |true=>exact Fh ⟨m1,ρ,S1,u,S',sr1,lr.mono e1,h2,post.mono e1⟩
  |false=>cases h2;exact Fi (post m1 _ H1 e1 sr1 .bl_)
 |_=>simp at h2
theorem Hx(ha:QE X a ca)(hb:QE X (.BoolOp .Or (b::rest) pos) cb):QE X (.BoolOp .Or (a::b::rest) pos) (Gj ca cb):=(DM ha hb).imp fun σ H Q hz=>jO hz fun m ρ S u S' sr lr hc post=>by
 obtain⟨⟨x,S1⟩,h1,h2⟩:=Q0.mp hc;refine⟨m,ρ,S,x,S1,sr,lr,h1,fun m1 v1 H1 e1 sr1 i1=>?_⟩;cases x with
 |bl k=>
  refine⟨k,i1.of_bl,?_⟩;cases k with
  |false=>exact Fi ⟨m1,ρ,S1,u,S',sr1,lr.mono e1,h2,post.mono e1⟩
  |true=>cases h2;exact Fh (post m1 _ H1 e1 sr1 .bl_)
 |_=>simp at h2
def cIf(t:CT)(ca cb:CE):CE:=fun ρ S=>(t ρ S).bind fun p=>if p.1=true then ca ρ p.2 else cb ρ p.2
variable{es:List QC}{cr:CA}
def aG:CA:=fun _ S=>some ([],S)
def ag(ca:CE)(cr:CA):CA:=fun ρ S=>(ca ρ S).bind fun p=>(cr ρ p.2).bind fun q=>some (p.1::q.1,q.2)
theorem ax:QA X [] aG:=⟨ug.imp fun σ H Q hz=>jO hz fun m ρ S u S' sr lr hc post=>by cases hc;exact post m [] H .refl sr .nil_,fun ρ S us S' h=>by cases h;rfl⟩
theorem ae(ha:QE X e ca)(hr:QA X es cr)(hs:QJ (e::es) X.env=(false,eval e X.env)::QJ es X.env:=by rfl):QA X (e::es) (ag ca cr):=⟨(qG ha hr.h hs).imp fun σ H Q hz=>jO hz fun m ρ S u S' sr lr hc post=>by
 obtain⟨⟨x,S1⟩,h1,h⟩:=Q0.mp hc;obtain⟨⟨y,S2⟩,h2,h3⟩:=Q0.mp h;cases h3;exact⟨m,ρ,S,x,S1,sr,lr,h1,fun m1 v1 H1 e1 sr1 i1=>⟨m1,ρ,S1,y,S2,sr1,lr.mono e1,h2,fun m2 v2 H2 e2 sr2 i2=>post m2 _ H2 (e1.trans e2) sr2 (.cons_ (i1.mono e2) i2)⟩⟩,
 fun ρ S us S' h=>by
 obtain⟨⟨x,S1⟩,h1,h⟩:=Q0.mp h;obtain⟨⟨y,S2⟩,h2,h3⟩:=Q0.mp h;cases h3;simp[hr.len ρ S1 y S2 h2]⟩
def kN(cr:CA):CE:=fun ρ S=>(cr ρ S).bind fun p=>some (.tup p.1,p.2)
def kQ(cr:CA):CE:=fun ρ S=>(cr ρ S).bind fun p=>some (.ref p.2.length,p.2++[.lst p.1])
def dQ{m:List Addr}{S:Sto}{q:Addr}(h:m.length=S.length):(m++[q])[S.length]?=some q:=by rw[Qn (by omega)];simp[h]
theorem jW{K:Q1}{m:List Addr}{H:Hp}{S:Sto}{us:List U}{xs:List V}{Q:VK}{p:Addr}(sr:Sr K m S H)(i:IsL K m H xs us)(post:jv K m H Q (.tup us) S)(hp:H p=none):Q (.ref p) (upd H p (.tup xs)):=
 post m _ _ (.of (bI hp _)) (sr.same (ft hp _)) (.tup_ (SqT.of aA) (i.mono (.of (bI hp _))))
theorem cV{K:Q1}{m:List Addr}{H:Hp}{S:Sto}{us:List U}{xs:List V}{Q:VK}{p:Addr}(sr:Sr K m S H)(i:IsL K m H xs us)(post:jv K m H Q (.ref S.length) (S++[.lst us]))(hp:H p=none):Q (.ref p) (upd H p (.lst xs)):=
 post (m++[p]) _ _ (.new (bI hp _)) (sr.new hp ⟨xs,aA,i.mono (.new (bI hp _))⟩) (.ref_ (dQ sr.len))
theorem fQ{x1}(h:QA X es cr)(hl:es.length<=1000:=by exact Nat.le_of_ble_eq_true rfl):QE X (.Tuple es x1 pos) (kN cr):=(AV h.h).imp fun σ H Q hz=>jO hz fun m ρ S u S' sr lr hc post=>by
 obtain⟨⟨us,S1⟩,h1,h2⟩:=Q0.mp hc;cases h2;refine⟨m,ρ,S,us,_,sr,lr,h1,fun m1 v1 H1 e1 sr1 i1=>⟨nN ?_,fun p hp=>jW sr1 i1 (post.mono e1) hp⟩⟩;rw[i1.length,h.len _ _ _ _ h1];exact hl
theorem iS(h:QA X es cr)(hl:es.length<=1000:=by exact Nat.le_of_ble_eq_true rfl):QE X (.List es pos) (kQ cr):=(AZ h.h).imp fun σ H Q hz=>jO hz fun m ρ S u S' sr lr hc post=>by
 obtain⟨⟨us,S1⟩,h1,h2⟩:=Q0.mp hc;cases h2;refine⟨m,ρ,S,us,_,sr,lr,h1,fun m1 v1 H1 e1 sr1 i1=>⟨nN ?_,fun p hp=>cV sr1 i1 (post.mono e1) hp⟩⟩;rw[i1.length,h.len _ _ _ _ h1];exact hl
def cCB(f:List U->Sto->Option (U×Sto))(cr:CA):CE:=fun ρ S=>(cr ρ S).bind fun p=>f p.1 p.2
def k6(K:Q1)(r:List V->Hp->VK->Prop)(f:List U->Sto->Option (U×Sto)):Prop:=
 ∀m S H us vs u S' Q,Sr K m S H->IsL K m H vs us->f us S=some (u,S')->jv K m H Q u S'->r vs H Q
theorem Af{K:Q1}{r:List V->Hp->VK->Prop}{f:List U->Sto->Option (U×Sto)}(hp:k6 K r f):∀σ H Q,tE K (cCB f cr) σ H Q->tCB r (tA K cr) σ H Q:=by
 rintro σ H Q ⟨m,ρ,S,u,S',sr,lr,hc,post⟩;obtain⟨⟨us,S1⟩,h1,h2⟩:=Q0.mp hc;exact⟨m,ρ,S,us,S1,sr,lr,h1,fun m1 v1 H1 e1 sr1 i1=>hp m1 S1 H1 us v1 u S' Q sr1 i1 h2 (post.mono e1)⟩
theorem bS{id:String}{x:Str}{p:Pos}{r:List V->Hp->VK->Prop}{f:List U->Sto->Option (U×Sto)}(hc:fq X (.builtin id) r)(hp:k6 X.K r f)(hg:Gl X x)(hm:X.mg x=none)(hv:Z7 x=some (.builtin id))(ha:QA X (e::es) cr)(hn:x≠"__name__":=by decide)(hdb:(x == ("__debug__":Str))=false:=by decide)(he:QJ (e::es) X.env=(false,eval e X.env)::QJ es X.env:=by rfl)(hpl:(ZQ pos (QJ es X.env)).any (·.1)=false:=by rfl) :
  QE X (.Call (.Name x p) (e::es) [] pos) (cCB f cr):=(uf hc hg hm hv ha.h hn hdb he hpl).imp (Af hp)
theorem dP{id:String}{x:Str}{p:Pos}{r:List V->Hp->VK->Prop}{f:List U->Sto->Option (U×Sto)}(hc:fq X (.type id) r)(hp:k6 X.K r f)(hg:Gl X x)(hm:X.mg x=none)(hv:Z7 x=some (.type id))(ha:QA X (e::es) cr)(hn:x≠"__name__":=by decide)(hdb:(x == ("__debug__":Str))=false:=by decide)(he:QJ (e::es) X.env=(false,eval e X.env)::QJ es X.env:=by rfl)(hpl:(ZQ pos (QJ es X.env)).any (·.1)=false:=by rfl) :
  QE X (.Call (.Name x p) (e::es) [] pos) (cCB f cr):=(sE hc hg hm hv ha.h hn hdb he hpl).imp (Af hp)
end
def wZ(K:Q1)(f:List U->Sto->Option (U×Sto)):Sp:=fun vs H Q _=>∃m us S u S',IsL K m H vs us/\Sr K m S H/\f us S=some (u,S')/\jv K m H Q u S'
abbrev Fn:=List U->Sto->Option (U×Sto)
abbrev mq(P:Qv)(w:Qe)(K:Q1)(mg:Str->Option Q2)(base:Heap)(x:Str)(k:Nat)(ps:List Str)(f:Fn):Prop:=Has P w K mg base x k ps (wZ K f)
def nM(n:Nat)(us:List U):Rho:=us.map some++QU (n-us.length) none
def fnU(n k:Nat)(c:CS):Fn:=fun us S=>if us.length=k then(c (nM n us) S).bind fun r=>match r.1 with
 |.rt u=>some (u,r.2.2)
 |.nx=>some (.non,r.2.2)
 |_=>none else none
section
variable{P:Qv}{w:Qe}{K:Q1}{mg:Str->Option Q2}{base:Heap}{x:Str}{st:Z0}{ps N:List Str}{k:Nat}{c:CS}{f:Fn}
theorem yr{m:List Addr}{H:Hp}{vs:List V}{us:List U}(i:IsL K m H vs us):Lr K m H (nM N.length us) (L2.iL N vs):=by
 have hl:=i.length;refine⟨by simp[nM,L2.iL,hl],fun j u e=>?_⟩;unfold nM at e;unfold L2.iL;by_cases c:j<us.length
 ·rw[Qt (by simpa using c),Qu]at e;rw[Qt (by simpa [hl] using c),Qu];rw[Q4 c]at e;simp at e;obtain⟨v,e1,e2⟩:=i.getD (Q4 c);rw[e1];subst e;exact⟨v,rfl,e2⟩
 ·rw[Qn (by simpa using c),ZG]at e;split at e<;>cases e
theorem qe{X:Cx}{body:List Z0}{Q:VK}{E:XK}{vs:List V}{H:Hp}(hK:X.K=K)(h:wZ K (fnU N.length ps.length c) vs H Q E):tS X.K c { nx:=fun _ H'=>Q .non H',rt:=Q } (L2.iL N vs) H:=by
 subst hK;obtain⟨m,us,S,u,S',i,sr,hf,post⟩:=h;unfold fnU at hf;split at hf
 ·obtain⟨⟨o,ρ',S2⟩,h1,h2⟩:=Q0.mp hf;refine⟨m,_,S,o,ρ',S2,sr,yr i,h1,?_⟩;cases o with
  |rt v=>cases h2;exact post
  |nx=>cases h2;exact fun m1 σ1 H1 e1 sr1 _=>post m1 _ H1 e1 sr1 .non_
  |bk=>simp at h2
  |ct=>simp at h2
 ·cases hf
theorem my{vs:List V}{H:Hp}{Q:VK}{E:XK}{n k:Nat}(h:wZ K (fnU n k c) vs H Q E):vs.length=k:=by
 obtain⟨m,us,S,u,S',i,sr,hf,post⟩:=h;unfold fnU at hf;split at hf
 ·rename_i e;rw[i.length,e]
 ·cases hf
theorem _root_.OG.Def.pure(d:Def K mg x st ps)(S:aM N ps (aq st))
  (hb:∀(f:Addr) (cdv:Q2) (A:Qa) (outer:List Env) (s:Q3) (H:Hp) (E:XK),dG k (A.deeper (envOfC x (aq st) s.heap.objs.size f cdv))->
   WSs (oX CX0 P w K mg base N x (aq st) f cdv A outer s H E).nox (cI st) (tS K c)):mq P w K mg base x (k+1) ps (fnU N.length ps.length c):=
 d.has S (fun vs H Q E h=>my h) fun f cdv A outer s H vs Q E hr h=>⟨_,hb f cdv A outer s H E hr,qe (X:=(oX CX0 P w K mg base N x (aq st) f cdv A outer s H E).nox) (body:=[]) (ps:=ps) rfl h⟩
theorem dJ{X:Cx}{e:QC}{es:List QC}{cr:CA}{p pos:Pos}(F:Has X.prog X.w X.K X.mg X.base x k ps (wZ X.K f))(hr:dG k X.A)(hg:Gl X x)(ha:QA X (e::es) cr)
  (hdb:(x == ("__debug__":Str))=false:=by decide) (he:QJ (e::es) X.env=(false,eval e X.env)::QJ es X.env:=by rfl) (hpl:(ZQ pos (QJ es X.env)).any (·.1)=false:=by rfl) :
  QE X (.Call (.Name x p) (e::es) [] pos) (cCB f cr):=(DP F hr hg ha.h hdb he hpl).imp fun σ H Q hz=>jO hz fun m ρ S u S' sr lr hc post=>by
 obtain⟨⟨us,S1⟩,h1,h2⟩:=Q0.mp hc;exact⟨m,ρ,S,us,S1,sr,lr,h1,fun m1 v1 H1 e1 sr1 i1=>⟨m1,us,S1,u,S',by simpa using i1,sr1,h2,post.mono e1⟩⟩
end
section
variable{X:Cx}{e a c:QC}{ca cb:CE}{pos:Pos}{st:Z0}{sts:List Z0}{c1 c2:CS}
def bX:CS:=fun ρ S=>some (.nx,ρ,S)
def bq(c1 c2:CS):CS:=fun ρ S=>(c1 ρ S).bind fun r=>match r.1 with
 |.nx=>c2 r.2.1 r.2.2
 |o=>some (o,r.2.1,r.2.2)
theorem bC:QSs X [] bX:=xk.imp fun D σ H hz=>sX hz fun m ρ S o ρ' S' sr lr hc post=>by cases hc;exact post m σ H .refl sr lr
theorem ak(h1:QS X st c1)(h2:QSs X sts c2):QSs X (st::sts) (bq c1 c2):=(tX h1 h2).imp fun D σ H hz=>sX hz fun m ρ S o ρ' S' sr lr hc post=>by
 obtain⟨⟨o1,ρ1,S1⟩,h1,h2⟩:=Q0.mp hc;refine⟨m,ρ,S,o1,ρ1,S1,sr,lr,h1,?_⟩;cases o1 with
 |nx=>exact fun m1 σ1 H1 e1 sr1 lr1=>⟨m1,ρ1,S1,o,ρ',S',sr1,lr1,h2,post.mono e1⟩
 |rt u=>cases h2;exact post
 |bk=>cases h2;exact post
 |ct=>cases h2;exact post
def a6(h1:QS X st c1):QSs X [st] c1:=xj h1
def oE:CS:=fun _ _=>none
def jU:QS X st oE:=tY.imp fun D σ H hz=>sX hz fun m ρ S o ρ' S' sr lr hc post=>by cases hc
def fH(ca:CE):CS:=fun ρ S=>(ca ρ S).bind fun p=>some (.nx,ρ,p.2)
theorem cE(he:QE X e ca)(hs:ZP e none pos.line X.env=pure false:=by rfl):QS X (.Expr e pos) (fH ca):=(xl he hs).imp fun D σ H hz=>sX hz fun m ρ S o ρ' S' sr lr hc post=>by
 obtain⟨⟨u,S1⟩,h1,h2⟩:=Q0.mp hc;cases h2;exact⟨m,ρ,S,u,_,sr,lr,h1,fun m1 v1 H1 e1 sr1 i1=>post m1 σ H1 e1 sr1 (lr.mono e1)⟩
def eC(ca:CE):CS:=fun ρ S=>(ca ρ S).bind fun p=>some (.rt p.1,ρ,p.2)
theorem zF(he:QE X e ca):QS X (.Return (some e) pos) (eC ca):=(AO he).imp fun D σ H hz=>sX hz fun m ρ S o ρ' S' sr lr hc post=>by
 obtain⟨⟨u,S1⟩,h1,h2⟩:=Q0.mp hc;cases h2;exact⟨m,ρ,S,u,_,sr,lr,h1,post⟩
def fg(t:CT)(c1 c2:CS):CS:=fun ρ S=>(t ρ S).bind fun p=>if p.1=true then c1 ρ p.2 else c2 ρ p.2
theorem cg{t:CT}{s1 s2:List Z0}(hc:QT X c t)(h1:QSs X s1 c1)(h2:QSs X s2 c2):QS X (.If c s1 s2 pos) (fg t c1 c2):=(DL hc h1 h2).imp fun D σ H hz=>sX hz fun m ρ S o ρ' S' sr lr hc post=>by
 obtain⟨⟨x,S1⟩,h1,h2⟩:=Q0.mp hc;refine⟨m,ρ,S,x,S1,sr,lr,h1,fun m1 H1 e1 sr1=>?_⟩;cases x with
 |true=>exact Fh ⟨m1,ρ,S1,o,ρ',S',sr1,lr.mono e1,h2,post.mono e1⟩
 |false=>exact Fi ⟨m1,ρ,S1,o,ρ',S',sr1,lr.mono e1,h2,post.mono e1⟩
abbrev CG:=U->Rho->Sto->Option (Rho×Sto)
def tG(K:Q1)(g:CG):TG:=fun v σ H Q=>∃m ρ S u ρ' S',Sr K m S H/\Lr K m H ρ σ/\Is K m H v u/\g u ρ S=some (ρ',S')/\gS K m H Q ρ' S'
abbrev QG(X:Cx)(e:QC)(g:CG):Prop:=WG X e (tG X.K g)
def gNm(i:Nat):CG:=fun u ρ S=>some (ρ.set i (some u),S)
theorem bH{i:Nat}(h:WG X e (sW i)):QG X e (gNm i):=h.imp fun v σ H Q hz=>Js hz fun m ρ S u ρ' S' sr lr iu hc post=>by
 cases hc;exact post m _ H .refl sr (lr.set i iu)
def fP:List Nat->List U->Rho->Option Rho
 |[],[],ρ=>some ρ
 |i::is,u::us,ρ=>fP is us (ρ.set i (some u))
 |_,_,_=>none
def tGs(K:Q1)(is:List Nat):TGs:=fun vs σ H Q=>∃m ρ S us ρ',Sr K m S H/\Lr K m H ρ σ/\IsL K m H vs us/\fP is us ρ=some ρ'/\gS K m H Q ρ' S
abbrev QGs(X:Cx)(es:List QC)(is:List Nat):Prop:=WGs X es (tGs X.K is)
theorem pK:QGs X [] []:=xq.imp fun v σ H Q ⟨m,ρ,S,us,ρ',sr,lr,iu,hc,post⟩=>by
 cases us with
 |nil=>cases hc;exact⟨iu.of_nil,post m σ H .refl sr lr⟩
 |cons a r=>simp[fP]at hc
theorem gK{i:Nat}{is:List Nat}{es:List QC}(h:WG X e (sW i))(h2:QGs X es is)(hs:(assignEach (e::es) X.env).map (·.2)=assign e X.env::(assignEach es X.env).map (·.2):=by rfl):QGs X (e::es) (i::is):=(t9 h h2 hs).imp fun v σ H Q ⟨m,ρ,S,us,ρ',sr,lr,iu,hc,post⟩=>by
 cases us with
 |nil=>simp[fP]at hc
 |cons u r=>
  obtain⟨x,xr,rfl,i1,i2⟩:=iu.of_cons;exact⟨x,xr,rfl,m,ρ.set i (some u),S,r,ρ',sr,lr.set i i1,i2,hc,post⟩
def gTp(is:List Nat):CG:=fun u ρ S=>match u with
 |.tup us=>(fP is us ρ).bind fun ρ'=>some (ρ',S)
 |_=>none
theorem lQ:∀{is:List Nat} {us:List U} {ρ ρ':Rho},fP is us ρ=some ρ'->us.length=is.length
 |[],[],_,_,_=>rfl
 |[],_::_,_,_,h=>by simp[fP]at h
 |_::_,[],_,_,h=>by simp[fP]at h
 |i::is,u::us,ρ,ρ',h=>by
  have:=lQ (is:=is) (us:=us) h;simp[this]
theorem uM{is:List Nat}{es:List QC}{k:Nat}(hc:X.calm=true)(h:QGs X es is)(hn:(assignEach es X.env).length=is.length:=by rfl)(hst:(assignEach es X.env).findIdx? (·.1)=none:=by rfl):QG X (.Tuple es k pos) (gTp is):=(AS hc h hn hst).imp fun v σ H Q hz=>Js hz fun m ρ S u ρ' S' sr lr iu hc post=>by
 cases u with
 |tup us=>
  obtain⟨ρ2,h1,h2⟩:=Q0.mp hc;cases h2;obtain⟨a,xs,rfl,sq,il⟩:=iu.of_tup;refine⟨a,xs,rfl,sq,?_,m,ρ,S,us,ρ',sr,lr,il,h1,post⟩;rw[il.length];exact lQ h1
 |_=>simp[gTp]at hc
def FJ(ca:CE)(g:CG):CS:=fun ρ S=>(ca ρ S).bind fun p=>(g p.1 ρ p.2).bind fun q=>some (.nx,q.1,q.2)
theorem CH{K:Q1}{g:CG}:∀D σ H,tS K (FJ ca g) D σ H->D6 (tE K ca) (tG K g) D σ H:=by
 rintro D σ H ⟨m,ρ,S,o,ρ',S',sr,lr,hc,post⟩;obtain⟨⟨u,S1⟩,h1,h2⟩:=Q0.mp hc;obtain⟨⟨ρ2,S2⟩,h3,h4⟩:=Q0.mp h2;cases h4;exact⟨m,ρ,S,u,S1,sr,lr,h1,fun m1 v1 H1 e1 sr1 i1=>⟨m1,ρ,S1,u,_,_,sr1,lr.mono e1,i1,h3,gS.mono e1 post⟩⟩
theorem zG{tg:QC}{g:CG}(he:QE X e ca)(hg:QG X tg g)(hs:swapsWithSole [tg] e pos.line X.env=pure false:=by rfl)(hw:swappedStores [tg] e X.env=pure none:=by rfl)
  (h1:(assignEach [tg] X.env).map (·.2)=[assign tg X.env]:=by rfl):QS X (.Assign [tg] e pos) (FJ ca g):=(t7 he hg hs hw h1).imp CH
def eI(i:Nat)(ca:CE):CS:=fun ρ S=>(ca ρ S).bind fun p=>some (.nx,ρ.set i (some p.1),p.2)
theorem Ed{i:Nat}{x:Str}{pos':Pos}(hN:X.N.Nodup)(hi:X.N[i]?=some x)(hx:Loc X.env.scope x)(he:QE X e ca)(hs:ZP e (some (.Name x pos')) pos.line X.env=pure false:=by rfl)(hf:X.fn x=true\/X.env.scope.names.lookup x=some .local:=by first|exact .inl rfl|exact .inr rfl|assumption) :
  QS X (.Assign [.Name x pos'] e pos) (eI i ca):=(AN hN hi hx he hs hf).imp fun D σ H hz=>sX hz fun m ρ S o ρ' S' sr lr hc post=>by
 obtain⟨⟨u,S1⟩,h1,h2⟩:=Q0.mp hc;cases h2;exact⟨m,ρ,S,u,_,sr,lr,h1,fun m1 v1 H1 e1 sr1 i1=>post m1 _ H1 e1 sr1 ((lr.mono e1).set i i1)⟩
abbrev CI:=Rho->Sto->Option (List U×(Sto->Prop)×Sto)
def za(K:Q1)(J:It)(m:List Addr)(H:Hp)(us:List U)(ok:Sto->Prop):Prop:=∀m2 S2 H2 i,Ext K m H m2 H2->Sr K m2 S2 H2->ok S2->
 (∀u,us[i]?=some u->J.go i H2/\∀x H3,J.yld i H2 x H3->Ext K m2 H2 m2 H3/\Sr K m2 S2 H3/\Is K m2 H3 x u)/\(us.length<=i->J.stop i H2)
def tI(K:Q1)(ci:CI):TI:=fun σ H R=>∃m ρ S us ok S',Sr K m S H/\Lr K m H ρ σ/\ci ρ S=some (us,ok,S')/\∀m' H' J,Ext K m H m' H'->Sr K m' S' H'->za K J m' H' us ok->R J H'
abbrev QI(X:Cx)(tg iter:QC)(ci:CI):Prop:=WI X tg iter (tI X.K ci)
open Classical in
def dD(ok:Sto->Prop)(g:CG)(cb:CS):List U->CS
 |[]=>fun ρ S=>if ok S then some (.nx,ρ,S)else none
 |u::us=>fun ρ S=>if ok S then(g u ρ S).bind fun p=>(cb p.1 p.2).bind fun r=>match r.1 with
  |.nx=>dD ok g cb us r.2.1 r.2.2
  |.ct=>dD ok g cb us r.2.1 r.2.2
  |.bk=>some (.nx,r.2.1,r.2.2)
  |.rt v=>some (.rt v,r.2.1,r.2.2)else none
def kR(ci:CI)(g:CG)(cb:CS):CS:=fun ρ S=>(ci ρ S).bind fun p=>dD p.2.1 g cb p.1 ρ p.2.2
theorem kH{α:Type}{us:List α}{i:Nat}{u:α}(h:us[i]?=some u):us.drop i=u::us.drop (i+1):=by
 obtain⟨hl,e⟩:=Q6.mp h;rw[List.drop_eq_getElem_cons hl,e]
theorem rp{K:Q1}{g:CG}{cb:CS}{J:It}{us:List U}{ok:Sto->Prop}{D:xg}{m1:List Addr}{H1:Hp}{ρ ρ':Rho}{σ:L2.St}{S1 S':Sto}{o:Out}(sr1:Sr K m1 S1 H1)(lr1:Lr K m1 H1 ρ σ)(ito:za K J m1 H1 us ok)(h2:dD ok g cb us ρ S1=some (o,ρ',S'))(post:tw K m1 H1 D o ρ' S') :
  ∃W:Nat->Nat->L2.St->Hp->Prop,(∃n,W 0 n σ H1)/\∀i n σ H,W i n σ H->
   (J.stop i H/\D.nx σ H)\/(J.go i H/\∃N:L2.St->Hp->Prop,(∀σ' H',N σ' H'->∃n',n'<n/\W (i+1) n' σ' H')/\∀x H',J.yld i H x H'->tG K g x σ H' fun σ2 H2=>tS K cb { D with nx:=N,ct:=N,bk:=D.nx } σ2 H2):=by
 let W:Nat->Nat->L2.St->Hp->Prop:=fun i n σ2 H2=>n=us.length-i/\i<=us.length/\∃m2 ρ2 S2,Ext K m1 H1 m2 H2/\Sr K m2 S2 H2/\Lr K m2 H2 ρ2 σ2/\dD ok g cb (us.drop i) ρ2 S2=some (o,ρ',S')
 refine⟨W,⟨us.length,by simp,Z6 _,m1,ρ,S1,.refl,sr1,lr1,by simpa using h2⟩,?_⟩;rintro i n σ2 H2 ⟨rfl,hi,m2,ρ2,S2,e2,sr2,lr2,hl⟩;by_cases hlt:i<us.length
 ·have hu:=Q4 hlt;rw[kH hu]at hl;unfold dD at hl;split at hl
  ·rename_i hok;obtain⟨⟨ρ3,S3⟩,h3,hl⟩:=Q0.mp hl;obtain⟨⟨o4,ρ4,S4⟩,h4,hl⟩:=Q0.mp hl;obtain⟨hgo,hy⟩:=(ito m2 S2 H2 i e2 sr2 hok).1 _ hu;refine .inr ⟨hgo,W (i+1) (us.length-(i+1)),fun σ' H' w'=>⟨_,by omega,w'⟩,fun x H3 y=>?_⟩;obtain⟨e3,sr3,ix⟩:=hy x H3 y;refine⟨m2,ρ2,S2,_,ρ3,S3,sr3,lr2.mono e3,ix,h3,fun m4 σ4 H4 e4 sr4 lr4=>⟨m4,ρ3,S3,o4,ρ4,S4,sr4,lr4,h4,?_⟩⟩;have e14:=(e2.trans e3).trans e4;have nxt:dD ok g cb (us.drop (i+1)) ρ4 S4=some (o,ρ',S')->gS K m4 H4 (W (i+1) (us.length-(i+1))) ρ4 S4:=fun hn m5 σ5 H5 e5 sr5 lr5=>⟨rfl,hlt,m5,ρ4,S4,e14.trans e5,sr5,lr5,hn⟩;cases o4 with
   |nx=>exact nxt hl
   |ct=>exact nxt hl
   |bk=>cases hl;exact gS.mono e14 post
   |rt v=>cases hl;exact jv.mono e14 post
  ·cases hl
 ·have e:i=us.length:=by omega
  subst e;rw[List.drop_length]at hl;unfold dD at hl;split at hl
  ·rename_i hok;cases hl;exact .inl ⟨(ito m2 _ H2 _ e2 sr2 hok).2 (Q8 _),post m2 σ2 H2 e2 sr2 lr2⟩
  ·cases hl
theorem Cn{K:Q1}{ci:CI}{g:CG}{cb:CS}:∀D σ H,tS K (kR ci g cb) D σ H->FZ (tI K ci) (tG K g) (tS K cb) D σ H:=by
 rintro D σ H ⟨m,ρ,S,o,ρ',S',sr,lr,hc,post⟩;obtain⟨⟨us,ok,S1⟩,h1,h2⟩:=Q0.mp hc;exact⟨m,ρ,S,us,ok,S1,sr,lr,h1,fun m1 H1 J e1 sr1 ito=>rp sr1 (lr.mono e1) ito h2 (tw.mono e1 post)⟩
theorem gm{tg iter:QC}{body:List Z0}{ci:CI}{g:CG}{cb:CS}(hp:PassesOwn (Qj X.prog X.w) X.A X.env X.xe)(hc:X.calm=true)(hi:QI X tg iter ci)(hg:QG X tg g)(hb:QSs X body cb)(hs:∀x,foldedSetIterable iter X.env x=pure x:=by intro _;rfl):QS X (.For tg iter body [] pos) (kR ci g cb):=(tZ hp hc hi hg hb hs).imp Cn
def iTp(ca:CE):CI:=fun ρ S=>(ca ρ S).bind fun p=>match p.1 with
 |.tup us=>some (us,fun _=>True,p.2)
 |.ref l=>match p.2[l]? with
  |some (.lst us)=>some (us,fun S=>S[l]?=some (.lst us),p.2)
  |_=>none
 |_=>none
theorem Fj{K:Q1}{m:List Addr}{H:Hp}{us:List U}{a:Addr}{xs:List V}(sq:SqT K H a xs)(il:IsL K m H xs us):za K (Itt K a) m H us (fun _=>True):=by
 intro m2 S2 H2 i e2 sr2 _;have sq2:=e2.keep.t _ _ sq;have il2:=il.mono e2;refine⟨fun u hu=>?_,fun hi=>⟨xs,sq2,by rw[il2.length];exact hi⟩⟩;obtain⟨x,hx,ix⟩:=il2.getD hu;refine⟨⟨xs,x,sq2,hx⟩,fun y H3 hy=>?_⟩;obtain⟨rfl,hy⟩:=hy;have:=hy xs sq2;rw[hx]at this;cases this;exact⟨.refl,sr2,ix⟩
theorem Fl{K:Q1}{m:List Addr}{H:Hp}{us:List U}{a:Addr}{l:Nat}(hl:m[l]?=some a):za K (Itl K a) m H us (fun S=>S[l]?=some (.lst us)):=by
 intro m2 S2 H2 i e2 sr2 hok;obtain⟨a',ha',xs,hx,il⟩:=sr2.get hok;rw[e2.get hl]at ha';cases ha';refine⟨fun u hu=>?_,fun hi=>⟨xs,SqL.of hx,by rw[il.length];exact hi⟩⟩;obtain⟨x,hx',ix⟩:=il.getD hu;refine⟨⟨xs,x,SqL.of hx,hx'⟩,fun y H3 hy=>?_⟩;obtain⟨rfl,hy⟩:=hy;have:=hy xs (SqL.of hx);rw[hx']at this;cases this;exact⟨.refl,sr2,ix⟩
theorem jE{tg:QC}(h:QE X e ca):QI X tg e (iTp ca):=((AR h).or (xp h)).imp fun σ H R hz=>sX hz fun m ρ S us ok S' sr lr hc post=>by
 obtain⟨⟨u,S1⟩,h1,h2⟩:=Q0.mp hc;cases u with
 |tup ws=>
  cases h2;refine .inl ⟨m,ρ,S,.tup us,_,sr,lr,h1,fun m1 v1 H1 e1 sr1 i1=>?_⟩;obtain⟨a,xs,rfl,sq,il⟩:=i1.of_tup;exact⟨a,rfl,⟨xs,sq⟩,post m1 H1 _ e1 sr1 (Fj sq il)⟩
 |ref l=>
  simp only at h2;split at h2
  ·rename_i us' hS;cases h2;refine .inr ⟨m,ρ,S,.ref l,_,sr,lr,h1,fun m1 v1 H1 e1 sr1 i1=>?_⟩;obtain⟨a,hl,rfl⟩:=i1.of_ref;obtain⟨a',ha',xs,hx,il⟩:=sr1.get hS;rw[hl]at ha';cases ha';exact⟨a,rfl,⟨xs,SqL.of hx⟩,post m1 H1 _ e1 sr1 (Fl hl)⟩
  ·cases h2
 |_=>simp at h2
def fi(lo:Int)(n:Nat):List U:=(Qz n).map fun i=>.int (lo+(i:Nat))
theorem yB{K:Q1}{m:List Addr}{H:Hp}{lo:Int}{n:Nat}:za K (Itr lo n) m H (fi lo n) (fun _=>True):=by
 intro m2 S2 H2 i e2 sr2 _;refine⟨fun u hu=>?_,fun hi=>by show n<=i;simpa [fi] using hi⟩;unfold fi at hu;rw[Qu]at hu;by_cases c:i<n
 ·rw[List.getElem?_range c]at hu;simp at hu;subst hu;refine⟨c,fun y H3 hy=>?_⟩;obtain⟨rfl,rfl⟩:=hy;exact⟨.refl,sr2,.int_⟩
 ·rw[ZD (by simpa using c)]at hu;cases hu
def bU(cr:CA):CI:=fun ρ S=>(cr ρ S).bind fun p=>match p.1 with
 |[.int j]=>if -(2^62)<=j/\j<2^62 then some (fi 0 j.toNat,fun _=>True,p.2)else none
 |_=>none
theorem fj{tg:QC}{cr:CA}{p:Pos}(hg:Gl X "range")(hm:X.mg "range"=none)(ha:QA X [a] cr)(hs:QJ [a] X.env=[(false,eval a X.env)]:=by rfl):QI X tg (.Call (.Name "range" p) [a] [] pos) (bU cr):=(sC hg hm ha.h hs).imp fun σ H R hz=>sX hz fun m ρ S us ok S' sr lr hc post=>by
 obtain⟨⟨ws,S1⟩,h1,h2⟩:=Q0.mp hc;simp only at h2;split at h2
 ·rename_i j;split at h2
  ·rename_i hj;cases h2;refine⟨m,ρ,S,_,S',sr,lr,h1,fun m1 v1 H1 e1 sr1 i1=>?_⟩;obtain⟨x,r,rfl,ix,ir⟩:=i1.of_cons;rw[ir.of_nil,ix.of_int];exact⟨j,rfl,hj.1,hj.2,post m1 H1 _ e1 sr1 yB⟩
  ·cases h2
 ·cases h2
end
def fI(g:Int->Int->Option U):U->U->Sto->Option (U×Sto)
 |.int i,.int j,S=>(g i j).bind fun u=>some (u,S)
 |_,_,_=>none
section
variable{X:Cx}{K:Q1}
theorem HJ{C:Int->Int->Prop}{gV:Int->Int->V}{g:Int->Int->Option U}(h:∀i j u,g i j=some u->C i j/\∀m H,Is K m H (gV i j) u):OpP K (rI C gV) (fI g):=by
 intro m S H x y v w u S' Q sr ix iy hf post;cases x<;>cases y<;>simp only[fI]at hf<;>try cases hf
 rename_i i j;obtain⟨u1,h1,h2⟩:=Q0.mp hf;cases h2;obtain⟨hc,hi⟩:=h i j u h1;exact⟨i,j,ix.of_int,iy.of_int,hc,post m _ H .refl sr (hi m H)⟩
theorem BQ{gV:Int->Int->V}{g:Int->Int->Option U}(h:∀i j u,g i j=some u->∀m H,Is K m H (gV i j) u):OpP K (rI0 gV) (fI g):=by
 intro m S H x y v w u S' Q sr ix iy hf post;cases x<;>cases y<;>simp only[fI]at hf<;>try cases hf
 rename_i i j;obtain⟨u1,h1,h2⟩:=Q0.mp hf;cases h2;exact⟨i,j,ix.of_int,iy.of_int,post m _ H .refl sr (h i j u h1 m H)⟩
def xN(K:Q1):R2:=fun x y H Q=>∃a b xs ys,x=.ref a/\y=.ref b/\SqT K H a xs/\SqT K H b ys/\xs.length+ys.length<=QD/\∀q H',Aj H H'->SqT K H' q (xs++ys)->Q (.ref q) H'
theorem BZ:OpR X (binaryOp .Add) (xN X.K):=by
 intro pins s σ H x y v u Q I rx ry h;obtain⟨a,b,xs,ys,rfl,rfl,ha,hb,hz,q⟩:=h;by_cases e:xs=[]
 ·cases rx;cases ry;obtain⟨its,r1,p1,_⟩:=I.tuple ha;obtain⟨its2,r2,p2,_⟩:=I.tuple hb;refine yS p1 p2 (r1.nil_iff.mpr e) ⟨.ref b,H,I,rfl,q b H (.refl _) (by rw[e];exact hb)⟩
 ·refine BY pins s σ H _ _ v u Q I rx ry ⟨a,b,xs,ys,rfl,rfl,ha,hb,e,hz,fun z=>q a H (.refl _) (by rw[z,Qc];exact ha),fun _ p hp=>q p _ (ft hp _) (SqT.of aA)⟩
def v8:U->U->Sto->Option (U×Sto)
 |.tup a,.tup b,S=>if a.length+b.length<=LIM then some (.tup (a++b),S)else none
 |_,_,_=>none
theorem yg:OpP K (xN K) v8:=by
 intro m S H x y v w u S' Q sr ix iy hf post;cases x<;>cases y<;>simp only[v8]at hf<;>try cases hf
 split at hf<;>try cases hf
 rename_i hl;obtain⟨a,xs,rfl,sa,la⟩:=ix.of_tup;obtain⟨b,ys,rfl,sb,lb⟩:=iy.of_tup;refine⟨a,b,xs,ys,rfl,rfl,sa,sb,lim (by rw[la.length,lb.length];exact hl),fun q H' s sq=>?_⟩;exact post m _ H' (.of (cu s)) (sr.same s) (.tup_ sq ((la.append lb).mono (.of (cu s))))
def qh:U->U->Sto->Option (U×Sto)
 |.ref l,.ref k,S=>match S[l]?,S[k]? with
  |some (.lst a),some (.lst b)=>if a.length+b.length<=LIM then some (.ref S.length,S++[.lst (a++b)])else none
  |_,_=>none
 |_,_,_=>none
theorem yi:OpP K F0 qh:=by
 intro m S H x y v w u S' Q sr ix iy hf post;cases x<;>cases y<;>simp only[qh]at hf<;>try cases hf
 rename_i l k;split at hf<;>try cases hf
 rename_i a b h1 h2;split at hf<;>try cases hf
 rename_i hl;obtain⟨p,hp,rfl⟩:=ix.of_ref;obtain⟨q,hq,rfl⟩:=iy.of_ref;obtain⟨p',hp',xs,hx,il⟩:=sr.get h1;obtain⟨q',hq',ys,hy,il'⟩:=sr.get h2;rw[hp]at hp';cases hp';rw[hq]at hq';cases hq';exact⟨p,q,xs,ys,rfl,rfl,hx,hy,lim (by rw[il.length,il'.length];exact hl),fun r hr=>cV sr (il.append il') post hr⟩
def wa:U->U->Sto->Option (U×Sto)
 |.str a,.str b,S=>if a.length+b.length<=LIM then some (.str (a++b),S)else none
 |_,_,_=>none
theorem yh:OpP K (fun x y H Q=>∃i j,x=.str i/\y=.str j/\i.length+j.length<=QD/\Q (.str (i++j)) H) wa:=by
 intro m S H x y v w u S' Q sr ix iy hf post;cases x<;>cases y<;>simp only[wa]at hf<;>try cases hf
 split at hf<;>try cases hf
 rename_i hl;exact⟨_,_,ix.of_str,iy.of_str,lim hl,post m _ H .refl sr .str_⟩
def l7:U->U->Sto->Option (U×Sto)
 |.int i,.int j,S=>some (.int (i+j),S)
 |.tup a,.tup b,S=>if a.length+b.length<=LIM then some (.tup (a++b),S)else none
 |.str a,.str b,S=>if a.length+b.length<=LIM then some (.str (a++b),S)else none
 |.ref l,.ref k,S=>qh (.ref l) (.ref k) S
 |_,_,_=>none
theorem ke:OpR X (binaryOp .Add) (fun x y H Q=>rI0 (fun i j=>.int (i+j)) x y H Q\/(F0 x y H Q\/(xN X.K x y H Q\/∃i j,x=.str i/\y=.str j/\i.length+j.length<=QD/\Q (.str (i++j)) H))):=EU.or (ET.or (BZ.or sN))
theorem kb:OpP K (fun x y H Q=>rI0 (fun i j=>.int (i+j)) x y H Q\/(F0 x y H Q\/(xN K x y H Q\/∃i j,x=.str i/\y=.str j/\i.length+j.length<=QD/\Q (.str (i++j)) H))) l7:=by
 intro m S H x y v w u S' Q sr ix iy hf post;cases x<;>cases y<;>simp only[l7]at hf<;>try cases hf
 ·exact .inl ⟨_,_,ix.of_int,iy.of_int,post m _ H .refl sr .int_⟩
 ·exact .inr (.inr (.inr (yh m S H _ _ v w u S' Q sr ix iy hf post)))
 ·exact .inr (.inr (.inl (yg m S H _ _ v w u S' Q sr ix iy hf post)))
 ·exact .inr (.inl (yi m S H _ _ v w u S' Q sr ix iy hf post))
instance {i j:Int}:Decidable (wX i j):=by unfold wX;exact inferInstance
def mY:=fI fun i j=>if wX i j then some (.int (i*j))else none
theorem pN:OpP K (rI wX fun i j=>.int (i*j)) mY:=HJ fun i j u h=>by
 split at h
 ·rename_i c;cases h;exact⟨c,fun m H=>.int_⟩
 ·cases h
instance {i j:Int}:Decidable (tD i j):=by unfold tD;exact inferInstance
def zW:=fI fun i j=>if tD i j then some (.int (i / j))else none
theorem EN:OpP K (rI tD fun i j=>.int (i / j)) zW:=HJ fun i j u h=>by
 split at h
 ·rename_i c;cases h;exact⟨c,fun m H=>.int_⟩
 ·cases h
def lJ:=fI fun i j=>if 0<j then some (.int (i % j))else none
theorem nV:OpP K (rI (fun _ j=>0<j) fun i j=>.int (i % j)) lJ:=HJ fun i j u h=>by
 split at h
 ·rename_i c;cases h;exact⟨c,fun m H=>.int_⟩
 ·cases h
instance {i j:Int}:Decidable (Jy i j):=by unfold Jy;exact inferInstance
def fLt:=fI fun i j=>some (.bl (decide (i<j)))
def fLe:=fI fun i j=>some (.bl (decide (i<=j)))
def fGt:=fI fun i j=>some (.bl (decide (j<i)))
def fGe:=fI fun i j=>some (.bl (decide (j<=i)))
def EM:OpP K (rI0 fun i j=>.bl (decide (i<j))) fLt:=BQ fun i j u h m H=>by cases h;exact .bl_
def JU:OpP K (rI0 fun i j=>.bl (decide (i<=j))) fLe:=BQ fun i j u h m H=>by cases h;exact .bl_
def HN:OpP K (rI0 fun i j=>.bl (decide (j<i))) fGt:=BQ fun i j u h m H=>by cases h;exact .bl_
def eqS:U->U->Option Bool
 |.int i,.int j=>some (decide (i=j))
 |.bl i,.bl j=>some (decide (i=j))
 |.str i,.str j=>some (decide (i=j))
 |.non,.non=>some true
 |.non,.int _=>some false|.int _,.non=>some false
 |.non,.bl _=>some false|.bl _,.non=>some false
 |.non,.str _=>some false|.str _,.non=>some false
 |.int _,.str _=>some false|.str _,.int _=>some false
 |.bl _,.str _=>some false|.str _,.bl _=>some false
 |_,_=>none
def fEq:U->U->Sto->Option (U×Sto):=fun x y S=>(eqS x y).bind fun b=>some (.bl b,S)
def fNe:U->U->Sto->Option (U×Sto):=fun x y S=>(eqS x y).bind fun b=>some (.bl (!b),S)
theorem z0{m:List Addr}{H:Hp}{x y:U}{v w:V}{b:Bool}(ix:Is K m H v x)(iy:Is K m H w y)(h:eqS x y=some b):Hr v w=true/\decide (v=w)=b:=by
 cases x<;>cases y<;>simp only[eqS]at h<;>(first|cases h|skip);all_goals
  (first|(have e1:=ix.of_int)|(have e1:=ix.of_bl)|(have e1:=ix.of_str)|(have e1:=ix.of_non))
  (first|(have e2:=iy.of_int)|(have e2:=iy.of_bl)|(have e2:=iy.of_str)|(have e2:=iy.of_non))
  subst e1 e2;exact⟨rfl,by simp⟩
theorem pQ:OpP K rEq fEq:=by
 intro m S H x y v w u S' Q sr ix iy hf post;obtain⟨b,h1,h2⟩:=Q0.mp hf;cases h2;obtain⟨e1,e2⟩:=z0 ix iy h1;exact⟨e1,by rw[e2];exact post m _ H .refl sr .bl_⟩
theorem F7:OpP K rNe fNe:=by
 intro m S H x y v w u S' Q sr ix iy hf post;obtain⟨b,h1,h2⟩:=Q0.mp hf;cases h2;obtain⟨e1,e2⟩:=z0 ix iy h1;exact⟨e1,by rw[e2];exact post m _ H .refl sr .bl_⟩
def pZ:U->Bool
 |.non=>true
 |_=>false
def Co:U->U->Sto->Option (U×Sto)
 |x,.non,S=>some (.bl (pZ x),S)
 |_,_,_=>none
def yH:U->U->Sto->Option (U×Sto)
 |x,.non,S=>some (.bl (!pZ x),S)
 |_,_,_=>none
theorem rK{m:List Addr}{H:Hp}{x:U}{v:V}(ix:Is K m H v x):decide (v=.non)=pZ x:=by
 cases x with
 |non=>rw[ix.of_non];rfl
 |bl b=>rw[ix.of_bl];rfl
 |int i=>rw[ix.of_int];rfl
 |str i=>rw[ix.of_str];rfl
 |tup us=>obtain⟨a,xs,rfl,_⟩:=ix.of_tup;rfl
 |ref l=>obtain⟨a,_,rfl⟩:=ix.of_ref;rfl
 |kl ns=>obtain⟨a,rfl,_⟩:=ix.of_kl;rfl
theorem BS:OpP K (fun x y H Q=>y=.non/\Q (.bl (decide (x=.non))) H) Co:=by
 intro m S H x y v w u S' Q sr ix iy hf post;cases y<;>simp only[Co]at hf<;>cases hf;exact⟨iy.of_non,by rw[rK ix];exact post m _ H .refl sr .bl_⟩
theorem EK:OpP K (fun x y H Q=>y=.non/\Q (.bl (!decide (x=.non))) H) yH:=by
 intro m S H x y v w u S' Q sr ix iy hf post;cases y<;>simp only[yH]at hf<;>cases hf;exact⟨iy.of_non,by rw[rK ix];exact post m _ H .refl sr .bl_⟩
section
variable{κ:Type}[DecidableEq κ]
def aJ{α:Type}(kvs:List (κ×α))(k:κ):Option α:=(kvs.find? fun kv=>decide (kv.1=k)).map (·.2)
def cQ{α:Type}(kvs:List (κ×α))(k:κ)(v:α):List (κ×α):=
 if (kvs.any fun kv=>decide (kv.1=k))=true then kvs.map (fun kv=>if kv.1=k then(kv.1,v)else kv)else kvs++[(k,v)]
variable{m:List Addr}{H:Hp}{kvs:List (κ×V)}{kus:List (κ×U)}{k:κ}{v:V}{u:U}
theorem IsP.val(h:IsP K m H kvs kus):Rf K m H (gP kvs k) (aJ kus k):=by
 refine IsP.ind (P:=fun kvs kus=>Rf K m H (gP kvs k) (aJ kus k)) trivial (fun k' v u kvs kus i _ ih=>?_) h;by_cases e:k'=k
 ·subst e;simp[gP,aJ,Qd,Rf,i]
 ·simp only[gP,aJ,Qd,decide_eq_false e]at ih ⊢;exact ih
theorem IsP.any_(h:IsP K m H kvs kus):(kvs.any fun kv=>decide (kv.1=k))=(kus.any fun kv=>decide (kv.1=k)):=
 IsP.ind (P:=fun kvs kus=>(kvs.any fun kv=>decide (kv.1=k))=(kus.any fun kv=>decide (kv.1=k))) rfl (fun k' v u kvs kus i _ ih=>by simp only[ZH,ih]) h
theorem IsP.append{kvs':List (κ×V)}{kus':List (κ×U)}(h:IsP K m H kvs kus)(h':IsP K m H kvs' kus'):IsP K m H (kvs++kvs') (kus++kus'):=⟨by simp[h.1,h'.1],by simpa using h.2.append h'.2⟩
theorem IsP.put(h:IsP K m H kvs kus)(i:Is K m H v u):IsP K m H (nz kvs k v) (cQ kus k u):=by
 unfold nz cQ;rw[h.any_];split
 ·refine IsP.ind (P:=fun kvs kus=>IsP K m H (kvs.map fun kv=>if kv.1=k then(kv.1,v)else kv) (kus.map fun kv=>if kv.1=k then(kv.1,u)else kv)) .nil_ (fun k' v' u' kvs kus i' _ ih=>?_) h;simp only[QN];by_cases e:k'=k
  ·simp only[e,if_true];exact .cons_ i ih
  ·simp only[e,if_false];exact .cons_ i' ih
 ·exact h.append (.cons_ i .nil_)
end
def jJ:U->Option Key
 |.int i=>some (.inl i)
 |.str x=>some (.inr x)
 |_=>none
theorem ic{m:List Addr}{H:Hp}{x:U}{v:V}{k:Key}(ix:Is K m H v x)(h:jJ x=some k):v=kV k:=by
 cases x<;>simp only[jJ]at h<;>cases h
 ·exact ix.of_int
 ·exact ix.of_str
def iZ:U->Bool
 |.non=>true|.bl _=>true|.int _=>true|.str _=>true|_=>false
def eqF:U->U->Bool
 |.non,.non=>true
 |.bl a,.bl b=>a == b
 |.bl a,.int b=>(if a then 1 else 0) == b
 |.int a,.bl b=>a == (if b then 1 else 0)
 |.int a,.int b=>a == b
 |.str a,.str b=>a == b
 |_,_=>false
def inU(x:U)(us:List U):Bool:=us.any fun y=>eqF y x
theorem qg{m:List Addr}{H:Hp}{x:U}{v:V}(ix:Is K m H v x)(h:iZ x=true):lI v=true:=by
 cases x with
 |non=>rw[ix.of_non];rfl
 |bl b=>rw[ix.of_bl];rfl
 |int i=>rw[ix.of_int];rfl
 |str i=>rw[ix.of_str];rfl
 |tup us=>cases h
 |ref l=>cases h
 |kl l=>cases h
theorem FC{m:List Addr}{H:Hp}{x y:U}{v w:V}(ix:Is K m H v x)(iy:Is K m H w y)(hx:iZ x=true)(hy:iZ y=true):eqV v w=eqF x y:=by
 cases x<;>(first|cases hx|skip)<;>cases y<;>(first|cases hy|skip);all_goals
  (first|(have e1:=ix.of_int)|(have e1:=ix.of_bl)|(have e1:=ix.of_str)|(have e1:=ix.of_non))
  (first|(have e2:=iy.of_int)|(have e2:=iy.of_bl)|(have e2:=iy.of_str)|(have e2:=iy.of_non))
  subst e1 e2;rfl
theorem mX{m:List Addr}{H:Hp}:∀{xs:List V} {us:List U},IsL K m H xs us->us.all iZ=true->xs.all lI=true
 |xs,[],h,_=>by rw[h.of_nil];rfl
 |xs,u::us,h,k=>by
  obtain⟨x,r,rfl,i,t⟩:=h.of_cons;rw[List.all_cons,Zw]at k ⊢;exact⟨qg i k.1,mX t k.2⟩
theorem vY{m:List Addr}{H:Hp}{x:U}{v:V}(ix:Is K m H v x)(hx:iZ x=true):∀{xs:List V} {us:List U},IsL K m H xs us->us.all iZ=true->inV v xs=inU x us
 |xs,[],h,_=>by rw[h.of_nil];rfl
 |xs,u::us,h,k=>by
  obtain⟨y,r,rfl,i,t⟩:=h.of_cons;rw[List.all_cons,Zw]at k;have ih:=vY ix hx t k.2;unfold inV inU at ih ⊢;rw[ZH,ZH,ih,FC i ix k.1 hx]
theorem _root_.L2.DGet.kz{H:Hp}{a:Addr}{ob:Obj}{kvs:List (Key×V)}{k:Key}(e:H a=some (.frz ob (.dK kvs))):DGet H a (kV k) (gP kvs k):=.inl ⟨kvs,k,.inr ⟨ob,e⟩,rfl,rfl⟩
def fIn(neg:Bool):U->U->Sto->Option (U×Sto):=fun x y S=>match y with
 |.tup us=>if iZ x=true/\us.all iZ=true then some (.bl (if neg then !inU x us else inU x us),S)else none
 |.ref l=>match S[l]? with
  |some (.lst us)=>if iZ x=true/\us.all iZ=true then some (.bl (if neg then !inU x us else inU x us),S)else none
  |some (.dic kus)=>(jJ x).bind fun k=>some (.bl (if neg then !(aJ kus k).isSome else(aJ kus k).isSome),S)
  |some (.fdc ep kus)=>(jJ x).bind fun k=>some (.bl (if neg then !(aJ kus k).isSome else(aJ kus k).isSome),S)
  |_=>none
 |_=>none
theorem Rf.isSome{m:List Addr}{H:Hp}{v:Option V}{u:Option U}(h:Rf K m H v u):v.isSome=u.isSome:=by
 cases v<;>cases u<;>first|rfl|exact h.elim
theorem zT{ca cb:CE}{neg:Bool}(t2:TE->TE->TE)(h2:∀ta tb σ H Q,(ta σ H fun y H1=>tb σ H1 fun x H2=>∃a o,x=.ref a/\DGet H2 a y o/\Q (.bl (if neg then !o.isSome else o.isSome)) H2)->t2 ta tb σ H Q):∀σ H Q,tE K (cOp (fIn neg) ca cb) σ H Q->tOp (rIn K neg) (tE K ca) (tE K cb) σ H Q\/t2 (tE K ca) (tE K cb) σ H Q:=by
 rintro σ H Q ⟨m,ρ,S,u,S',sr,lr,hc,post⟩;obtain⟨⟨x,S1⟩,h1,h⟩:=Q0.mp hc;obtain⟨⟨y,S2⟩,h3,h4⟩:=Q0.mp h;cases y with
 |tup us=>
  simp only[fIn]at h4;split at h4<;>try cases h4
  rename_i hf;refine .inl ⟨m,ρ,S,x,S1,sr,lr,h1,fun m1 v1 H1 e1 sr1 i1=>⟨m1,ρ,S1,.tup us,S',sr1,lr.mono e1,h3,fun m2 v2 H2 e2 sr2 i2=>?_⟩⟩;obtain⟨a,xs,rfl,sa,la⟩:=i2.of_tup;refine⟨a,xs,rfl,.inr sa,qg (i1.mono e2) hf.1,mX la hf.2,?_⟩;rw[vY (i1.mono e2) hf.1 la hf.2];exact post m2 _ H2 (e1.trans e2) sr2 .bl_
 |ref l=>
  simp only[fIn]at h4;split at h4<;>try cases h4
  ·rename_i us hS;split at h4<;>try cases h4
   rename_i hf;refine .inl ⟨m,ρ,S,x,S1,sr,lr,h1,fun m1 v1 H1 e1 sr1 i1=>⟨m1,ρ,S1,.ref l,S',sr1,lr.mono e1,h3,fun m2 v2 H2 e2 sr2 i2=>?_⟩⟩;obtain⟨a,ha,rfl⟩:=i2.of_ref;obtain⟨a',ha',xs,hx,la⟩:=sr2.get hS;rw[ha]at ha';cases ha';refine⟨a,xs,rfl,.inl (SqL.of hx),qg (i1.mono e2) hf.1,mX la hf.2,?_⟩;rw[vY (i1.mono e2) hf.1 la hf.2];exact post m2 _ H2 (e1.trans e2) sr2 .bl_
  ·rename_i kus hS;obtain⟨k,hk,h5⟩:=Q0.mp h4;cases h5;refine .inr (h2 _ _ _ _ _ ⟨m,ρ,S,x,S1,sr,lr,h1,fun m1 v1 H1 e1 sr1 i1=>⟨m1,ρ,S1,.ref l,S',sr1,lr.mono e1,h3,fun m2 v2 H2 e2 sr2 i2=>?_⟩⟩);obtain⟨a,ha,rfl⟩:=i2.of_ref;obtain⟨a',ha',kvs,hx,ip⟩:=sr2.get hS;rw[ha]at ha';cases ha';have ek:=ic (i1.mono e2) hk;subst ek;refine⟨a,_,rfl,DGet.k hx,?_⟩;rw[(IsP.val ip).isSome];exact post m2 _ H2 (e1.trans e2) sr2 .bl_
  ·rename_i ep kus hS;obtain⟨k,hk,h5⟩:=Q0.mp h4;cases h5;refine .inr (h2 _ _ _ _ _ ⟨m,ρ,S,x,S1,sr,lr,h1,fun m1 v1 H1 e1 sr1 i1=>⟨m1,ρ,S1,.ref l,S',sr1,lr.mono e1,h3,fun m2 v2 H2 e2 sr2 i2=>?_⟩⟩);obtain⟨a,ha,rfl⟩:=i2.of_ref;obtain⟨a',ha',ob,es,kvs,hx,hd,ip⟩:=sr2.get hS;rw[ha]at ha';cases ha';have ek:=ic (i1.mono e2) hk;subst ek;refine⟨a,_,rfl,DGet.kz hx,?_⟩;rw[(IsP.val ip).isSome];exact post m2 _ H2 (e1.trans e2) sr2 .bl_
 |_=>simp[fIn]at h4
variable{e a b:QC}{ca cb:CE}{pos:Pos}
theorem uN(hu:X.A.units+1<cLine)(ha:QE X a ca)(hb:QE X b cb)(hm:behindInMarks .In b=false):QT X (.Compare a [.In] [b] pos) (aK (cOp (fIn false) ca cb)):=
 ((mr vn ha hb hm).or (tW (A3 hu ha hb) hm)).imp (jS (zT (neg:=false) Hq fun _ _ _ _ _ h=>h))
theorem xP(hu:X.A.units+1<cLine)(ha:QE X a ca)(hb:QE X b cb)(hm:behindInMarks .NotIn b=false):QT X (.Compare a [.NotIn] [b] pos) (aK (cOp (fIn true) ca cb)):=
 ((mr nW ha hb hm).or (tW (sF hu ha hb) hm)).imp (jS (zT (neg:=true) pG fun _ _ _ _ _ h=>h))
def fIx:U->U->Sto->Option (U×Sto):=fun x y S=>match x with
 |.tup us=>match y with
  |.int i=>(atI us i).bind fun u=>some (u,S)
  |_=>none
 |.ref l=>match S[l]? with
  |some (.lst us)=>(match y with
   |.int i=>(atI us i).bind fun u=>some (u,S)
   |_=>none)
  |some (.dic kus)=>(jJ y).bind fun k=>(aJ kus k).bind fun u=>some (u,S)
  |some (.fdc ep kus)=>(jJ y).bind fun k=>(aJ kus k).bind fun u=>some (u,S)
  |_=>none
 |.kl ns=>match y with
  |.int i=>(atI (ns.map U.int) i).bind fun u=>some (u,S)
  |_=>none
 |_=>none
theorem rL{K:Q1}{m:List Addr}{H:Hp}:∀ns:List Int,IsL K m H (ns.map V.int) (ns.map U.int)
 |[]=>.nil_
 |n::ns=>.cons_ .int_ (rL ns)
theorem wO{m:List Addr}{H:Hp}{xs:List V}{us:List U}{i:Int}{u:U}(l:IsL K m H xs us)(h:atI us i=some u):∃v,atI xs i=some v/\Is K m H v u:=by
 unfold atI at h ⊢;rw[l.length];obtain⟨j,e1,e2⟩:=Q0.mp h;rw[e1];obtain⟨v,e3,e4⟩:=l.getD e2;exact⟨v,e3,e4⟩
theorem Jc(hu:X.A.units+1<cLine)(ha:QE X a ca)(hb:QE X b cb)(hs:qz b)(hs2:FN b):QE X (.Subscript a b pos) (cOp fIx ca cb):=
 ((DO (Cg.or Fg) ha hb hs).or (xw hu ha hb hs2)).imp fun σ H Q hz=>jO hz fun m ρ S u S' sr lr hc post=>by
 obtain⟨⟨x,S1⟩,h1,h⟩:=Q0.mp hc;obtain⟨⟨y,S2⟩,h3,h4⟩:=Q0.mp h;cases x with
 |tup us=>
  simp only[fIx]at h4;split at h4<;>try cases h4
  rename_i i;obtain⟨w,hw,h5⟩:=Q0.mp h4;cases h5;refine .inl ⟨m,ρ,S,_,S1,sr,lr,h1,fun m1 v1 H1 e1 sr1 i1=>⟨m1,ρ,S1,_,S',sr1,lr.mono e1,h3,fun m2 v2 H2 e2 sr2 i2=>.inr ?_⟩⟩;obtain⟨a,xs,rfl,sa,la⟩:=(i1.mono e2).of_tup;obtain⟨z,ez,iz⟩:=wO la hw;exact⟨a,xs,i,z,rfl,i2.of_int,sa,ez,post m2 _ H2 (e1.trans e2) sr2 iz⟩
 |ref l=>
  simp only[fIx]at h4;split at h4<;>try cases h4
  ·rename_i us hS;split at h4<;>try cases h4
   rename_i i;obtain⟨w,hw,h5⟩:=Q0.mp h4;cases h5;refine .inl ⟨m,ρ,S,_,S1,sr,lr,h1,fun m1 v1 H1 e1 sr1 i1=>⟨m1,ρ,S1,_,S',sr1,lr.mono e1,h3,fun m2 v2 H2 e2 sr2 i2=>.inl ?_⟩⟩;obtain⟨a,ha,rfl⟩:=(i1.mono e2).of_ref;obtain⟨a',ha',xs,hx,la⟩:=sr2.get hS;rw[ha]at ha';cases ha';obtain⟨z,ez,iz⟩:=wO la hw;exact⟨a,xs,i,z,rfl,i2.of_int,SqL.of hx,ez,post m2 _ H2 (e1.trans e2) sr2 iz⟩
  ·rename_i kus hS;obtain⟨k,hk,h5⟩:=Q0.mp h4;obtain⟨w,hw,h6⟩:=Q0.mp h5;cases h6;refine .inr ⟨m,ρ,S,_,S1,sr,lr,h1,fun m1 v1 H1 e1 sr1 i1=>⟨m1,ρ,S1,_,S',sr1,lr.mono e1,h3,fun m2 v2 H2 e2 sr2 i2=>?_⟩⟩;obtain⟨a,ha,rfl⟩:=(i1.mono e2).of_ref;obtain⟨a',ha',kvs,hx,ip⟩:=sr2.get hS;rw[ha]at ha';cases ha';have ek:=ic i2 hk;subst ek;have rf:=IsP.val (k:=k) ip;rw[hw]at rf;cases hv:gP kvs k with
   |none=>rw[hv]at rf;exact rf.elim
   |some z=>
    rw[hv]at rf;exact⟨a,z,rfl,by have:=DGet.k (k:=k) hx;rw[hv]at this;exact this,post m2 _ H2 (e1.trans e2) sr2 rf⟩
  ·rename_i ep kus hS;obtain⟨k,hk,h5⟩:=Q0.mp h4;obtain⟨w,hw,h6⟩:=Q0.mp h5;cases h6;refine .inr ⟨m,ρ,S,_,S1,sr,lr,h1,fun m1 v1 H1 e1 sr1 i1=>⟨m1,ρ,S1,_,S',sr1,lr.mono e1,h3,fun m2 v2 H2 e2 sr2 i2=>?_⟩⟩;obtain⟨a,ha,rfl⟩:=(i1.mono e2).of_ref;obtain⟨a',ha',ob,es,kvs,hx,hd,ip⟩:=sr2.get hS;rw[ha]at ha';cases ha';have ek:=ic i2 hk;subst ek;have rf:=IsP.val (k:=k) ip;rw[hw]at rf;cases hv:gP kvs k with
   |none=>rw[hv]at rf;exact rf.elim
   |some z=>
    rw[hv]at rf;exact⟨a,z,rfl,by have:=DGet.kz (k:=k) hx;rw[hv]at this;exact this,post m2 _ H2 (e1.trans e2) sr2 rf⟩
 |kl ns=>
  simp only[fIx]at h4;split at h4<;>try cases h4
  rename_i i;obtain⟨w,hw,h5⟩:=Q0.mp h4;cases h5;refine .inl ⟨m,ρ,S,_,S1,sr,lr,h1,fun m1 v1 H1 e1 sr1 i1=>⟨m1,ρ,S1,_,S',sr1,lr.mono e1,h3,fun m2 v2 H2 e2 sr2 i2=>.inl ?_⟩⟩;obtain⟨a,rfl,ka⟩:=(i1.mono e2).of_kl;obtain⟨z,ez,iz⟩:=wO (rL (K:=X.K) (m:=m2) (H:=H2) ns) hw;exact⟨a,_,i,z,rfl,i2.of_int,ka.sq,ez,post m2 _ H2 (e1.trans e2) sr2 iz⟩
 |_=>simp[fIx]at h4
def kE:U->U->U->Sto->Option Sto:=fun o i v S=>match o with
 |.ref l=>match S[l]? with
  |some (.lst us)=>(match i with
   |.int k=>(ixN us.length k).bind fun j=>some (S.set l (.lst (us.set j v)))
   |_=>none)
  |some (.dic kus)=>(jJ i).bind fun k=>if kus.length<LIM then some (S.set l (.dic (cQ kus k v)))else none
  |_=>none
 |_=>none
def eB(co ci cv:CE):CS:=fun ρ S=>(cv ρ S).bind fun p=>(co ρ p.2).bind fun q=>(ci ρ q.2).bind fun r=>(kE q.1 r.1 p.1 r.2).bind fun S'=>some (.nx,ρ,S')
theorem bY{o i:QC}{co ci cv:CE}{pos':Pos}(hu:X.A.units+1<cLine)(ho:QE X o co)(hi:QE X i ci)(hv:QE X e cv)
  (hs0:swapsWithSole [.Subscript o i pos'] e pos.line X.env=pure false:=by rfl) (hw:swappedStores [.Subscript o i pos'] e X.env=pure none:=by rfl)
  (h1:(assignEach [.Subscript o i pos'] X.env).map (·.2)=[assign (.Subscript o i pos') X.env]:=by rfl)
  (hs:ZP e (some (.Subscript o i pos')) pos.line X.env=pure false:=by rfl)
  (ha:∀v,assign (.Subscript o i pos') X.env v=(do
   let ov <-holding [v] (eval o X.env)
   let iv <-holding [v,ov] (eval i X.env)
   standAt pos'
   holding [v,ov,iv] (setItem ov iv v)
   release [v,ov,iv] []):=by intro _;rfl):QS X (.Assign [.Subscript o i pos'] e pos) (eB co ci cv):=
 ((t7 hv (AU ho hi xI ha) hs0 hw h1).or (xm hu ho hi hv hs)).imp fun D σ H hz=>sX hz fun m ρ S o ρ' S' sr lr hc post=>by
 obtain⟨⟨v,S1⟩,h1,h⟩:=Q0.mp hc;obtain⟨⟨ou,S2⟩,h2,h⟩:=Q0.mp h;obtain⟨⟨iu,S3⟩,h3,h⟩:=Q0.mp h;obtain⟨S4,h4,h⟩:=Q0.mp h;cases h;cases ou with
 |ref l=>
  simp only[kE]at h4;split at h4<;>try cases h4
  ·rename_i us hS;split at h4<;>try cases h4
   rename_i k;obtain⟨j,hj,h5⟩:=Q0.mp h4;cases h5;refine .inl ⟨m,ρ,S,v,S1,sr,lr,h1,fun m1 v1 H1 e1 sr1 i1=>⟨m1,ρ,S1,_,S2,sr1,lr.mono e1,h2,fun m2 v2 H2 e2 sr2 i2=>⟨m2,ρ,S2,_,S3,sr2,lr.mono (e1.trans e2),h3,fun m3 v3 H3 e3 sr3 i3=>?_⟩⟩⟩;obtain⟨a,ha,rfl⟩:=(i2.mono e3).of_ref;obtain⟨a',ha',xs,hx,la⟩:=sr3.get hS;rw[ha]at ha';cases ha';have e13:=(e1.trans e2).trans e3;have ek:Ext X.K m3 H3 m3 (upd H3 a (.lst (xs.set j v1))):=.of (sr3.keep ha _);refine⟨a,xs,k,j,rfl,i3.of_int,hx,by rw[la.length];exact hj,post m3 σ _ (e13.trans ek) (sr3.put ha ⟨_,aA,((la.set (i1.mono (e2.trans e3)))).mono ek⟩) (lr.mono (e13.trans ek))⟩
  ·rename_i kus hS;obtain⟨k,hk,h5⟩:=Q0.mp h4;split at h5<;>try cases h5
   have hlen:kus.length<LIM:=by assumption
   refine .inr ⟨m,ρ,S,v,S1,sr,lr,h1,fun m1 v1 H1 e1 sr1 i1=>⟨m1,ρ,S1,_,S2,sr1,lr.mono e1,h2,fun m2 v2 H2 e2 sr2 i2=>⟨m2,ρ,S2,_,S3,sr2,lr.mono (e1.trans e2),h3,fun m3 v3 H3 e3 sr3 i3=>?_⟩⟩⟩;obtain⟨a,ha,rfl⟩:=(i2.mono e3).of_ref;obtain⟨a',ha',kvs,hx,ip⟩:=sr3.get hS;rw[ha]at ha';cases ha';have ek:=ic i3 hk;subst ek;have e13:=(e1.trans e2).trans e3;have ee:Ext X.K m3 H3 m3 (upd H3 a (.dK (nz kvs k v1))):=.of (sr3.keep ha _);exact⟨a,_,rfl,FX.k hx (F8 (by rw[IsP.length ip];exact hlen)),post m3 σ _ (e13.trans ee) (sr3.put ha ⟨_,aA,(IsP.put ip (i1.mono (e2.trans e3))).mono ee⟩) (lr.mono (e13.trans ee))⟩
 |_=>simp[kE]at h4
end
theorem iU{α:Type}[DecidableEq α]:∀{l l':List α},l.Nodup->(∀x∈l,x∈l')->l.length<=l'.length
 |[],_,_,_=>Z6 _
 |x::r,l',nd,s=>by
  obtain⟨h1,h2⟩:=ZR.mp nd;have hx:=s x QZ;have:=iU (l:=r) (l':=l'.erase x) h2 fun y hy=>(List.mem_erase_of_ne (fun z=>h1 (by rw[<-z];exact hy))).mpr (s y (QQ _ hy));rw[List.length_erase_of_mem hx]at this;have hp:=List.length_pos_of_mem hx;rw[QY];omega
theorem d7(f:Str)(v:V):∀fs:List (Str×V),(k9 f v fs).map (·.1)=if f∈fs.map (·.1)then fs.map (·.1)else fs.map (·.1)++[f]
 |[]=>by simp[k9]
 |(g,x)::r=>by
  unfold k9;by_cases e:g=f
  ·simp[e]
  ·have ih:=d7 f v r;rw[if_neg e,QN,QN,ih];by_cases c:f∈r.map (·.1)
   ·rw[if_pos c,if_pos (QQ _ c)]
   ·rw[if_neg c,if_neg (fun z=>by rcases QM.mp z with z|z;exact e z.symm;exact c z)];rfl
section
variable{X:Cx}{K:Q1}{m:List Addr}{H:Hp}{c:Cl}{fs:List (Str×V)}{fus:List (Option U)}
theorem InF.room(h:InF K m H c fs fus):fs.length<1000:=by
 have:=iU h.knd h.sub;rw[QV]at this;have:=h.few;omega
theorem kh{f:Str}:∀{fs:List (Str×V)},f∉fs.map (·.1)->fs.lookup f=none
 |[],_=>rfl
 |(g,x)::r,h=>by
  rw[ZF];have h1:(f == g)=false:=by
   apply beq_eq_false_iff_ne.mpr;intro z;exact h (by rw[z];exact QZ)
  rw[h1];exact kh fun z=>h (QQ _ z)
def InF.none_{f:Str}(h:InF K m H c fs fus)(hf:f∉c.ns):fs.lookup f=none:=kh fun z=>hf (h.sub f z)
theorem InF.put{f:Str}{i:Nat}{v:V}{u:U}(h:InF K m H c fs fus)(hi:c.ns[i]?=some f)(hv:Is K m H v u):InF K m H c (k9 f v fs) (fus.set i (some u)):=by
 have hfm:f∈c.ns:=Zg hi;refine⟨h.nd,h.few,?_,fun x hx=>?_,by simp[h.len],fun j x hj=>?_⟩
 ·rw[d7];split
  ·exact h.knd
  ·rename_i hn;rw[ZT];exact⟨h.knd,by simp,fun a ha b hb z=>by simp at hb;subst hb;subst z;exact hn ha⟩
 ·rw[d7]at hx;split at hx
  ·exact h.sub x hx
  ·rcases Qw.mp hx with z|z
   ·exact h.sub x z
   ·simp at z;subst z;exact hfm
 ·rw[ib];by_cases e:i=j
  ·subst e;rw[hi]at hj;cases hj;rw[if_pos rfl];have:i<fus.length:=by rw[h.len];exact(Q6.mp hi).1
   rw[List.getElem?_set_self this];exact hv
  ·have ne:x≠f:=fun z=>by
    subst z;obtain⟨p1,e1⟩:=Q6.mp hi;obtain⟨p2,e2⟩:=Q6.mp hj;exact e ((List.getElem_inj h.nd).mp (e1.trans e2.symm))
   rw[if_neg ne,Qg e];exact h.at_ j x hj
theorem InF.new(nd:c.ns.Nodup)(few:c.ns.length<1000):InF K m H c [] (QU c.ns.length none):=by
 refine⟨nd,few,by simp,fun x hx=>by simp at hx,by simp,fun i x hi=>?_⟩;rw[ZG];split<;>exact trivial
open Classical in
def Fz(c:Cl)(i:Nat)(x:U)(S:Sto):Option (U×Sto):=match x with
 |.ref l=>match S[l]? with
  |some (.ins c' fus)=>if c'=c then(fus[i]?).join.bind fun u=>some (u,S)else none
  |_=>none
 |_=>none
def bE(c:Cl)(i:Nat)(ca:CE):CE:=fun ρ S=>(ca ρ S).bind fun p=>Fz c i p.1 p.2
open Classical in
def wb(c:Cl)(i:Nat)(x v:U)(S:Sto):Option Sto:=match x with
 |.ref l=>match S[l]? with
  |some (.ins c' fus)=>if c'=c then some (S.set l (.ins c (fus.set i (some v))))else none
  |_=>none
 |_=>none
def fk(c:Cl)(i:Nat)(ca cv:CE):CS:=fun ρ S=>(cv ρ S).bind fun p=>(ca ρ p.2).bind fun q=>(wb c i q.1 p.1 q.2).bind fun S'=>some (.nx,ρ,S')
variable{e:QC}{ca cv:CE}{pos:Pos}{f:Str}{i:Nat}
theorem Bv(hcl:Cls X.K c.C)(hna:gY X.K c.C f)(hi:c.ns[i]?=some f)(h:QE X e ca)(hb:attributeBase e f X.env (eval e X.env)=eval e X.env:=by rfl):QE X (.Attribute e f pos) (bE c i ca):=(A1 h hb).imp fun σ H Q hz=>jO hz fun m ρ S u S' sr lr hc post=>by
 obtain⟨⟨x,S1⟩,h1,h2⟩:=Q0.mp hc;refine⟨m,ρ,S,x,S1,sr,lr,h1,fun m1 v1 H1 e1 sr1 i1=>?_⟩;cases x with
 |ref l=>
  simp only[Fz]at h2;split at h2<;>try cases h2
  rename_i c' fus hS;split at h2<;>try cases h2
  rename_i hc';subst hc';obtain⟨w,hw,h3⟩:=Q0.mp h2;cases h3;obtain⟨a,ha,rfl⟩:=i1.of_ref;obtain⟨a',ha',dx,fs,hx,inf⟩:=sr1.get hS;rw[ha]at ha';cases ha';have rf:=inf.at_ i f hi;rw[hw]at rf;cases hv:fs.lookup f with
  |none=>rw[hv]at rf;exact rf.elim
  |some z=>
   rw[hv]at rf;exact⟨a,_,dx,fs,z,rfl,hx,hcl,hna,hv,post m1 _ H1 e1 sr1 rf⟩
 |_=>simp[Fz]at h2
theorem Br{o:QC}{co:CE}{pos':Pos}(hcl:Cls X.K c.C)(hna:gY X.K c.C f)(hi:c.ns[i]?=some f)(ho:QE X o co)(hv:QE X e cv)(hs:ZP e (some (.Attribute o f pos')) pos.line X.env=pure false:=by rfl):QS X (.Assign [.Attribute o f pos'] e pos) (fk c i co cv):=(AQ ho hv hs).imp fun D σ H hz=>sX hz fun m ρ S o ρ' S' sr lr hc post=>by
 obtain⟨⟨v,S1⟩,h1,h⟩:=Q0.mp hc;obtain⟨⟨x,S2⟩,h2,h⟩:=Q0.mp h;obtain⟨S3,h3,h⟩:=Q0.mp h;cases h;refine⟨m,ρ,S,v,S1,sr,lr,h1,fun m1 v1 H1 e1 sr1 i1=>⟨m1,ρ,S1,x,S2,sr1,lr.mono e1,h2,fun m2 v2 H2 e2 sr2 i2=>?_⟩⟩;cases x with
 |ref l=>
  simp only[wb]at h3;split at h3<;>try cases h3
  rename_i c' fus hS;split at h3<;>try cases h3
  have hc':c'=c:=by assumption
  subst hc';obtain⟨a,ha,rfl⟩:=i2.of_ref;obtain⟨a',ha',dx,fs,hx,inf⟩:=sr2.get hS;rw[ha]at ha';cases ha';have ee:Ext X.K m2 H2 m2 (upd H2 a (.ins c'.C dx (k9 f v1 fs))):=.of (sr2.keep ha _);have e12:=e1.trans e2;exact⟨a,_,dx,fs,rfl,hx,hcl,hna,inf.room,post m2 σ _ (e12.trans ee) (sr2.put ha ⟨dx,_,aA,(inf.put hi (i1.mono e2)).mono ee⟩) (lr.mono (e12.trans ee))⟩
 |_=>simp[wb]at h3
structure c6(P:Qv)(w:Qe)(K:Q1)(mg:Str->Option Q2)(base:Heap)(c:Cl)(mn:Str)(k:Nat)(ps:List Str)(f:Fn):Prop where
 ex:∃fa fd,CM K c.C mn fa/\jx P w K mg base CX0 k fa fd ps (wZ K f)/\fN K fd ps []
theorem c6.mono{P:Qv}{w:Qe}{mg:Str->Option Q2}{base:Heap}{mn:Str}{j k:Nat}{ps:List Str}{f:Fn}(h:c6 P w K mg base c mn j ps f)(l:j<=k):c6 P w K mg base c mn k ps f:=by
 obtain⟨fa,fd,a,b,d⟩:=h.ex;exact⟨fa,fd,a,b.mono l,d⟩
open Classical in
def we(c:Cl)(f:Fn)(x:U)(S:Sto)(args:Sto->Option (List U×Sto)):Option (U×Sto):=match x with
 |.ref l=>match S[l]? with
  |some (.ins c' _)=>if c'=c then(args S).bind fun q=>f (.ref l::q.1) q.2 else none
  |_=>none
 |_=>none
def bp(c:Cl)(f:Fn)(ca:CE)(cr:CA):CE:=fun ρ S=>(ca ρ S).bind fun p=>we c f p.1 p.2 (cr ρ)
theorem rm{mn:Str}{g:Fn}{co:CE}{cr:CA}(hmn:mn∉c.ns):∀σ H Q,tE K (bp c g co cr) σ H Q->ux c.C mn (wZ K g) [] E0 (tE K co) (tA K cr) σ H Q:=by
 rintro σ H Q ⟨m,ρ,S,u,S',sr,lr,hc,post⟩;obtain⟨⟨x,S1⟩,h1,h2⟩:=Q0.mp hc;refine⟨m,ρ,S,x,S1,sr,lr,h1,fun m1 v1 H1 e1 sr1 i1=>?_⟩;cases x with
 |ref l=>
  simp only[we]at h2;split at h2<;>try cases h2
  rename_i c' fus hS;split at h2<;>try cases h2
  rename_i hc';subst hc';obtain⟨⟨us,S2⟩,h3,h4⟩:=Q0.mp h2;obtain⟨a,ha,rfl⟩:=i1.of_ref;obtain⟨a',ha',dx,fs,hx,inf⟩:=sr1.get hS;rw[ha]at ha';cases ha';refine⟨a,dx,fs,rfl,hx,inf.none_ hmn,m1,ρ,S1,us,S2,sr1,lr.mono e1,h3,fun m2 vs H2 e2 sr2 i2=>?_⟩;exact⟨m2,_,S2,u,S',.cons_ (i1.mono e2) (by simpa using i2),sr2,h4,post.mono (e1.trans e2)⟩
 |_=>simp[we]at h2
theorem Eh{mn:Str}{g:Fn}{k:Nat}{ps:List Str}{o:QC}{es:List QC}{co:CE}{cr:CA}{apos:Pos}{pl:Sem Bool}(hcl:Cls X.K c.C)(F:c6 X.prog X.w X.K X.mg X.base c mn k ps g)(hr:dG k X.A)(hmn:mn∉c.ns)(ho:QE X o co)(ha:QA X (e::es) cr)
  (hst:QJ (e::es) X.env=(false,eval e X.env)::QJ es X.env:=by rfl) (hpl:(ZQ pos (QJ es X.env)).any (·.1)=false:=by rfl) (ht:eval (.Call (.Attribute o mn apos) (e::es) [] pos) X.env=(do
   let ov <-eval o X.env
   standAt apos.atName
   let (f,first) <-holding [ov] (getMethod ov mn pl)
   callWith pos f first (ZQ pos (QJ (e::es) X.env)) (backToKw pos (keywordEach [] X.env))):=by rfl):QE X (.Call (.Attribute o mn apos) (e::es) [] pos) (bp c g co cr):=by
 obtain⟨fa,fd,hm,F,hb⟩:=F.ex;exact(xt ho hcl hm F hr hb .nil uZ ha.h hst hpl ht).imp (rm hmn)
theorem uO{mn:Str}{g:Fn}{k:Nat}{ps:List Str}{o:QC}{co:CE}{apos:Pos}{pl:Sem Bool}(hcl:Cls X.K c.C)(F:c6 X.prog X.w X.K X.mg X.base c mn k ps g)(hr:dG k X.A)(hmn:mn∉c.ns)(ho:QE X o co)
  (ht:eval (.Call (.Attribute o mn apos) [] [] pos) X.env=(do
   let ov <-eval o X.env
   standAt apos.atName
   let (f,first) <-holding [ov] (getMethod ov mn pl)
   callWith pos f first (ZQ pos (QJ [] X.env)) (backToKw pos (keywordEach [] X.env))):=by rfl):QE X (.Call (.Attribute o mn apos) [] [] pos) (bp c g co aG):=by
 obtain⟨fa,fd,hm,F,hb⟩:=F.ex;refine(ub ho hcl hm F hr hb .nil uZ ht).imp fun σ H Q h=>?_;obtain⟨m,ρ,S,u,S',sr,lr,hc,k⟩:=rm hmn σ H Q h;refine⟨m,ρ,S,u,S',sr,lr,hc,fun m1 v1 H1 e1 sr1 i1=>?_⟩;obtain⟨a,dx,fs,h1,h2,h3,m2,ρ2,S2,us,S3,sr2,lr2,h4,h5⟩:=k m1 v1 H1 e1 sr1 i1;cases h4;exact⟨a,dx,fs,h1,h2,h3,h5 m2 [] H1 .refl sr2 .nil_⟩
structure CMk(P:Qv)(w:Qe)(K:Q1)(mg:Str->Option Q2)(base:Heap)(c:Cl)(x:Str)(k:Nat)(ps:List Str)(f:Fn):Prop where
 ex:∃fa fd,Mk K c.C fa/\jx P w K mg base CX0 k fa fd ps (wZ K f)/\fN K fd ps []/\mg x=some (.ref c.C)
 nd:c.ns.Nodup
 few:c.ns.length<1000
theorem CMk.mono{P:Qv}{w:Qe}{mg:Str->Option Q2}{base:Heap}{x:Str}{j k:Nat}{ps:List Str}{f:Fn}(h:CMk P w K mg base c x j ps f)(l:j<=k):CMk P w K mg base c x k ps f:=by
 obtain⟨fa,fd,a,b,d⟩:=h.ex;exact⟨⟨fa,fd,a,b.mono l,d⟩,h.nd,h.few⟩
def kF(c:Cl)(f:Fn):Fn:=fun us S=>(f (.ref S.length::us) (S++[.ins c (QU c.ns.length none)])).bind fun p=>match p.1 with
 |.non=>some (.ref S.length,p.2)
 |_=>none
theorem yp{g:Fn}{cr:CA}(nd:c.ns.Nodup)(few:c.ns.length<1000):∀σ H Q,tE K (cCB (kF c g) cr) σ H Q->Bb c.C (wZ K g) [] E0 (tA K cr) σ H Q:=by
 rintro σ H Q ⟨m,ρ,S,u,S',sr,lr,hc,post⟩;obtain⟨⟨us,S1⟩,h1,h2⟩:=Q0.mp hc;obtain⟨⟨w,S2⟩,h3,h4⟩:=Q0.mp h2;refine⟨m,ρ,S,us,S1,sr,lr,h1,fun m1 vs H1 e1 sr1 i1 x dx hx hdx ne=>?_⟩;cases w with
 |non=>
  cases h4;have s1:Aj H1 (upd H1 dx (.own x)):=ft hdx _;have hx2:(upd H1 dx (.own x)) x=none:=by rw[aB (Ne.symm ne)];exact hx
  have ee:Ext K m1 H1 (m1++[x]) (upd (upd H1 dx (.own x)) x (.ins c.C dx [])):=.new ⟨fun b xs q=>(bI hx2 _).t b xs ((cu s1).t b xs q),fun b xs q=>(bI hx2 _).l b xs ((cu s1).l b xs q),fun b xs q=>(bI (K:=K) hx2 _).c b xs ((cu (K:=K) s1).c b xs q)⟩;refine⟨m1++[x],.ref S1.length::us,S1++[.ins c (QU c.ns.length none)],.non,S2,.cons_ (.ref_ (dQ sr1.len)) (by simpa using i1.mono ee),(sr1.same s1).new (o:=.ins c (QU c.ns.length none)) hx2 ⟨dx,[],aA,InF.new nd few⟩,h3,fun m2 v2 H2 e2 sr2 i2=>⟨i2.of_non,?_⟩⟩;exact post m2 _ H2 ((e1.trans ee).trans e2) sr2 (.ref_ (e2.get (dQ sr1.len)))
 |_=>simp at h4
theorem uP{x:Str}{g:Fn}{k:Nat}{ps:List Str}{es:List QC}{cr:CA}{p:Pos}(M:CMk X.prog X.w X.K X.mg X.base c x k ps g)(hr:dG (k+1) X.A)(hg:Gl X x)(ha:QA X (e::es) cr)
  (hdb:(x == ("__debug__":Str))=false:=by decide) (he:QJ (e::es) X.env=(false,eval e X.env)::QJ es X.env:=by rfl) (hpl:(ZQ pos (QJ es X.env)).any (·.1)=false:=by rfl):QE X (.Call (.Name x p) (e::es) [] pos) (cCB (kF c g) cr):=by
 obtain⟨fa,fd,hm,F,hb,hx⟩:=M.ex;exact(xv hm F hr hg hx hb .nil uZ ha.h hdb he hpl).imp (yp M.nd M.few)
def lL:CE:=fun _ S=>some (.ref S.length,S++[.dic []])
theorem jG:QE X (.Dict [] [] pos) lL:=ud.imp fun σ H Q hz=>jO hz fun m ρ S u S' sr lr hc post=>by
 cases hc;exact fun p hp=>post (m++[p]) _ _ (.new (bI hp _)) (sr.new hp ⟨[],aA,.nil_⟩) (.ref_ (dQ sr.len))
def qt(cd ck cx:CE):CE:=fun ρ S=>(cd ρ S).bind fun p=>match p.1 with
 |.ref l=>match p.2[l]? with
  |some (.dic _)=>(ck ρ p.2).bind fun q=>(cx ρ q.2).bind fun r=>match r.2[l]? with
   |some (.dic kus)=>(jJ q.1).bind fun k=>some ((aJ kus k).getD r.1,r.2)
   |_=>none
  |_=>none
 |_=>none
theorem uQ{o e f:QC}{cd ck cx:CE}{apos:Pos}(hu:X.A.units+1<cLine)(ho:QE X o cd)(he:QE X e ck)(hf:QE X f cx)(hm:M2 X o "get" apos e f pos):QE X (.Call (.Attribute o "get" apos) [e,f] [] pos) (qt cd ck cx):=(ue hu ho he hf hm).imp fun σ H Q hz=>jO hz fun m ρ S u S' sr lr hc post=>by
 obtain⟨⟨x,S1⟩,h1,h⟩:=Q0.mp hc;refine⟨m,ρ,S,x,S1,sr,lr,h1,fun m1 v1 H1 e1 sr1 i1=>?_⟩;cases x with
 |ref l=>
  simp only at h;split at h<;>try cases h
  rename_i kus0 hS;obtain⟨⟨ku,S2⟩,h2,h⟩:=Q0.mp h;obtain⟨⟨xu,S3⟩,h3,h⟩:=Q0.mp h;simp only at h;split at h<;>try cases h
  rename_i kus hS3;obtain⟨k,hk,h⟩:=Q0.mp h;cases h;obtain⟨a,ha,rfl⟩:=i1.of_ref;obtain⟨a',ha',kvs0,hx0,_⟩:=sr1.get hS;rw[ha]at ha';cases ha';refine⟨a,rfl,.inl ⟨kvs0,.inl hx0⟩,m1,ρ,S1,ku,S2,sr1,lr.mono e1,h2,fun m2 v2 H2 e2 sr2 i2=>⟨m2,ρ,S2,xu,_,sr2,lr.mono (e1.trans e2),h3,fun m3 v3 H3 e3 sr3 i3=>?_⟩⟩;obtain⟨a',ha',kvs,hx,ip⟩:=sr3.get hS3;rw[(e2.trans e3).get ha]at ha';cases ha';have ek:=ic (i2.mono e3) hk;subst ek;have rf:=IsP.val (k:=k) ip;refine⟨_,DGet.k hx,post m3 _ H3 ((e1.trans e2).trans e3) sr3 ?_⟩;cases hv:gP kvs k with
  |none=>
   cases hw:aJ kus k with
   |none=>exact i3
   |some w=>rw[hv,hw]at rf;exact rf.elim
  |some v=>
   cases hw:aJ kus k with
   |none=>rw[hv,hw]at rf;exact rf.elim
   |some w=>rw[hv,hw]at rf;exact rf
 |_=>simp at h
end
def pH(n:Nat)(caps:List Nat)(ρ:Rho):Rho:=QU n none++caps.map fun i=>(ρ[i]?).getD none
open Classical in
def gu(ok:Sto->Prop)(g:CG)(ce:CE)(l:Nat):List U->Rho->Sto->Option Sto
 |[],_,S=>if ok S then some S else none
 |u::us,ρ,S=>if ok S then(g u ρ S).bind fun p=>(ce p.1 p.2).bind fun r=>match r.2[l]? with
  |some (.lst ys)=>if ys.length<LIM then gu ok g ce l us p.1 (r.2.set l (.lst (ys++[r.1])))else none
  |_=>none else none
def i7(ci:CI)(g:CG)(ce:CE)(n:Nat)(caps:List Nat):CE:=fun ρ S=>(ci ρ S).bind fun p=>(gu p.2.1 g ce p.2.2.length p.1 (pH n caps ρ) (p.2.2++[.lst []])).bind fun S'=>some (.ref p.2.2.length,S')
section
variable{X:Cx}{K:Q1}
theorem vz{m:List Addr}{H:Hp}{ρ:Rho}{σ:L2.St}{n:Nat}{caps:List Nat}(lr:Lr K m H ρ σ):Lr K m H (pH n caps ρ) (OG.stC n caps σ):=by
 refine⟨by simp[pH,OG.stC],fun j u e=>?_⟩;unfold pH at e;unfold OG.stC;by_cases c:j<n
 ·rw[Qt (by simpa using c),ZG]at e;split at e<;>cases e
 ·rw[Qn (by simp;omega),Qu]at e ⊢;simp only[List.length_replicate]at e ⊢;cases q:caps[j-n]? with
  |none=>rw[q]at e;simp at e
  |some i=>
   rw[q]at e;simp only[ZV,Option.some.injEq]at e ⊢;have e2:ρ[i]?=some (some u):=by
    cases z:ρ[i]? with
    |none=>rw[z]at e;simp at e
    |some y=>rw[z]at e;simp at e;rw[e]
   obtain⟨v,h1,h2⟩:=lr.at_ i u e2;exact⟨v,by rw[h1];rfl,h2⟩
theorem ox{g:CG}{ce:CE}{n:Nat}{caps:List Nat}{J:It}{us:List U}{ok:Sto->Prop}{Q:VK}{m1:List Addr}{H1:Hp}{S1 S':Sto}{ρ:Rho}{σ:L2.St}{l:Addr}(sr1:Sr K m1 S1 H1)(lr:Lr K m1 H1 ρ σ)(ito:za K J m1 H1 us ok)(hl:H1 l=none)(h2:gu ok g ce S1.length us (pH n caps ρ) (S1++[.lst []])=some S')
  (post:∀m2 H2,Ext K (m1++[l]) (upd H1 l (.lst [])) m2 H2->Sr K m2 S' H2->Q (.ref l) H2) :
  ∃W:Nat->Nat->L2.St->Hp->Prop,(∃m,W 0 m (OG.stC n caps σ) (upd H1 l (.lst [])))/\
 ∀i m σ' H2,W i m σ' H2->(J.stop i H2/\Q (.ref l) H2)\/(J.go i H2/\∃N:L2.St->Hp->Prop,(∀σ'' H',N σ'' H'->∃m',m'<m/\W (i+1) m' σ'' H')/\
  ∀x H3,J.yld i H2 x H3->tG K g x σ' H3 fun σ2 H4=>tE K ce σ2 H4 fun v H5=>∃ys,H5 l=some (.lst ys)/\ys.length<QD/\N σ2 (upd H5 l (.lst (ys++[v])))):=by
 have ee:Ext K m1 H1 (m1++[l]) (upd H1 l (.lst [])):=.new (bI hl _);let W:Nat->Nat->L2.St->Hp->Prop:=fun i k σ2 H2=>k=us.length-i/\i<=us.length/\∃m2 ρ2 S2,Ext K (m1++[l]) (upd H1 l (.lst [])) m2 H2/\Sr K m2 S2 H2/\Lr K m2 H2 ρ2 σ2/\gu ok g ce S1.length (us.drop i) ρ2 S2=some S'
 refine⟨W,⟨us.length,by simp,Z6 _,m1++[l],pH n caps ρ,S1++[.lst []],.refl,sr1.new (o:=.lst []) hl ⟨[],aA,.nil_⟩,vz (lr.mono ee),by simpa using h2⟩,?_⟩;rintro i k σ2 H2 ⟨rfl,hi,m2,ρ2,S2,e2,sr2,lr2,hl2⟩;by_cases hlt:i<us.length
 ·have hu:=Q4 hlt;rw[kH hu]at hl2;unfold gu at hl2;split at hl2
  ·rename_i hok;obtain⟨⟨ρ3,S3⟩,h3,hl2⟩:=Q0.mp hl2;obtain⟨⟨u4,S4⟩,h4,hl2⟩:=Q0.mp hl2;simp only at hl2;split at hl2<;>try cases hl2
   rename_i ys hys;split at hl2<;>try cases hl2
   rename_i hlen;obtain⟨hgo,hy⟩:=(ito m2 S2 H2 i (ee.trans e2) sr2 hok).1 _ hu;refine .inr ⟨hgo,W (i+1) (us.length-(i+1)),fun σ' H' w'=>⟨_,by omega,w'⟩,fun x H3 y=>?_⟩;obtain⟨e3,sr3,ix⟩:=hy x H3 y;refine⟨m2,ρ2,S2,_,ρ3,S3,sr3,lr2.mono e3,ix,h3,fun m4 σ4 H4 e4 sr4 lr4=>⟨m4,ρ3,S3,u4,S4,sr4,lr4,h4,fun m5 v5 H5 e5 sr5 i5=>?_⟩⟩;obtain⟨a',ha',xs,hx,il⟩:=sr5.get hys;have ha:m5[S1.length]?=some l:=(((e2.trans e3).trans e4).trans e5).get (dQ sr1.len);rw[ha]at ha';cases ha';have eu:Ext K m5 H5 m5 (upd H5 l (.lst (xs++[v5]))):=.of (sr5.keep ha _);refine⟨xs,hx,F8 (by rw[il.length];exact hlen),rfl,hlt,m5,ρ3,_,((((e2.trans e3).trans e4).trans e5).trans eu),sr5.put (o:=.lst (ys++[u4])) ha ⟨_,aA,(il.append (.cons_ i5 .nil_)).mono eu⟩,(lr4.mono (e5.trans eu)),hl2⟩
  ·cases hl2
 ·have e:i=us.length:=by omega
  subst e;rw[List.drop_length]at hl2;unfold gu at hl2;split at hl2
  ·rename_i hok;cases hl2;exact .inl ⟨(ito m2 _ H2 _ (ee.trans e2) sr2 hok).2 (Q8 _),post m2 H2 e2 sr2⟩
  ·cases hl2
theorem yQ{ci:CI}{g:CG}{ce:CE}{n:Nat}{caps:List Nat}:∀σ H Q,tE K (i7 ci g ce n caps) σ H Q->Bc (tI K ci) (tG K g) (tE K ce) n caps σ H Q:=by
 rintro σ H Q ⟨m,ρ,S,u,S',sr,lr,hc,post⟩;obtain⟨⟨us,ok,S1⟩,h1,h2⟩:=Q0.mp hc;obtain⟨S2,h2,h3⟩:=Q0.mp h2;cases h3;refine⟨m,ρ,S,us,ok,S1,sr,lr,h1,fun m1 H1 J e1 sr1 ito l hl=>?_⟩;have ee:Ext K m1 H1 (m1++[l]) (upd H1 l (.lst [])):=.new (bI hl _);exact ox sr1 (lr.mono e1) ito hl h2 fun m2 H2 e2 sr2=>post m2 _ H2 ((e1.trans ee).trans e2) sr2 (.ref_ (e2.get (dQ sr1.len)))
theorem zI{Nc capN tn:List Str}{scope:Zq}{cl:List (Str×Addr)}{n:Nat}{caps:List Nat}{tg iter elt:QC}{pos:Pos}{ci:CI}{g:CG}{ce:CE}
  (hc:X.calm=true) (hi:QI X tg iter ci) (hg:∀s3 H3 fp,WG (cxC X Nc scope cl s3 H3 fp) tg (tG X.K g)) (he:∀s3 H3 fp,WE (cxC X Nc scope cl s3 H3 fp) elt (tE X.K ce))
  (hclos:closureFor scope X.env=pure cl) (hkind:scope.kind=.function) (hnl:∀x∈scope.names,x.2=.local->scope.names.lookup x.1=some .local) (hcell:∀x∈scope.names,x.2≠.cell)
  (hcl:sx X.env cl) (hhas:((relabel scope X.env).names.all fun p=>!(p.2 == .cell||p.2 == .free)||(cl.lookup p.1).isSome)=true)
  (hcap:Paired (Cap X scope cl) caps capN) (hN:Nc=tn++capN) (hn:tn.length=n)
  (hs:∀x,foldedSetIterable iter X.env x=pure x:=by intro _;rfl) :
  QE X (.ListComp elt [⟨tg,iter,[],0⟩] scope pos) (i7 ci g ce n caps):=(qF hc hi hg he hclos hkind hnl hcell hcl hhas hcap hN hn hs).imp yQ
def kG:Fn
 |[.tup us],S=>some (.int us.length,S)
 |[.ref l],S=>match S[l]? with
  |some (.lst us)=>some (.int us.length,S)
  |some (.dic us)=>some (.int us.length,S)
  |_=>none
 |[.kl ns],S=>some (.int ns.length,S)
 |_,_=>none
abbrev Ja(K:Q1):List V->Hp->VK->Prop:=fun xs H Q=>(∃p ys,xs=[.ref p]/\(SqL K H p ys\/SqT K H p ys)/\Q (.int ys.length) H)\/∃a kvs,xs=[V.ref a]/\H a=some (.dK kvs)/\Q (.int kvs.length) H
def lu:fq X (.builtin "len") (Ja X.K):=oA.or wJ
theorem IsL.one{m:List Addr}{H:Hp}{vs:List V}{u:U}(h:IsL K m H vs [u]):∃v,vs=[v]/\Is K m H v u:=by
 obtain⟨x,r,rfl,i,t⟩:=h.of_cons;rw[t.of_nil];exact⟨x,rfl,i⟩
theorem IsL.two{m:List Addr}{H:Hp}{vs:List V}{u w:U}(h:IsL K m H vs [u,w]):∃v x,vs=[v,x]/\Is K m H v u/\Is K m H x w:=by
 obtain⟨x,r,rfl,i,t⟩:=h.of_cons;obtain⟨y,rfl,j⟩:=t.one;exact⟨x,y,rfl,i,j⟩
theorem lh:k6 K (Ja K) kG:=by
 intro m S H us vs u S' Q sr i hf post;match us,hf with
 |[.tup ws],hf=>
  cases hf;obtain⟨v,rfl,iv⟩:=i.one;obtain⟨a,xs,rfl,sa,la⟩:=iv.of_tup;exact .inl ⟨a,xs,rfl,.inr sa,by rw[la.length];exact post m _ H .refl sr .int_⟩
 |[.ref l],hf=>
  obtain⟨v,rfl,iv⟩:=i.one;obtain⟨a,ha,rfl⟩:=iv.of_ref;simp only[kG]at hf;split at hf<;>try cases hf
  ·rename_i ws hS;obtain⟨a',ha',xs,hx,la⟩:=sr.get hS;rw[ha]at ha';cases ha';exact .inl ⟨a,xs,rfl,.inl (SqL.of hx),by rw[la.length];exact post m _ H .refl sr .int_⟩
  ·rename_i ws hS;obtain⟨a',ha',xs,hx,la⟩:=sr.get hS;rw[ha]at ha';cases ha';exact .inr ⟨a,xs,rfl,hx,by rw[IsP.length la];exact post m _ H .refl sr .int_⟩
 |[.kl ns],hf=>
  cases hf;obtain⟨v,rfl,iv⟩:=i.one;obtain⟨a,rfl,ka⟩:=iv.of_kl;exact .inl ⟨a,_,rfl,.inl ka.sq,by rw[QV];exact post m _ H .refl sr .int_⟩
def oj:Fn
 |[.tup us],S=>some (.ref S.length,S++[.lst us])
 |[.ref l],S=>match S[l]? with
  |some (.lst us)=>some (.ref S.length,S++[.lst us])
  |_=>none
 |_,_=>none
theorem va:k6 K (fun xs H Q=>∃p ys,xs=[.ref p]/\(SqL K H p ys\/SqT K H p ys)/\∀l,H l=none->Q (.ref l) (upd H l (.lst ys))) oj:=by
 intro m S H us vs u S' Q sr i hf post;match us,hf with
 |[.tup ws],hf=>
  cases hf;obtain⟨v,rfl,iv⟩:=i.one;obtain⟨a,xs,rfl,sa,la⟩:=iv.of_tup;exact⟨a,xs,rfl,.inr sa,fun l hl=>cV sr la post hl⟩
 |[.ref l],hf=>
  obtain⟨v,rfl,iv⟩:=i.one;obtain⟨a,ha,rfl⟩:=iv.of_ref;simp only[oj]at hf;split at hf<;>try cases hf
  rename_i ws hS;obtain⟨a',ha',xs,hx,la⟩:=sr.get hS;rw[ha]at ha';cases ha';exact⟨a,xs,rfl,.inl (SqL.of hx),fun l hl=>cV sr la post hl⟩
def jK:Fn
 |[.tup us],S=>some (.tup us,S)
 |[.ref l],S=>match S[l]? with
  |some (.lst us)=>some (.tup us,S)
  |_=>none
 |_,_=>none
theorem pM:k6 K (fun xs H Q=>∃p ys,xs=[.ref p]/\((SqL K H p ys/\∀l,H l=none->Q (.ref l) (upd H l (.tup ys)))\/(SqT K H p ys/\Q (.ref p) H))) jK:=by
 intro m S H us vs u S' Q sr i hf post;match us,hf with
 |[.tup ws],hf=>
  cases hf;obtain⟨v,rfl,iv⟩:=i.one;obtain⟨a,xs,rfl,sa,la⟩:=iv.of_tup;exact⟨a,xs,rfl,.inr ⟨sa,post m _ H .refl sr iv⟩⟩
 |[.ref l],hf=>
  obtain⟨v,rfl,iv⟩:=i.one;obtain⟨a,ha,rfl⟩:=iv.of_ref;simp only[jK]at hf;split at hf<;>try cases hf
  rename_i ws hS;obtain⟨a',ha',xs,hx,la⟩:=sr.get hS;rw[ha]at ha';cases ha';exact⟨a,xs,rfl,.inl ⟨SqL.of hx,fun l hl=>jW sr la post hl⟩⟩
def wj:Fn
 |[.int i],S=>some (.int i,S)
 |[.bl b],S=>some (.int (if b then 1 else 0),S)
 |_,_=>none
theorem BU:k6 K (fun xs H Q=>(∃i,xs=[.int i]/\Q (.int i) H)\/∃k,xs=[.bl k]/\Q (.int (if k then 1 else 0)) H) wj:=by
 intro m S H us vs u S' Q sr i hf post;match us,hf with
 |[.int j],hf=>
  cases hf;obtain⟨v,rfl,iv⟩:=i.one;exact .inl ⟨j,by rw[iv.of_int],post m _ H .refl sr .int_⟩
 |[.bl j],hf=>
  cases hf;obtain⟨v,rfl,iv⟩:=i.one;exact .inr ⟨j,by rw[iv.of_bl],post m _ H .refl sr .int_⟩
def Gg:Fn
 |[.int i,.int j],S=>some (.int (if j<i then j else i),S)
 |_,_=>none
theorem HK:k6 K (fun xs H Q=>∃i j,xs=[.int i,.int j]/\Q (.int (if j<i then j else i)) H) Gg:=by
 intro m S H us vs u S' Q sr i hf post;match us,hf with
 |[.int j,.int k],hf=>
  cases hf;obtain⟨v,w,rfl,iv,iw⟩:=i.two;exact⟨j,k,by rw[iv.of_int,iw.of_int],post m _ H .refl sr .int_⟩
def Gh:Fn
 |[.int i,.int j],S=>some (.int (if j>i then j else i),S)
 |_,_=>none
theorem HL:k6 K (fun xs H Q=>∃i j,xs=[.int i,.int j]/\Q (.int (if j>i then j else i)) H) Gh:=by
 intro m S H us vs u S' Q sr i hf post;match us,hf with
 |[.int j,.int k],hf=>
  cases hf;obtain⟨v,w,rfl,iv,iw⟩:=i.two;exact⟨j,k,by rw[iv.of_int,iw.of_int],post m _ H .refl sr .int_⟩
def sT:List U->Option (List Int)
 |[]=>some []
 |.int i::r=>(sT r).map (i::·)
 |_=>none
def C1:List U->Option (List Bool)
 |[]=>some []
 |.bl i::r=>(C1 r).map (i::·)
 |_=>none
theorem rN:∀{us:List U} {ns:List Int},sT us=some ns->us=ns.map U.int
 |[],ns,h=>by cases h;rfl
 |u::r,ns,h=>by
  cases u<;>simp only[sT]at h<;>try cases h
  obtain⟨ms,e,h⟩:=ZK.mp h;subst h;rw[rN e];rfl
theorem ky:∀(ns:List Int),sT (ns.map U.int)=some ns
 |[]=>rfl
 |n::r=>by simp[sT,ky r]
theorem wM:∀{us:List U} {ns:List Bool},C1 us=some ns->us=ns.map U.bl
 |[],ns,h=>by cases h;rfl
 |u::r,ns,h=>by
  cases u<;>simp only[C1]at h<;>try cases h
  obtain⟨ms,e,h⟩:=ZK.mp h;subst h;rw[wM e];rfl
theorem sh:∀(ns:List Bool),C1 (ns.map U.bl)=some ns
 |[]=>rfl
 |n::r=>by simp[C1,sh r]
theorem IsL.ints{m:List Addr}{H:Hp}:∀{xs:List V} {ns:List Int},IsL K m H xs (ns.map U.int)->xs=ns.map V.int
 |xs,[],h=>h.of_nil
 |xs,n::ns,h=>by
  obtain⟨x,r,rfl,i,t⟩:=h.of_cons;rw[IsL.ints t,i.of_int];rfl
theorem IsL.bls{m:List Addr}{H:Hp}:∀{xs:List V} {ns:List Bool},IsL K m H xs (ns.map U.bl)->xs=ns.map V.bl
 |xs,[],h=>h.of_nil
 |xs,n::ns,h=>by
  obtain⟨x,r,rfl,i,t⟩:=h.of_cons;rw[IsL.bls t,i.of_bl];rfl
theorem jX{m:List Addr}{H:Hp}:∀(ns:List Int),IsL K m H (ns.map V.int) (ns.map U.int)
 |[]=>.nil_
 |n::ns=>.cons_ .int_ (jX ns)
def cBM(f:U->List U->Sto->Option (U×Sto))(co:CE)(cr:CA):CE:=fun ρ S=>(co ρ S).bind fun p=>match p.1 with
 |.ref l=>match p.2[l]? with
  |some (.lst _)=>(cr ρ p.2).bind fun q=>f p.1 q.1 q.2
  |_=>none
 |_=>none
def MtP(K:Q1)(r:V->List V->Hp->VK->Prop)(f:U->List U->Sto->Option (U×Sto)):Prop:=
 ∀m S H x v us vs u S' Q,Sr K m S H->Is K m H v x->IsL K m H vs us->f x us S=some (u,S')->jv K m H Q u S'->r v vs H Q
theorem Ah{r:V->List V->Hp->VK->Prop}{f:U->List U->Sto->Option (U×Sto)}{co:CE}{cr:CA}(hp:MtP K r f):∀σ H Q,tE K (cBM f co cr) σ H Q->tBM K "list" r (tE K co) (tA K cr) σ H Q:=by
 rintro σ H Q ⟨m,ρ,S,u,S',sr,lr,hc,post⟩;obtain⟨⟨x,S1⟩,h1,h2⟩:=Q0.mp hc;refine⟨m,ρ,S,x,S1,sr,lr,h1,fun m1 v1 H1 e1 sr1 i1=>?_⟩;cases x with
 |ref l=>
  simp only at h2;split at h2<;>try cases h2
  rename_i ws hS;obtain⟨⟨us,S2⟩,h3,h4⟩:=Q0.mp h2;obtain⟨a,ha,rfl⟩:=id i1.of_ref;obtain⟨a',ha',xs,hx,la⟩:=sr1.get hS;rw[ha]at ha';cases ha';exact⟨.inl ⟨rfl,xs,SqL.of hx⟩,m1,ρ,S1,us,S2,sr1,lr.mono e1,h3,fun m2 vs H2 e2 sr2 i2=>hp m2 S2 H2 _ _ us vs u S' Q sr2 (i1.mono e2) i2 h4 (post.mono (e1.trans e2))⟩
 |_=>simp at h2
def fC:U->List U->Sto->Option (U×Sto)
 |.ref l,[u],S=>match S[l]? with
  |some (.lst us)=>if us.length<LIM then some (.non,S.set l (.lst (us++[u])))else none
  |_=>none
 |_,_,_=>none
theorem yj:MtP K uK fC:=by
 intro m S H x v us vs u S' Q sr ix i hf post;match x,us,hf with
 |.ref l,[w],hf=>
  simp only[fC]at hf;split at hf<;>try cases hf
  rename_i ws hS;split at hf<;>try cases hf
  rename_i hl;obtain⟨a,ha,rfl⟩:=ix.of_ref;obtain⟨a',ha',xs,hx,la⟩:=sr.get hS;rw[ha]at ha';cases ha';obtain⟨y,rfl,iy⟩:=i.one;have eu:Ext K m H m (upd H a (.lst (xs++[y]))):=.of (sr.keep ha _);exact⟨a,xs,y,rfl,rfl,hx,F8 (by rw[la.length];exact hl),post m _ _ eu (sr.put ha ⟨_,aA,(la.append (.cons_ iy .nil_)).mono eu⟩) .non_⟩
variable{e:QC}{es:List QC}{co:CE}{cr:CA}{o:QC}{apos cpos:Pos}
theorem jV (ho : QE X o co) (ha : QA X (e :: es) cr) (hbase : attributeBase o "append" X.env (eval o X.env) = eval o X.env := by rfl) (hfew : ((ZQ cpos (QJ (e :: es) X.env)).all (fun x => !x.1) && (backToKw cpos (keywordEach [] X.env)).all (fun x => x.1.isSome)
   && decide ((e::es).length+([]:List Keyword).length+(if ([]:List Keyword).isEmpty then 0 else 1)<30))=true:=by rfl) (hline:(apos.endLine == cpos.line)=true:=by rfl) (hs:QJ (e::es) X.env=(false,eval e X.env)::QJ es X.env:=by rfl) (hplain:(ZQ cpos (QJ es X.env)).any (·.1)=false:=by rfl) :
  QE X (.Call (.Attribute o "append" apos) (e::es) [] cpos) (cBM fC co cr):=(zm PySem.F.plainAttrs_list PySem.F.slot_list_append PySem.F.type_list_append kg ho ha.h hbase hfew hline hs hplain).imp (Ah yj)
end
structure TC(K:Q1)(c:Cl)(NS:List Str):Prop where
 cl:Cls K c.C
 ns:c.ns=NS
 nas:∀f∈NS,gY K c.C f
section
variable{K:Q1}{c:Cl}{NS:List Str}
def TC.ix(T:TC K c NS){i:Nat}{f:Str}(h:NS[i]?=some f):c.ns[i]?=some f:=by rw[T.ns];exact h
def TC.na(T:TC K c NS)(i:Nat){f:Str}(h:NS[i]?=some f):gY K c.C f:=T.nas f (Zg h)
def TC.nm(T:TC K c NS){f:Str}(h:f∉NS):f∉c.ns:=by rw[T.ns];exact h
end
theorem _root_.L2.Fun.pure{P:Qv}{w:Qe}{K:Q1}{mg:Str->Option Q2}{base:Heap}{x qual:Str}{st:Z0}{f:Addr}{fd:ZN}{N ps:List Str}{k:Nat}{c:CS}(F:Fun K x qual st f fd)(S:aM N ps (aq st))
  (hb:∀(cdv:Q2) (A:Qa) (outer:List Env) (s:Q3) (H:Hp) (E:XK),dG k (A.deeper (envOfC qual (aq st) s.heap.objs.size f cdv))->
   WSs (oX CX0 P w K mg base N qual (aq st) f cdv A outer s H E).nox (cI st) (tS K c)):jx P w K mg base CX0 (k+1) f fd ps (wZ K (fnU N.length ps.length c)):=
 Fun.okW F S (fun vs H Q E h=>my h) fun cdv A outer s H vs Q E hr h=>⟨_,hb cdv A outer s H E hr,qe (X:=(oX CX0 P w K mg base N qual (aq st) f cdv A outer s H E).nox) (body:=[]) (ps:=ps) rfl h⟩
def SI:Bool->Heap->Addr->Addr->Nat->Prop
 |true,h,it,a,i=>h.IsListIter it a i
 |false,h,it,a,i=>h.IsTupleIter it a i
def SA:Bool->Heap->Addr->Array Q2->Prop
 |true,h,a,xs=>h.IsList a xs
 |false,h,a,xs=>h.IsTuple a xs
theorem SI.at_{b:Bool}{h h':Heap}{it a:Addr}{i:Nat}(x:SI b h it a i)(k:∀o,h.get? it=some o->h'.get? it=some o):SI b h' it a i:=by
 cases b with
 |true=>obtain⟨o,e,r⟩:=x;exact⟨o,k o e,r⟩
 |false=>obtain⟨o,e,r⟩:=x;exact⟨o,k o e,r⟩
theorem SA.at_{b:Bool}{h h':Heap}{a:Addr}{xs:Array Q2}(x:SA b h a xs)(k:∀o,h.get? a=some o->h'.get? a=some o):SA b h' a xs:=by
 cases b with
 |true=>obtain⟨o,e,r⟩:=x;exact⟨o,k o e,r⟩
 |false=>obtain⟨o,e,r⟩:=x;exact⟨o,k o e,r⟩
theorem SI.obj{b:Bool}{h:Heap}{it a:Addr}{i:Nat}(x:SI b h it a i):∃o,h.get? it=some o/\∀v,o.data≠.cell v:=by
 cases b with
 |true=>obtain⟨o,e,c,d⟩:=x;exact⟨o,e,fun v z=>by rw[d]at z;cases z⟩
 |false=>obtain⟨o,e,c,d⟩:=x;exact⟨o,e,fun v z=>by rw[d]at z;cases z⟩
theorem SA.lt{b:Bool}{h:Heap}{a:Addr}{xs:Array Q2}(x:SA b h a xs):a<h.objs.size:=by
 cases b with
 |true=>obtain⟨o,e,_⟩:=x;exact QK e
 |false=>obtain⟨o,e,_⟩:=x;exact QK e
section
variable{prog:Qv}{w:Qe}{A:Qa}{E:Q2->Q3->Prop}{s:Q3}
theorem xE{I t:Addr}{j:Nat}{ys:Array Q2}{y:Q2}{Q:Q2->Q3->Prop}(hI:s.heap.IsTupleIter I t j)(hT:s.heap.IsTuple t ys)(hy:ys[j]?=some y)
  (k:∀h',h'.IsTupleIter I t (j+1)->Heap.SameBut I s.heap h'->Q y { s with heap:=h' }):wpAny (Qj prog w) A (Builtin.SmallTypes.nextOf (.ref I)) Q E s:=by
 obtain⟨oi,gi,ci,di⟩:=id hI;obtain⟨ot,gt,_,nt,dt⟩:=hT;unfold Builtin.SmallTypes.nextOf;refine Q5 (wpAny_callSpecial?_slot (name:=Str.ofString "__next__") hI.typeIs PySem.F.slot_tuple_iterator_next (wpAny_call_entry PySem.F.slot_tuple_iterator_next hI.typeIs PySem.F.entry_tuple_iterator_next ?_ (PySem.F.args_tuple_iterator_next_1 _)));show wpAny _ _ (field (.ref I) 0 >>= _) _ _ s;refine Q5 (wpAny_field gi di (x:=.ref t) rfl ?_);show wpAny _ _ (ite ((Value.ref t == Value.none)=true) _ _) _ _ s;rw[if_neg (by exact Q9)];show wpAny _ _ (field (.ref I) 1 >>= _) _ _ s;refine Q5 (wpAny_field gi di (x:=.int j 0) rfl ?_);show wpAny _ _ (seqItems? (.ref t) >>= _) _ _ s;refine Q5 (wpAny_seqItems gt dt ?_);simp only[hy,Zx];refine Q5 (wpAny_setField gi di (by simp) (QL ⟨y,rfl,QL (k _ ⟨_,Heap.get?_update_self _ gi (Obj.isFreed_of_fields (Obj.data_mapFields di _)),(Obj.cls_mapFields ..).trans ci,?_⟩ (Heap.SameBut.update ..))⟩));rw[Obj.data_mapFields di];simp[rawInt]
theorem nJ{I t:Addr}{j:Nat}{ys:Array Q2}{Q:Q2->Q3->Prop}(hh:A.handled=none)(hI:s.heap.IsTupleIter I t j)(hT:s.heap.IsTuple t ys)(hy:ys[j]?=none)
  (k:∀h' e,Heap.ExtBut I s.heap h'->(∃o,h'.get? e=some o/\o.cls=.type "StopIteration")->E (.ref e) { s with heap:=h' }):wpAny (Qj prog w) A (Builtin.SmallTypes.nextOf (.ref I)) Q E s:=by
 obtain⟨oi,gi,ci,di⟩:=id hI;obtain⟨ot,gt,_,nt,dt⟩:=hT;unfold Builtin.SmallTypes.nextOf;refine Q5 (wpAny_callSpecial?_slot (name:=Str.ofString "__next__") hI.typeIs PySem.F.slot_tuple_iterator_next (wpAny_call_entry PySem.F.slot_tuple_iterator_next hI.typeIs PySem.F.entry_tuple_iterator_next ?_ (PySem.F.args_tuple_iterator_next_1 _)));show wpAny _ _ (field (.ref I) 0 >>= _) _ _ s;refine Q5 (wpAny_field gi di (x:=.ref t) rfl ?_);show wpAny _ _ (ite ((Value.ref t == Value.none)=true) _ _) _ _ s;rw[if_neg (by exact Q9)];show wpAny _ _ (field (.ref I) 1 >>= _) _ _ s;refine Q5 (wpAny_field gi di (x:=.int j 0) rfl ?_);show wpAny _ _ (seqItems? (.ref t) >>= _) _ _ s;refine Q5 (wpAny_seqItems gt dt ?_);simp only[hy,Zx];refine Q5 (wpAny_rule (Q5 (wpAny_setField gi di (by simp) ?_)));show wpAny _ _ (newExc (.type "StopIteration") [] >>= _) _ _ _;simp only[newExc,newTuple];refine Q5 ?_;refine Q5 (wpAny_newObj_type ?_ (by(size_fits)));refine Q5 (m:=firstArgMember _ _) (wpAny_of_eq (a:=Value.none) (by simp only[firstArgMember]<;>rfl) ?_);refine wpAny_newObj_type ?_ (by(size_fits));simp only[raiseNew];refine Q5 (wpAny_handled ?_);rw[show A.in1.handled=none from hh];exact Q5 (QL (wpAny_throw (k _ _ (((Heap.SameBut.update ..).extBut.push _).push _) ⟨_,Qx _ rfl,rfl⟩)))
theorem Bh{b:Bool}{I t:Addr}{j:Nat}{ys:Array Q2}{y:Q2}{Q:Q2->Q3->Prop}(hI:SI b s.heap I t j)(hT:SA b s.heap t ys)(hy:ys[j]?=some y)
  (k:∀h',SI b h' I t (j+1)->Heap.SameBut I s.heap h'->Q y { s with heap:=h' }):wpAny (Qj prog w) A (Builtin.SmallTypes.nextOf (.ref I)) Q E s:=by
 cases b with
 |true=>exact wpAny_nextOf_list_item hI hT hy k
 |false=>exact xE hI hT hy k
theorem jZ{b:Bool}{I t:Addr}{j:Nat}{ys:Array Q2}{Q:Q2->Q3->Prop}(hh:A.handled=none)(hI:SI b s.heap I t j)(hT:SA b s.heap t ys)(hy:ys[j]?=none)
  (k:∀h' e,Heap.ExtBut I s.heap h'->(∃o,h'.get? e=some o/\o.cls=.type "StopIteration")->E (.ref e) { s with heap:=h' }):wpAny (Qj prog w) A (Builtin.SmallTypes.nextOf (.ref I)) Q E s:=by
 cases b with
 |true=>exact wpAny_nextOf_list_end hh hI hT hy k
 |false=>exact nJ hh hI hT hy k
def itO(b:Bool)(a:Addr):Obj:={ cls:=.type (if b then "list_iterator" else "tuple_iterator"),data:=.fields #[.ref a,.int 0 0] }
theorem Fo{b:Bool}{a i:Addr}{h:Heap}(e:h.get? i=some (itO b a)):SI b h i a 0:=by
 cases b with
 |true=>exact⟨_,e,rfl,rfl⟩
 |false=>exact⟨_,e,rfl,rfl⟩
end
def Sq(K:Q1):Bool->Hp->Addr->List V->Prop
 |true,H,a,xs=>SqL K H a xs
 |false,H,a,xs=>SqT K H a xs
section
variable{X:Cx}{pins:List (Addr×Obj)}{σ:L2.St}{H:Hp}{s:Q3}{h':Heap}
theorem _root_.L2.Inv.turnedL{t':Nat}{ch:List Addr}(I:Inv X pins σ H s)(k:∀b o,b∉ch->s.heap.get? b=some o->h'.get? b=some o)(hf:∀b∈ch,tH X pins H b):Inv X pins σ H { s with heap:=h',toks:=t' }:=by
 have nit:∀b u,H b=some u->b∉ch:=fun b u e z=>by rw[(hf b z).1]at e;cases e
 refine I.step (g':=s.gens) (d':=s.drawn) (ch:=ch) (fun b hb=>⟨(hf b hb).2.2.2.1,(hf b hb).2.1,(hf b hb).2.2.2.2.1,(hf b hb).2.2.2.2.2⟩) (fun b o _ _ hc e _=>k b o hc e) (fun b o _ _ hc e _=>⟨o.slots,k b o hc e⟩) (fun _ _ _ _ n=>n)
  (fun b o hc e=>⟨o,k b o hc e⟩) (fun _ _ e=>e) (fun _ _ _ e=>e) (fun b ps e=>⟨#[],by rw[e];simp⟩) (fun m hm=>?_) (fun b u e=>?_) I.bare
 ·obtain⟨o,es,ep,ho,r⟩:=hm;exact⟨o,es,ep,k _ o (fun z=>(hf _ z).2.1 rfl) ho,r⟩
 ·refine(I.hok b u e).stay (fun c v hc q=>k c v ?_ q) (fun _ q=>q) fun _ _ q=>q;rcases hc with z|z
  ·rw[z];exact nit b u e
  ·exact nit c _ z
theorem _root_.L2.Inv.sq{b:Bool}{a:Addr}{xs:List V}(I:Inv X pins σ H s)(h:Sq X.K b H a xs):∃its:List Q2,bD xs its/\SA b s.heap a its.toArray:=by
 cases b with
 |true=>obtain⟨its,r,p,_⟩:=I.list h;exact⟨its,r,p.isList⟩
 |false=>obtain⟨its,r,p,_⟩:=I.tuple h;exact⟨its,r,p⟩
theorem _root_.L2.Inv.sq_inj{b:Bool}{a:Addr}{xs ys:List V}(I:Inv X pins σ H s)(h:Sq X.K b H a xs)(h2:Sq X.K b H a ys):xs=ys:=by
 cases b with
 |true=>exact I.list_inj h h2
 |false=>exact I.tuple_inj h h2
end
theorem xV{h:Heap}{ob o:Obj}{e:Addr}(q:(h.push ob).get? e=some o)(ne:e≠h.objs.size):h.get? e=some o:=(Heap.get?_push_ne h e ob ne).symm.trans q
theorem yf{P:Qv}{w:Qe}{H:Hp}{h:Heap}{a:Addr}{x y:V}{u v:Q2}(e:h.get? a=some { cls:=.type "tuple",data:=.seq #[u,v] })(rx:bR x u)(ry:bR y v):c8 P w H h a (.tup [x,y]):=
 ⟨by show 2<=QD;decide,[u,v],.cons rx (.cons ry .nil),⟨_,e,⟨rfl,rfl⟩,_,rfl⟩⟩
def D9:U->Sto->Option (List U×(Sto->Prop))
 |.tup us,_=>some (us,fun _=>True)
 |.ref l,S=>match S[l]? with
  |some (.lst us)=>some (us,fun S=>S[l]?=some (.lst us))
  |_=>none
 |_,_=>none
theorem D8{K:Q1}{m:List Addr}{S:Sto}{H:Hp}{u:U}{v:V}{us:List U}{ok:Sto->Prop}(sr:Sr K m S H)(iu:Is K m H v u)(h:D9 u S=some (us,ok)) :
  ∃b a,v=.ref a/\(∃xs,Sq K b H a xs)/\∀m2 S2 H2,Ext K m H m2 H2->Sr K m2 S2 H2->ok S2->∃xs,Sq K b H2 a xs/\IsL K m2 H2 xs us:=by
 cases u with
 |tup ws=>
  cases h;obtain⟨a,xs,rfl,sq,il⟩:=iu.of_tup;exact⟨false,a,rfl,⟨xs,sq⟩,fun m2 S2 H2 e _ _=>⟨xs,e.keep.t _ _ sq,il.mono e⟩⟩
 |ref l=>
  simp only[D9]at h;split at h<;>try cases h
  rename_i us hS;obtain⟨a,ha,rfl⟩:=iu.of_ref;obtain⟨a',ha',xs,hx,il⟩:=sr.get hS;rw[ha]at ha';cases ha';refine⟨true,a,rfl,⟨xs,SqL.of hx⟩,fun m2 S2 H2 e sr2 hok=>?_⟩;obtain⟨a',ha',xs,hx,il⟩:=sr2.get hok;rw[e.get ha]at ha';cases ha';exact⟨xs,SqL.of hx,il⟩
 |_=>simp[D9]at h
theorem Cu{b:Bool}{prog:Qv}{w:Qe}{A:Qa}(hh:A.handled=none)(it a:Addr)(hne:a≠it)(ys:Array Q2) :
  Draws prog w A it [it,a] ys.size (fun i v=>ys[i]?=some v) (fun i h=>SI b h it a i/\SA b h a ys) where
 live:=fun _ _ st=>let ⟨o,ho,_⟩:=st.1.obj;⟨o,ho⟩
 frame:=fun _ _ _ st hk=>⟨st.1.at_ fun o e=>hk it (by simp) o e,st.2.at_ fun o e=>hk a (by simp) o e⟩
 item:=fun i s Q E hi st hQ=>Bh st.1 st.2 (y:=ys[i]) (by simp[hi]) fun h' it' s'=>hQ _ h' s.toks (by simp[hi]) ⟨it',st.2.at_ fun o e=>s'.extBut _ _ hne e⟩ s'
 done:=fun s Q E st hE=>jZ hh st.1 st.2 (by simp) hE
structure ESt(b:Bool)(h:Heap)(e it a:Addr)(n:Nat):Prop where
 he:∃old,IsEnum h e it n old
 hi:SI b h it a n
theorem wk(l:Addr)(ys:Array Q2)(n:Nat)(dct:Option Addr)(sl:Array (Option Q2)) :
  Meets (Builtin.«enumerate.__new__» ⟨[.type "enumerate",.ref l],[]⟩) (fun _ R s=>s.heap.get? l=some { cls:=.type "tuple",dict:=dct,data:=.seq ys n,slots:=sl }/\
   R (.ok (.ret (.ref (s.heap.push (itO false l)).objs.size))) { s with heap:=(s.heap.push (itO false l)).push { cls:=.type "enumerate",data:=.fields #[.none,.bool false,.ref s.heap.objs.size,rawInt 0,.none,.none] } }):=
 .of_wp fun prog w A R s q=>by
  obtain⟨hp,g,d,tk,os⟩:=s;obtain⟨gl,q⟩:=q;have sb:=sub_enumerate;have tl:Heap.IsTuple (Shared.heap ⟨hp,g,d,tk,os⟩) l ys:=⟨_,gl,rfl,n,rfl⟩
  wp_walk using wpAny_loadPart' gl
  refine wpAny_stack_any (fun st=>QL ?_);split
  ·rename_i c _ _ _ _ _;cases (c == Value.type "enumerate")<;>(wp_walk using wpAny_loadPart' gl,wpAny_pyIter_tuple tl;exact⟨_,rfl,q⟩)
  ·wp_walk using wpAny_loadPart' gl,wpAny_pyIter_tuple tl
   exact⟨_,rfl,q⟩
theorem wm{b:Bool}{prog:Qv}{w:Qe}{A:Qa}{E:Q2->Q3->Prop}{s:Q3}{a:Addr}{ys:Array Q2}{Q:Q2->Q3->Prop}(ha:SA b s.heap a ys)
  (k:∀h' e it,e≠it->s.heap.objs.size<=e->s.heap.objs.size<=it->ESt b h' e it a 0->(∀c o,s.heap.get? c=some o->h'.get? c=some o)->Q (.ref e) { s with heap:=h' }) :
  wpAny (Qj prog w) A (call (.type "enumerate") [.ref a]) Q E s:=by
 cases b with
 |true=>exact call_enumerate_list ha fun h' e1 e2 sz up=>k h' _ _ (by omega) (Nat.le_add_right _ _) (Q8 _) ⟨⟨_,e1⟩,e2⟩ up
 |false=>
  obtain⟨⟨c,dct,dt,sl⟩,gl,hc,n,hd⟩:=ha;simp only at hc hd;subst hc hd;refine callType_new PySem.F.called_enumerate (by decide) (PySem.F.typeCall_enumerate_1 _) (PySem.F.newCall_enumerate_1 _) (fun obj=>PySem.F.args_object_init_2 obj _) PySem.F.entry_enumerate_new (wk a ys n dct sl) ⟨gl,?_⟩;have n1:(s.heap.push (itO false a)).objs.size=s.heap.objs.size+1:=Zy ..;have p2:=Qx (s.heap.push (itO false a)) (o:={ cls:=.type "enumerate",data:=.fields #[.none,.bool false,.ref s.heap.objs.size,rawInt 0,.none,.none] }) rfl;have p1:((s.heap.push (itO false a)).push { cls:=.type "enumerate",data:=.fields #[.none,.bool false,.ref s.heap.objs.size,rawInt 0,.none,.none] }).get? s.heap.objs.size=some (itO false a):=Q7 _ (Qx _ rfl);rw[n1]at p2;show _/\_;rw[n1];exact⟨⟨_,p2,rfl⟩,k _ (s.heap.objs.size+1) s.heap.objs.size (Nat.ne_of_gt (Nat.lt_succ_self _)) (Nat.le_add_right _ _) (Q8 _) ⟨⟨_,p2⟩,Fo p1⟩ fun c o x=>Q7 _ (Q7 _ x)⟩
theorem yJ{b:Bool}{prog:Qv}{w:Qe}{A:Qa}{E:Q2->Q3->Prop}{s:Q3}{e it a:Addr}{i:Int}{j:Nat}{ys:Array Q2}{old:Q2}{Q:Option Q2->Q3->Prop}(hh:A.in1.handled=none)(he:IsEnum s.heap e it i old)(hi:SI b s.heap it a j)(ha:SA b s.heap a ys)(hx:ys[j]?=none)
  (k:∀h',Heap.ExtBut it s.heap h'->Q none { s with heap:=h' }):wpAny (Qj prog w) A (pyNext (.ref e)) Q E s:=by
 have ty:s.TypeIs (.ref e) "enumerate":=⟨_,he,rfl⟩;unfold pyNext;refine Q5 (wpAny_attempt (wpAny_callSpecial?_slot (name:=Str.ofString "__next__") ty PySem.F.slot_enumerate_next (wpAny_call_entry PySem.F.slot_enumerate_next ty PySem.F.entry_enumerate_next ?_ (PySem.F.args_enumerate_next_1 _))));show wpAny _ _ (field (.ref e) 2 >>= fun _=>_) _ _ _;refine Q5 (wpAny_field he rfl (x:=.ref it) rfl (Q5 (jZ hh hi ha hx fun h' x he' hx'=>?_)));obtain⟨o,ho,co⟩:=hx';exact Q5 (wpAny_isInstance (T:="StopIteration") (b:=true) ⟨o,ho,co⟩ isSubtype_stop (QL (k _ he')))
def Ite(K:Q1)(b:Bool)(a:Addr):It:=
  ⟨fun i H=>∃xs x,Sq K b H a xs/\xs[i]?=some x,
   fun i H v H'=>∃p x,v=.ref p/\H p=none/\H'=upd H p (.tup [.int i,x])/\∀xs,Sq K b H a xs->xs[i]?=some x,
   fun i H=>∃xs,Sq K b H a xs/\xs.length<=i⟩
theorem uo{P:Qv}{w:Qe}{K:Q1}{es:List QC}{k:Nat}{pos:Pos}{b:Bool}{e it a:Addr}(ne:e≠it)(nae:a≠e)(nai:a≠it) :
  C2 P w K (.Tuple es k pos) (Ite K b a) [e,it] e (fun n h=>ESt b h e it a n) where
 mem:=by simp
 obj:=fun n h st c hc=>by
  obtain⟨⟨old,he⟩,hi⟩:=st;simp only[QM,Zj,or_false]at hc;rcases hc with rfl|rfl
  ·exact⟨_,he,fun v q=>by cases q⟩
  ·exact hi.obj
 keep:=fun n h h' st kp=>let ⟨old,he⟩:=st.he;⟨⟨old,kp e (by simp) _ he⟩,st.hi.at_ fun o q=>kp it (by simp) o q⟩
 item:=by
  intro X hP hw hK hc n pins s σ H E Iv hf st hg;subst hP hw hK;obtain⟨xs,x,qa,hx⟩:=hg;obtain⟨ia,ra,sa⟩:=Iv.sq qa;obtain⟨u,hu,ru⟩:=ra.get hx;obtain⟨⟨old,he⟩,hi⟩:=st;have hlt:n<ia.toArray.size:=by simpa using (Q6.mp hu).1
  refine wpAny_pyNext_enum_itemD (Cu (b:=b) (show X.A.in1.handled=none from Iv.ok.hd hc) it a nai ia.toArray) he ⟨hi,sa⟩ hlt ne (by simp[ne,Ne.symm nae]) fun y h1 tk py out1 st1 T1 sz1 up1=>⟨_,rfl,wpAny_letOwnedTupleGo_enum out1 fun h2 e2 s2=>?_⟩;have ey:y=u:=by
   have p':ia.toArray[n]?=some y:=py;rw[List.getElem?_toArray,hu]at p';cases p';rfl
  subst ey;have hfr:H s.heap.objs.size=none:=Iv.hok.fresh (Q8 _);have elt:e<s.heap.objs.size:=QK he;have ilt:it<s.heap.objs.size:=by obtain⟨o,q,_⟩:=hi.obj;exact QK q
  have sz:∀c∈[e,it],c<s.heap.objs.size:=fun c hc=>by
   simp only[QM,Zj,or_false]at hc;rcases hc with rfl|rfl
   ·exact elt
   ·exact ilt
  have T2:h2.get? s.heap.objs.size=some { cls:=.type "tuple",data:=.seq #[.int n tk,y] }:=s2.extBut _ _ (Nat.ne_of_gt elt) T1;have I1:Inv X pins σ (upd H s.heap.objs.size (.tup [.int n,x])) { s with heap:=s.heap.push { cls:=.type "tuple",data:=.seq #[.int n tk,y] },toks:=s.toks }:=
   Iv.laid (fun b o e=>Q7 _ e) (Q8 _) (yf (Qx _ rfl) ⟨tk,rfl⟩ ru)
  have fr2:∀c∈[e,it],(upd H s.heap.objs.size (.tup [.int n,x])) c=none:=fun c hc=>by rw[aB (Qy (sz c hc))];exact(hf c hc).1
  have I2:Inv X pins σ (upd H s.heap.objs.size (.tup [.int n,x])) { s with heap:=h2,toks:=tk+1 }:=
   Inv.turnedL (s:={ s with heap:=s.heap.push { cls:=.type "tuple",data:=.seq #[.int n tk,y] },toks:=s.toks }) (h':=h2) (t':=tk+1) (ch:=[e,it]) I1 (fun c o hn q=>by
    by_cases ce:c=s.heap.objs.size
    ·subst ce;have q':(s.heap.push { cls:=.type "tuple",data:=.seq #[.int n tk,y] }).get? s.heap.objs.size=some o:=q;rw[Qx _ rfl]at q';cases q';exact T2
    ·have q':s.heap.get? c=some o:=xV q ce;simp only[QM,Zj,or_false,not_or]at hn;exact s2.extBut _ _ hn.1 (up1 c o hn.1 hn.2 q')) fun c hc=>⟨fr2 c hc,(hf c hc).2⟩
  refine⟨.ref s.heap.objs.size,_,I2,rfl,⟨_,x,rfl,hfr,rfl,fun xs' q=>by rw[Iv.sq_inj q qa];exact hx⟩,⟨⟨_,by simpa using e2⟩,st1.1.at_ fun o q=>s2.extBut _ _ (Ne.symm ne) q⟩,fr2⟩
 done:=by
  intro X hP hw hK hc n pins s σ H E Iv hf st hg;subst hP hw hK;obtain⟨xs,qa,hx⟩:=hg;obtain⟨ia,ra,sa⟩:=Iv.sq qa;have la:=ra.length;obtain⟨⟨old,he⟩,hi⟩:=st;refine yJ (show X.A.in1.handled=none from Iv.ok.hd hc) he hi sa (by simp;omega) fun h1 up1=>⟨rfl,?_⟩;exact Iv.turnedL (t':=s.toks) (ch:=[e,it]) (fun c o hn q=>by
   simp only[QM,Zj,or_false,not_or]at hn;exact up1 c o hn.2 q) hf
 self:=fun _ _ _ _ _ st h=>let ⟨old,he⟩:=st.he;wpAny_pyIter_enum he h
def Ft(K:Q1)(ta:TA):TI:=fun σ H R=>ta σ H fun vs H2=>∃b a,vs=[.ref a]/\(∃xs,Sq K b H2 a xs)/\R (Ite K b a) H2
def wL:Z7 "enumerate"=some (.type "enumerate"):=rfl
section
variable{X:Cx}{pos:Pos}
theorem A5{es:List QC}{k:Nat}{tp p:Pos}{a:QC}{ta:TA}(hg:Gl X "enumerate")(hm:X.mg "enumerate"=none)(ha:WA X [a] ta)
  (hs:QJ [a] X.env=(false,eval a X.env)::QJ [] X.env:=by rfl) (hpl:(ZQ pos (QJ [] X.env)).any (·.1)=false:=by rfl):WI X (.Tuple es k tp) (.Call (.Name "enumerate" p) [a] [] pos) (Ft X.K ta):=by
 constructor;intro pins s σ H R I h;refine wpAny_Call_Name_kw (kq I hg hm OP.wL ?_);refine PyProof.Rows.callWith_type1 (thn (ha.h pos pins s σ H _ I h) fun us s1 hz=>?_) hs hpl;obtain⟨vs,H1,I1,r1,q1⟩:=hz;obtain⟨b,aa,rfl,⟨xs,qa⟩,q⟩:=q1;obtain⟨u,rfl,ru⟩:=k7 r1;cases ru;obtain⟨ia,ra,sa⟩:=I1.sq qa;refine wm sa fun h1 e it ne he hi st up=>?_;obtain⟨old,hE⟩:=st.he;refine wpAny_pyIter_enum hE ⟨e,[e,it],_,_,H1,rfl,I1.kept (t':=s1.toks) up,uo ne (Qy (Qq sa.lt he)) (Qy (Qq sa.lt hi)),st,fun c hc=>?_,q⟩;simp only[QM,Zj,or_false]at hc;rcases hc with rfl|rfl
 ·exact I1.fpOk he (I1.hok.fresh he)
 ·exact I1.fpOk hi (I1.hok.fresh hi)
def sY(us:List U):List U:=us.zipIdx.map fun p=>.tup [.int p.2,p.1]
def yC(ca:CE):CI:=fun ρ S=>(ca ρ S).bind fun p=>(D9 p.1 p.2).bind fun x=>some (sY x.1,x.2,p.2)
theorem Bs{es:List QC}{k:Nat}{tp p:Pos}{a:QC}{ca:CE}(hg:Gl X "enumerate")(hm:X.mg "enumerate"=none)(ha:QE X a ca)
  (hs:QJ [a] X.env=(false,eval a X.env)::QJ [] X.env:=by rfl) (hpl:(ZQ pos (QJ [] X.env)).any (·.1)=false:=by rfl) :
  QI X (.Tuple es k tp) (.Call (.Name "enumerate" p) [a] [] pos) (yC ca):=(A5 hg hm (qG ha ug hs) hs hpl).imp fun σ H R hz=>sX hz fun m ρ S us ok S' sr lr hf post=>by
 obtain⟨⟨x,S1⟩,h1,h⟩:=Q0.mp hf;obtain⟨⟨xs,okx⟩,h3,h⟩:=Q0.mp h;cases h;refine⟨m,ρ,S,x,_,sr,lr,h1,fun m1 v1 H1 e1 sr1 i1=>?_⟩;obtain⟨b,aa,rfl,q1,k1⟩:=D8 sr1 i1 h3;refine⟨b,aa,rfl,q1,post m1 H1 _ e1 sr1 fun m3 S3 H3 i e3 sr3 hok=>?_⟩;obtain⟨vs,sq1,l1⟩:=k1 m3 S3 H3 e3 sr3 hok;have n1:=l1.length;refine⟨fun u hu=>?_,fun hi=>⟨vs,sq1,?_⟩⟩
 ·simp only[sY,Qu,ZK,List.getElem?_zipIdx]at hu;obtain⟨⟨p,q⟩,⟨y,hp,e⟩,rfl⟩:=hu;cases e;obtain⟨vp,ep,ip⟩:=l1.getD hp;refine⟨⟨vs,vp,sq1,ep⟩,fun v H4 hy=>?_⟩;obtain⟨r,x',rfl,hr,rfl,f1⟩:=hy;have:=f1 vs sq1;rw[ep]at this;cases this;have ee:Ext X.K m3 H3 m3 (upd H3 r (.tup [.int i,vp])):=.of (bI hr _);exact⟨ee,sr3.same (ft hr _),.tup_ (SqT.of aA) (.cons_ (by simp only[Nat.zero_add];exact .int_) (.cons_ (ip.mono ee) .nil_))⟩
 ·simp only[sY,QV,List.length_zipIdx]at hi;omega
def j8:List (CE×CE)->Rho->Sto->Option (List (Key×U)×Sto)
 |[],_,S=>some ([],S)
 |(ck,cv)::r,ρ,S=>(ck ρ S).bind fun p=>(cv ρ p.2).bind fun q=>(jJ p.1).bind fun k=>(j8 r ρ q.2).bind fun z=>some ((k,q.1)::z.1,z.2)
def EY(kus:List (Key×U))(au:List (Key×U)):List (Key×U):=kus.foldl (fun acc kv=>cQ acc kv.1 kv.2) au
def vt(kus:List (Key×U)):List (Key×U):=EY kus []
def FI(prs:List (CE×CE)):CE:=fun ρ S=>(j8 prs ρ (S++[.dic []])).bind fun q=>match q.2[S.length]? with
 |some (.dic [])=>some (.ref S.length,q.2.set S.length (.dic (vt q.1)))
 |_=>none
end
theorem n6:∀{vs:List Q2} {ns:List Int},IntsAre vs ns->bD (ns.map V.int) vs
 |_,_,.nil=>.nil
 |_,_,.cons n t r=>.cons ⟨t,rfl⟩ (n6 r)
theorem fR:∀{ns:List Int} {vs:List Q2},bD (ns.map V.int) vs->IntsAre vs ns
 |[],_,h=>by cases h;exact .nil
 |n::ns,_,.cons r t=>by
  obtain⟨k,rfl⟩:=r;exact .cons n k (fR t)
def uJ(K:Q1):List V->Hp->VK->Prop:=fun xs H Q=>∃(p:Addr) (ns:List Int),xs=[.ref p]/\(SqL K H p (ns.map V.int)\/∃kvs,H p=some (.dK kvs)/\kvs.map (·.1)=ns.map Sum.inl)/\ns.length<64/\
 ∀(l:Addr) (ms:List Int),H l=none->ms.Perm ns->ms.Pairwise (·<=·)->Q (.ref l) (upd H l (.lst (ms.map V.int)))
theorem pX{κ:Type}:∀{kvs:List (κ×V)} {vs:List (κ×Q2)},KV kvs vs->vs.map (·.1)=kvs.map (·.1)
 |_,_,.nil=>rfl
 |_,_,.cons r t=>by rw[QN,QN,pX t,r.1]
theorem vy{P:Qv}{w:Qe}{H:Hp}{h:Heap}{a:Addr}{ms:List Int}{out:Array Q2}{e:Nat}(g:h.get? a=some (seqObj "list" out e))(hI:IntsAre out.toList ms)(hl:ms.length<64):c8 P w H h a (.lst (ms.map V.int)):=
 ⟨by rw[QV];exact Nat.le_of_lt (Qq hl (by unfold QD;decide)),out.toList,e,n6 hI,by rw[Array.toArray_toList];exact g⟩
theorem mJ{X:Cx}(hc:X.calm=true):fq X (.builtin "sorted") (uJ X.K):=by
 rintro pins s σ H xs us Q I r ⟨p,ns,rfl,src,h64,q⟩;obtain⟨u,rfl,ru⟩:=k7 r;cases ru;rcases src with hL|⟨kvs,hD,hk⟩
 ·obtain⟨its,rv,pl,hz⟩:=I.list hL;have hI:=fR rv;have hlen:=rv.length;rw[QV]at hlen;refine sorted_ints pl.isList hI (by omega) fun out ms a1 a2 a3=>?_;obtain⟨e,ge⟩:=sortedAll_at s.heap its out;have hf:=I.hok.fresh (Nat.le_succ s.heap.objs.size);exact⟨.ref (s.heap.objs.size+1),_,I.laid (t':=s.toks) (fun b o e=>sortedAll_old e) (Nat.le_succ _) (vy ge a1 (by rw[a2.length_eq];exact h64)),rfl,q _ ms hf a2 a3⟩
 ·obtain⟨z,hd,vs,rel,dd⟩:=wy I.hok hD;obtain⟨ep,da⟩:=dd.dictAt;have lkv:kvs.length=ns.length:=by have:=congrArg List.length hk;simpa using this
  have lv:vs.length=ns.length:=by rw[<-Paired.length rel];exact lkv
  have ks:vs.map (·.1)=ns.map Sum.inl:=by
   rw[<-hk];exact pX rel
  refine Calls.call_function_entry kind_sorted plain_sorted entry_sorted (args_sorted1 _) ?_;unfold Builtin.«sorted»;refine Q5 (m:=checkCount "sorted" 1 1 _) (QL (Q5 (PySem.W.kdu_collect (PySem.W.kdl_dict (kvs:=vs) (ep:=ep) hd) (show X.A.in1.handled=none from I.ok.hd hc) da (by rw[lv,<-lkv];exact z) fun h1 tk acc up hac=>?_)));have hla:acc.toList.length=ns.length:=by rw[Qh,hac.1,lv]
  have hI:IntsAre acc.toList ns:=by
   have key:∀(i:Nat) (v:Q2),acc.toList[i]?=some v->∃(n:Int) (t:Tok),ns[i]?=some n/\v=Value.int n t:=fun i v e=>by
    obtain⟨k,x,e1,e2⟩:=hac.2 i v (by rw[<-Array.getElem?_toList];exact e);have e3:(vs.map (·.1))[i]?=some k:=by rw[Qu,e1];rfl
    rw[ks,Qu]at e3;obtain⟨n,e4,e5⟩:=ZK.mp e3;subst e5;rcases br (k:=Sum.inl n) e2 with⟨j,t,e6,e7⟩|⟨j,t,e6,e7⟩
    ·cases e6;exact⟨n,t,e4,e7⟩
    ·cases e6
   clear hac;generalize acc.toList=L at key hla;clear ks lv lkv h64 q hk;induction L generalizing ns with
   |nil=>cases ns with
    |nil=>exact .nil
    |cons a b=>simp at hla
   |cons a b ih=>cases ns with
    |nil=>simp at hla
    |cons c d=>
     obtain⟨n,t,e1,e2⟩:=key 0 a (by simp);simp at e1;subst e1;subst e2;exact .cons _ t (ih _ (fun i v e=>by have:=key (i+1) v (by simpa using e);simpa using this) (by simpa using hla))
  refine Q5 (wpAny_newList ?_ (by rw[hla,<-lkv];exact z));have gL:(h1.push { cls:=.type "list",data:=.seq acc.toList.toArray }).get? h1.objs.size=some (seqObj "list" acc.toList.toArray 0):=Qx _ rfl;refine Q5 (wpAny_holding (wpAny_call_entry slot_list_sort ⟨_,gL,rfl⟩ entry_list_sort (list_sort_tree (s:={ s with heap:=h1.push { cls:=.type "list",data:=.seq acc.toList.toArray },toks:=tk }) gL hI (by omega) fun out ms a1 a2 a3=>⟨_,rfl,?_⟩) (args_list_sort _)));obtain⟨e,ge⟩:=sortedHeap_at (out:=out) gL;have I1:Inv X pins σ H { s with heap:=h1,toks:=tk }:=I.kept up;have hf:=I1.hok.fresh (Q8 h1.objs.size);refine QL ⟨_,rfl,.ref h1.objs.size,_,Inv.laid (s:={ s with heap:=h1,toks:=tk }) (h':=sortedHeap (h1.push { cls:=.type "list",data:=.seq acc.toList.toArray }) h1.objs.size acc.toList out) (t':=tk) I1 (fun b o g1=>?_) (Q8 _) (vy ge a1 (by rw[a2.length_eq];exact h64)),rfl,q _ ms hf a2 a3⟩;have g1:h1.get? b=some o:=g1;have lt1:=QK g1;rw[sortedHeap_old (Qy lt1) (by rw[Zy];exact Nat.lt_succ_of_lt lt1)];exact Q7 _ g1
def bz(ns:List Int):List Int:=ns.mergeSort (fun a b=>decide (a<=b))
def dW(ns:List Int):(bz ns).Perm ns:=List.mergeSort_perm ..
theorem jy(ns:List Int):(bz ns).Pairwise (·<=·):=by
 have:=List.pairwise_mergeSort (le:=fun(a b:Int)=>decide (a<=b)) (fun a b c h1 h2=>by simp at h1 h2 ⊢;omega) (fun a b=>by simp;omega) ns;exact this.imp fun h=>by simpa using h
theorem mz{ns ms:List Int}(p:ms.Perm ns)(s:ms.Pairwise (·<=·)):ms=bz ns:=PySem.W.lks_uniq (p.trans (dW ns).symm) s (jy ns)
def mM:List (Key×U)->Option (List Int)
 |[]=>some []
 |(.inl n,_)::r=>(mM r).map (n::·)
 |_=>none
theorem mL:∀{kus:List (Key×U)} {ns:List Int},mM kus=some ns->kus.map (·.1)=ns.map Sum.inl
 |[],ns,h=>by cases h;rfl
 |(k,u)::r,ns,h=>by
  cases k<;>simp only[mM]at h<;>try cases h
  obtain⟨ms,e,h⟩:=ZK.mp h;subst h;simp[mL e]
def d8:Fn
 |[.ref l],S=>match S[l]? with
  |some (.lst us)=>(sT us).bind fun ns=>if ns.length<64 then some (.ref S.length,S++[.lst ((bz ns).map U.int)])else none
  |some (.dic kus)=>(mM kus).bind fun ns=>if ns.length<64 then some (.ref S.length,S++[.lst ((bz ns).map U.int)])else none
  |_=>none
 |_,_=>none
theorem mH{K:Q1}:k6 K (uJ K) d8:=by
 intro m S H us vs u S' Q sr i hf post;match us,hf with
 |[.ref l],hf=>
  obtain⟨v,rfl,iv⟩:=i.one;obtain⟨a,ha,rfl⟩:=iv.of_ref;simp only[d8]at hf;split at hf<;>try cases hf
  ·rename_i ws hS;obtain⟨ns,hn,h⟩:=Q0.mp hf;split at h<;>try cases h
   have hc:ns.length<64:=by assumption
   obtain⟨a',ha',xs,hx,la⟩:=sr.get hS;rw[ha]at ha';cases ha';rw[rN hn]at la;rw[la.ints]at hx;refine⟨a,ns,rfl,.inl (SqL.of hx),hc,fun p ms hp pm sm=>?_⟩;rw[mz pm sm];exact cV sr (jX _) post hp
  ·rename_i ws hS;obtain⟨ns,hn,h⟩:=Q0.mp hf;split at h<;>try cases h
   have hc:ns.length<64:=by assumption
   obtain⟨a',ha',kvs,hx,ip⟩:=sr.get hS;rw[ha]at ha';cases ha';refine⟨a,ns,rfl,.inr ⟨kvs,hx,by rw[ip.1,mL hn]⟩,hc,fun p ms hp pm sm=>?_⟩;rw[mz pm sm];exact cV sr (jX _) post hp
section
variable{ρ:Rho}{S:Sto}{c1 c2:CS}{t ta tb:CT}{ca cb cc:CE}{cr:CA}{u x y:U}{us:List U}{i l:Nat}{f g:U->U->Sto->Option (U×Sto)}{b:Bool}
def Je(S:Sto):Option (Option U)->Option (U×Sto)
 |some (some u)=>some (u,S)
 |_=>none
def Ak:ah i ρ S=Je S (ρ[i]?):=rfl
def tJ:Je S (some (some u))=some (u,S):=rfl
def x_c:cC u ρ S=some (u,S):=rfl
def HY(f:U->U->Sto->Option (U×Sto))(x:U)(q:U×Sto):=f x q.1 q.2
def Jj(f:U->U->Sto->Option (U×Sto))(cb:CE)(ρ:Rho)(p:U×Sto):=(cb ρ p.2).bind (HY f p.1)
def GF:cOp f ca cb ρ S=(ca ρ S).bind (Jj f cb ρ):=rfl
def Ap:Jj f cb ρ (x,S)=(cb ρ S).bind (HY f x):=rfl
def Ao:HY f x (y,S)=f x y S:=rfl
def Fb:U×Sto->Option (Bool×Sto)
 |(.bl b,S)=>some (b,S)
 |_=>none
theorem tK:aK ca ρ S=(ca ρ S).bind Fb:=by
 unfold aK;congr 1;funext p;obtain⟨u,S⟩:=p;cases u<;>rfl
def oZ:Fb (.bl b,S)=some (b,S):=rfl
def Ik(tb:CT)(ρ:Rho)(p:Bool×Sto):=if p.1=true then tb ρ p.2 else some (false,p.2)
def kOr(tb:CT)(ρ:Rho)(p:Bool×Sto):=if p.1=true then some (true,p.2)else tb ρ p.2
def Jk(p:Bool×Sto):Option (Bool×Sto):=some (!p.1,p.2)
def Hn:tF ta tb ρ S=(ta ρ S).bind (Ik tb ρ):=rfl
def DH:Ik tb ρ (true,S)=tb ρ S:=rfl
def DG:Ik tb ρ (false,S)=some (false,S):=rfl
def JF:cOr ta tb ρ S=(ta ρ S).bind (kOr tb ρ):=rfl
def GD:kOr tb ρ (true,S)=some (true,S):=rfl
def GC:kOr tb ρ (false,S)=tb ρ S:=rfl
def GH:Gk ta ρ S=(ta ρ S).bind Jk:=rfl
def Di:Jk (b,S)=some (!b,S):=rfl
def Ce(cb:CE)(ρ:Rho):U×Sto->Option (U×Sto)
 |(.bl true,S)=>cb ρ S
 |(.bl false,S)=>some (.bl false,S)
 |_=>none
def HX(cb:CE)(ρ:Rho):U×Sto->Option (U×Sto)
 |(.bl false,S)=>cb ρ S
 |(.bl true,S)=>some (.bl true,S)
 |_=>none
theorem DD:yT ca cb ρ S=(ca ρ S).bind (Ce cb ρ):=by
 unfold yT;congr 1;funext p;obtain⟨u,S⟩:=p;cases u with
 |bl b=>cases b<;>rfl
 |_=>rfl
def AH:Ce cb ρ (.bl true,S)=cb ρ S:=rfl
def AG:Ce cb ρ (.bl false,S)=some (.bl false,S):=rfl
theorem GB:Gj ca cb ρ S=(ca ρ S).bind (HX cb ρ):=by
 unfold Gj;congr 1;funext p;obtain⟨u,S⟩:=p;cases u with
 |bl b=>cases b<;>rfl
 |_=>rfl
def Dh:HX cb ρ (.bl false,S)=cb ρ S:=rfl
def Dg:HX cb ρ (.bl true,S)=some (.bl true,S):=rfl
def vS(u:U)(q:List U×Sto):Option (List U×Sto):=some (u::q.1,q.2)
def zP(cr:CA)(ρ:Rho)(p:U×Sto):=(cr ρ p.2).bind (vS p.1)
def Aq:aG ρ S=some ([],S):=rfl
def tR:ag ca cr ρ S=(ca ρ S).bind (zP cr ρ):=rfl
def px:zP cr ρ (u,S)=(cr ρ S).bind (vS u):=rfl
def pq:vS u (us,S)=some (u::us,S):=rfl
def Jf(p:List U×Sto):Option (U×Sto):=some (.tup p.1,p.2)
def Jl(p:List U×Sto):Option (U×Sto):=some (.ref p.2.length,p.2++[.lst p.1])
def Gq:kN cr ρ S=(cr ρ S).bind Jf:=rfl
def C7:Jf (us,S)=some (.tup us,S):=rfl
def GN:kQ cr ρ S=(cr ρ S).bind Jl:=rfl
def Dk:Jl (us,S)=some (.ref S.length,S++[.lst us]):=rfl
def kCB(f:Fn)(p:List U×Sto):=f p.1 p.2
def Hh{f:Fn}:cCB f cr ρ S=(cr ρ S).bind (kCB f):=rfl
def AF{f:Fn}:kCB f (us,S)=f us S:=rfl
def Fc(c2:CS):Out×Rho×Sto->Option (Out×Rho×Sto)
 |(.nx,ρ,S)=>c2 ρ S
 |(o,ρ,S)=>some (o,ρ,S)
def ze:bX ρ S=some (.nx,ρ,S):=rfl
theorem tM:bq c1 c2 ρ S=(c1 ρ S).bind (Fc c2):=by
 unfold bq;congr 1;funext p;obtain⟨o,ρ,S⟩:=p;cases o<;>rfl
def qD:Fc c2 (.nx,ρ,S)=c2 ρ S:=rfl
def De:Fc c2 (.rt u,ρ,S)=some (.rt u,ρ,S):=rfl
def Dd:Fc c2 (.bk,ρ,S)=some (.bk,ρ,S):=rfl
def Dc:Fc c2 (.ct,ρ,S)=some (.ct,ρ,S):=rfl
def Ff(ρ:Rho)(p:U×Sto):Option (Out×Rho×Sto):=some (.nx,ρ,p.2)
def Ji(ρ:Rho)(p:U×Sto):Option (Out×Rho×Sto):=some (.rt p.1,ρ,p.2)
def Dw:fH ca ρ S=(ca ρ S).bind (Ff ρ):=rfl
def AA:Ff ρ (u,S)=some (.nx,ρ,S):=rfl
def GA:eC ca ρ S=(ca ρ S).bind (Ji ρ):=rfl
def Df:Ji ρ (u,S)=some (.rt u,ρ,S):=rfl
def HZ(c1 c2:CS)(ρ:Rho)(p:Bool×Sto):=if p.1=true then c1 ρ p.2 else c2 ρ p.2
def pj:fg t c1 c2 ρ S=(t ρ S).bind (HZ c1 c2 ρ):=rfl
def tQ:HZ c1 c2 ρ (true,S)=c1 ρ S:=rfl
def tP:HZ c1 c2 ρ (false,S)=c2 ρ S:=rfl
def kIf(ca cb:CE)(ρ:Rho)(p:Bool×Sto):=if p.1=true then ca ρ p.2 else cb ρ p.2
def JH:cIf t ca cb ρ S=(t ρ S).bind (kIf ca cb ρ):=rfl
def GY:kIf ca cb ρ (true,S)=ca ρ S:=rfl
def GX:kIf ca cb ρ (false,S)=cb ρ S:=rfl
def Jg(i:Nat)(ρ:Rho)(p:U×Sto):Option (Out×Rho×Sto):=some (.nx,ρ.set i (some p.1),p.2)
def Am:eI i ca ρ S=(ca ρ S).bind (Jg i ρ):=rfl
def tL:Jg i ρ (u,S)=some (.nx,ρ.set i (some u),S):=rfl
def Cd(q:Rho×Sto):Option (Out×Rho×Sto):=some (.nx,q.1,q.2)
def Jm(g:CG)(ρ:Rho)(p:U×Sto):=(g p.1 ρ p.2).bind Cd
def Hl{g:CG}:FJ ca g ρ S=(ca ρ S).bind (Jm g ρ):=rfl
def DC{g:CG}:Jm g ρ (u,S)=(g u ρ S).bind Cd:=rfl
def DB:Cd (ρ,S)=some (.nx,ρ,S):=rfl
def G0:gNm i u ρ S=some (ρ.set i (some u),S):=rfl
def GZ{is:List Nat}:gTp is (.tup us) ρ S=(fP is us ρ).bind fun ρ'=>some (ρ',S):=rfl
def DJ:fP [] [] ρ=some ρ:=rfl
def DI{is:List Nat}:fP (i::is) (u::us) ρ=fP is us (ρ.set i (some u)):=rfl
def Fd(ρ:Rho)(S':Sto):Option (Out×Rho×Sto):=some (.nx,ρ,S')
def HV(o v:U)(ρ:Rho)(r:U×Sto):=(kE o r.1 v r.2).bind (Fd ρ)
def HW(ci:CE)(v:U)(ρ:Rho)(q:U×Sto):=(ci ρ q.2).bind (HV q.1 v ρ)
def kSI(co ci:CE)(ρ:Rho)(p:U×Sto):=(co ρ p.2).bind (HW ci p.1 ρ)
def Jz:eB ca cb cc ρ S=(cc ρ S).bind (kSI ca cb ρ):=rfl
def Gw:kSI ca cb ρ (u,S)=(ca ρ S).bind (HW cb u ρ):=rfl
def Gv:HW cb y ρ (u,S)=(cb ρ S).bind (HV u y ρ):=rfl
def Gu:HV x y ρ (u,S)=(kE x u y S).bind (Fd ρ):=rfl
def Gs:Fd ρ S=some (.nx,ρ,S):=rfl
def kIx(y:U)(S:Sto):Option O->Option (U×Sto)
 | some (.lst us)=>(match y with
   |.int i=>(atI us i).bind fun u=>some (u,S)
   |_=>none)
 |some (.dic kus)=>(jJ y).bind fun k=>(aJ kus k).bind fun u=>some (u,S)
 |some (.fdc _ kus)=>(jJ y).bind fun k=>(aJ kus k).bind fun u=>some (u,S)
 |_=>none
def GP{j:Int}:fIx (.tup us) (.int j) S=(atI us j).bind fun u=>some (u,S):=rfl
theorem GQ:fIx (.ref l) y S=kIx y S S[l]?:=by
 unfold fIx kIx;dsimp only<;>(generalize S[l]?=q;rcases q with _|o<;>first|rfl|(cases o<;>rfl))
def GR{j:Int}:kIx (.int j) S (some (.lst us))=(atI us j).bind fun u=>some (u,S):=rfl
theorem Du{ep:Nat}{kus:List (Key×U)}:kIx y S (some (.fdc ep kus))=(jJ y).bind fun k=>(aJ kus k).bind fun u=>some (u,S):=rfl
def GU{kus:List (Key×U)}:kIx y S (some (.dic kus))=(jJ y).bind fun k=>(aJ kus k).bind fun u=>some (u,S):=rfl
def F9(l:Nat)(i v:U)(S:Sto):Option O->Option Sto
 | some (.lst us)=>(match i with
   |.int k=>(ixN us.length k).bind fun j=>some (S.set l (.lst (us.set j v)))
   |_=>none)
 |some (.dic kus)=>(jJ i).bind fun k=>if kus.length<LIM then some (S.set l (.dic (cQ kus k v)))else none
 |_=>none
theorem Gr:kE (.ref l) x y S=F9 l x y S S[l]?:=by
 unfold kE F9;dsimp only<;>(generalize S[l]?=q;rcases q with _|o<;>first|rfl|(cases o<;>rfl))
theorem C8{j:Int}:F9 l (.int j) y S (some (.lst us))=(ixN us.length j).bind fun j=>some (S.set l (.lst (us.set j y))):=rfl
theorem C9{kus:List (Key×U)}:F9 l x y S (some (.dic kus))=(jJ x).bind fun k=>if kus.length<LIM then some (S.set l (.dic (cQ kus k y)))else none:=rfl
def at0{α:Type}{a:α}{r:List α}:atI (a::r) 0=some a:=by show atI _ ((0:Nat):Int)=_;exact ju rfl
def at1{α:Type}{a b:α}{r:List α}:atI (a::b::r) 1=some b:=by show atI _ ((1:Nat):Int)=_;exact ju rfl
def at2{α:Type}{a b c:α}{r:List α}:atI (a::b::c::r) 2=some c:=by show atI _ ((2:Nat):Int)=_;exact ju rfl
def at3{α:Type}{a b c d:α}{r:List α}:atI (a::b::c::d::r) 3=some d:=by show atI _ ((3:Nat):Int)=_;exact ju rfl
def ix0{n:Nat}:ixN (n+1) 0=some 0:=by simp[ixN]
def ix1{n:Nat}:ixN (n+1+1) 1=some 1:=by simp[ixN];omega
def ix2{n:Nat}:ixN (n+1+1+1) 2=some 2:=by simp[ixN];omega
def Gd(S:Sto):Option O->Option (U×Sto)
 |some (.lst us)=>some (.int us.length,S)
 |some (.dic us)=>some (.int us.length,S)
 |_=>none
theorem Dp:kG [.ref l] S=Gd S S[l]?:=by
 unfold kG Gd;dsimp only<;>(generalize S[l]?=q;rcases q with _|o<;>first|rfl|(cases o<;>rfl))
def Dq:Gd S (some (.lst us))=some (.int us.length,S):=rfl
def Dr{kus:List (Key×U)}:Gd S (some (.dic kus))=some (.int kus.length,S):=rfl
def Dm:kG [.tup us] S=some (.int us.length,S):=rfl
variable{j k:Int}
def AI:l7 (.int j) (.int k) S=some (.int (j+k),S):=rfl
def pd(h:wX j k):mY (.int j) (.int k) S=some (.int (j*k),S):=by simp[mY,fI,h]
def Dy(h:tD j k):zW (.int j) (.int k) S=some (.int (j / k),S):=by simp[zW,fI,h]
def tN(h:0<k):lJ (.int j) (.int k) S=some (.int (j % k),S):=by simp[lJ,fI,h]
def GL:fLt (.int j) (.int k) S=some (.bl (decide (j<k)),S):=rfl
def JG:fLe (.int j) (.int k) S=some (.bl (decide (j<=k)),S):=rfl
def JI:fGt (.int j) (.int k) S=some (.bl (decide (k<j)),S):=rfl
def JJ:fGe (.int j) (.int k) S=some (.bl (decide (k<=j)),S):=rfl
def Ha:fEq (.int j) (.int k) S=some (.bl (decide (j=k)),S):=rfl
def GJ:fNe (.int j) (.int k) S=some (.bl (!decide (j=k)),S):=rfl
def G6{a c:Str}:fEq (.str a) (.str c) S=some (.bl (decide (a=c)),S):=rfl
def GI{a c:Str}:fNe (.str a) (.str c) S=some (.bl (!decide (a=c)),S):=rfl
def Hb{a c:Bool}:fEq (.bl a) (.bl c) S=some (.bl (decide (a=c)),S):=rfl
def GK{a c:Bool}:fNe (.bl a) (.bl c) S=some (.bl (!decide (a=c)),S):=rfl
def kFn:Out×Rho×Sto->Option (U×Sto)
 |(.rt u,_,S)=>some (u,S)
 |(.nx,_,S)=>some (.non,S)
 |_=>none
theorem oU{n k:Nat}(h:us.length=k):fnU n k c1 us S=(c1 (nM n us) S).bind kFn:=by
 unfold fnU;rw[if_pos h];congr 1;funext p;obtain⟨o,ρ,S⟩:=p;cases o<;>rfl
def wt{c:CS}{a0:U}{S:Sto}:fnU 1 1 c [a0] S=(c [some a0] S).bind kFn:=oU rfl
def ID{c:CS}{S:Sto}:fnU 2 0 c [] S=(c [none,none] S).bind kFn:=oU rfl
def Cs{c:CS}{a0 a1:U}{S:Sto}:fnU 2 2 c [a0,a1] S=(c [some a0,some a1] S).bind kFn:=oU rfl
def IC{c:CS}{a0:U}{S:Sto}:fnU 3 1 c [a0] S=(c [some a0,none,none] S).bind kFn:=oU rfl
def Cr{c:CS}{a0 a1:U}{S:Sto}:fnU 3 2 c [a0,a1] S=(c [some a0,some a1,none] S).bind kFn:=oU rfl
def wo{c:CS}{a0 a1 a2:U}{S:Sto}:fnU 3 3 c [a0,a1,a2] S=(c [some a0,some a1,some a2] S).bind kFn:=oU rfl
def IB{c:CS}{a0 a1:U}{S:Sto}:fnU 4 2 c [a0,a1] S=(c [some a0,some a1,none,none] S).bind kFn:=oU rfl
def IA{c:CS}{a0 a1 a2:U}{S:Sto}:fnU 4 3 c [a0,a1,a2] S=(c [some a0,some a1,some a2,none] S).bind kFn:=oU rfl
def Iy{c:CS}{a0 a1:U}{S:Sto}:fnU 5 2 c [a0,a1] S=(c [some a0,some a1,none,none,none] S).bind kFn:=oU rfl
def Iw{c:CS}{a0 a1 a2:U}{S:Sto}:fnU 5 3 c [a0,a1,a2] S=(c [some a0,some a1,some a2,none,none] S).bind kFn:=oU rfl
theorem Iu{c:CS}{a0 a1 a2 a3:U}{S:Sto}:fnU 5 4 c [a0,a1,a2,a3] S=(c [some a0,some a1,some a2,some a3,none] S).bind kFn:=oU rfl
def Ir{c:CS}{a0 a1:U}{S:Sto}:fnU 6 2 c [a0,a1] S=(c [some a0,some a1,none,none,none,none] S).bind kFn:=oU rfl
theorem Iq{c:CS}{a0 a1 a2 a3 a4:U}{S:Sto}:fnU 7 5 c [a0,a1,a2,a3,a4] S=(c [some a0,some a1,some a2,some a3,some a4,none,none] S).bind kFn:=oU rfl
theorem Ip{c:CS}{a0 a1:U}{S:Sto}:fnU 8 2 c [a0,a1] S=(c [some a0,some a1,none,none,none,none,none,none] S).bind kFn:=oU rfl
theorem FG{c:CS}{a0 a1 a2:U}{S:Sto}:fnU 10 3 c [a0,a1,a2] S=(c [some a0,some a1,some a2,none,none,none,none,none,none,none] S).bind kFn:=oU rfl
theorem FF{c:CS}{a0 a1 a2 a3 a4:U}{S:Sto}:fnU 10 5 c [a0,a1,a2,a3,a4] S=(c [some a0,some a1,some a2,some a3,some a4,none,none,none,none,none] S).bind kFn:=oU rfl
def G4:kFn (.rt u,ρ,S)=some (u,S):=rfl
def G3:kFn (.nx,ρ,S)=some (.non,S):=rfl
end
section
variable{ρ:Rho}{S:Sto}{ca cb cc:CE}{cr:CA}{u x:U}{us:List U}{i l:Nat}{b:Bool}{c:Cl}{fus:List (Option U)}{g:Fn}
open Classical in
def yA(c:Cl)(i:Nat)(S:Sto):Option O->Option (U×Sto)
 |some (.ins c' fus)=>if c'=c then(fus[i]?).join.bind fun u=>some (u,S)else none
 |_=>none
def CW(c:Cl)(i:Nat)(p:U×Sto):=Fz c i p.1 p.2
def G5:bE c i ca ρ S=(ca ρ S).bind (CW c i):=rfl
theorem zi:CW c i (.ref l,S)=yA c i S S[l]?:=by
 unfold CW Fz yA;dsimp only<;>(generalize S[l]?=q;rcases q with _|o<;>first|rfl|(cases o<;>rfl))
theorem zh:yA c i S (some (.ins c fus))=((fus[i]?).join).bind fun u=>some (u,S):=by
 unfold yA;dsimp only;rw[if_pos rfl]
open Classical in
def Ga(c:Cl)(i l:Nat)(v:U)(S:Sto):Option O->Option Sto
 |some (.ins c' fus)=>if c'=c then some (S.set l (.ins c (fus.set i (some v))))else none
 |_=>none
def Gb(c:Cl)(i:Nat)(v:U)(ρ:Rho)(q:U×Sto):=(wb c i q.1 v q.2).bind (Fd ρ)
def Jh(c:Cl)(i:Nat)(ca:CE)(ρ:Rho)(p:U×Sto):=(ca ρ p.2).bind (Gb c i p.1 ρ)
def JA:fk c i ca cb ρ S=(cb ρ S).bind (Jh c i ca ρ):=rfl
def Gz:Jh c i ca ρ (u,S)=(ca ρ S).bind (Gb c i u ρ):=rfl
theorem Gy:Gb c i u ρ (.ref l,S)=(Ga c i l u S S[l]?).bind (Fd ρ):=by
 unfold Gb wb Ga;dsimp only<;>(generalize S[l]?=q;rcases q with _|o<;>first|rfl|(cases o<;>rfl))
theorem Gx:Ga c i l u S (some (.ins c fus))=some (S.set l (.ins c (fus.set i (some u)))):=by
 unfold Ga;dsimp only;rw[if_pos rfl]
def vR(g:Fn)(l:Nat)(q:List U×Sto):=g (.ref l::q.1) q.2
open Classical in
def rJ(c:Cl)(g:Fn)(cr:CA)(ρ:Rho)(l:Nat)(S:Sto):Option O->Option (U×Sto)
 |some (.ins c' _)=>if c'=c then(cr ρ S).bind (vR g l)else none
 |_=>none
def Cc(c:Cl)(g:Fn)(cr:CA)(ρ:Rho)(p:U×Sto):=we c g p.1 p.2 (cr ρ)
def Dj:bp c g ca cr ρ S=(ca ρ S).bind (Cc c g cr ρ):=rfl
theorem Au:Cc c g cr ρ (.ref l,S)=rJ c g cr ρ l S S[l]?:=by
 unfold Cc we rJ;dsimp only<;>(generalize S[l]?=q;rcases q with _|o<;>first|rfl|(cases o<;>rfl))
theorem As:rJ c g cr ρ l S (some (.ins c fus))=(cr ρ S).bind (vR g l):=by
 unfold rJ;dsimp only;rw[if_pos rfl]
def Ar:vR g l (us,S)=g (.ref l::us) S:=rfl
def Fe(n:Nat):U×Sto->Option (U×Sto)
 |(.non,S)=>some (.ref n,S)
 |_=>none
theorem zf:kF c g us S=(g (.ref S.length::us) (S++[.ins c (QU c.ns.length none)])).bind (Fe S.length):=by
 unfold kF;congr 1;funext p;obtain⟨u,S⟩:=p;cases u<;>rfl
def Av:Fe i (.non,S)=some (.ref i,S):=rfl
def kIn(neg:Bool)(x:U)(S:Sto):Option O->Option (U×Sto)
 |some (.lst us)=>if iZ x=true/\us.all iZ=true then some (.bl (if neg then !inU x us else inU x us),S)else none
 |some (.dic kus)=>(jJ x).bind fun k=>some (.bl (if neg then !(aJ kus k).isSome else(aJ kus k).isSome),S)
 |some (.fdc _ kus)=>(jJ x).bind fun k=>some (.bl (if neg then !(aJ kus k).isSome else(aJ kus k).isSome),S)
 |_=>none
theorem GV{neg:Bool}:fIn neg x (.ref l) S=kIn neg x S S[l]?:=by
 unfold fIn kIn;dsimp only<;>(generalize S[l]?=q;rcases q with _|o<;>first|rfl|(cases o<;>rfl))
theorem GW{neg:Bool}{kus:List (Key×U)}:kIn neg x S (some (.dic kus))=(jJ x).bind fun k=>some (.bl (if neg then !(aJ kus k).isSome else(aJ kus k).isSome),S):=rfl
def GO{j:Int}:jJ (.int j)=some (.inl j):=rfl
def Ds{z:Str}:jJ (.str z)=some (.inr z):=rfl
def Ig(f:U->List U->Sto->Option (U×Sto))(x:U)(q:List U×Sto):=f x q.1 q.2
def Ih(f:U->List U->Sto->Option (U×Sto))(cr:CA)(ρ:Rho)(x:U)(S:Sto):Option O->Option (U×Sto)
 |some (.lst _)=>(cr ρ S).bind (Ig f x)
 |_=>none
def kBM(f:U->List U->Sto->Option (U×Sto))(cr:CA)(ρ:Rho):U×Sto->Option (U×Sto)
 |(.ref l,S)=>Ih f cr ρ (.ref l) S S[l]?
 |_=>none
variable{fm:U->List U->Sto->Option (U×Sto)}
theorem JL:cBM fm ca cr ρ S=(ca ρ S).bind (kBM fm cr ρ):=by
 unfold cBM;congr 1;funext p;obtain⟨u,S⟩:=p;cases u<;>try rfl
def Hk:kBM fm cr ρ (.ref l,S)=Ih fm cr ρ (.ref l) S S[l]?:=rfl
def Hj:Ih fm cr ρ x S (some (.lst us))=(cr ρ S).bind (Ig fm x):=rfl
def Hi:Ig fm x (us,S)=fm x us S:=rfl
def Ge(l:Nat)(u:U)(S:Sto):Option O->Option (U×Sto)
 |some (.lst us)=>if us.length<LIM then some (.non,S.set l (.lst (us++[u])))else none
 |_=>none
theorem Hm:fC (.ref l) [u] S=Ge l u S S[l]?:=by
 unfold fC Ge;dsimp only<;>(generalize S[l]?=q;rcases q with _|o<;>first|rfl|(cases o<;>rfl))
theorem nC(h:us.length<LIM):Ge l u S (some (.lst us))=some (.non,S.set l (.lst (us++[u]))):=by
 unfold Ge;dsimp only;rw[if_pos h]
def H0(ku xu:U)(S:Sto):Option O->Option (U×Sto)
 |some (.dic kus)=>(jJ ku).bind fun k=>some ((aJ kus k).getD xu,S)
 |_=>none
def Ia(l:Nat)(ku:U)(r:U×Sto):=H0 ku r.1 r.2 r.2[l]?
def Ib(l:Nat)(cx:CE)(ρ:Rho)(q:U×Sto):=(cx ρ q.2).bind (Ia l q.1)
def Ie(l:Nat)(ck cx:CE)(ρ:Rho)(S:Sto):Option O->Option (U×Sto)
 |some (.dic _)=>(ck ρ S).bind (Ib l cx ρ)
 |_=>none
def kDG(ck cx:CE)(ρ:Rho):U×Sto->Option (U×Sto)
 |(.ref l,S)=>Ie l ck cx ρ S S[l]?
 |_=>none
theorem JK:qt ca cb cc ρ S=(ca ρ S).bind (kDG cb cc ρ):=by
 unfold qt;congr 1;funext p;obtain⟨u,S⟩:=p;cases u<;>try rfl
def Hg:kDG cb cc ρ (.ref l,S)=Ie l cb cc ρ S S[l]?:=rfl
def Hf{kus:List (Key×U)}:Ie l cb cc ρ S (some (.dic kus))=(cb ρ S).bind (Ib l cc ρ):=rfl
def He:Ib l cc ρ (u,S)=(cc ρ S).bind (Ia l u):=rfl
def Hd:Ia l u (x,S)=H0 u x S S[l]?:=rfl
def Hc{kus:List (Key×U)}:H0 u x S (some (.dic kus))=(jJ u).bind fun k=>some ((aJ kus k).getD x,S):=rfl
def Dx:lL ρ S=some (.ref S.length,S++[.dic []]):=rfl
def kP3(k:Key)(u:U)(z:List (Key×U)×Sto):Option (List (Key×U)×Sto):=some ((k,u)::z.1,z.2)
def kP2(r:List (CE×CE))(ρ:Rho)(x:U)(q:U×Sto):=(jJ x).bind fun k=>(j8 r ρ q.2).bind (kP3 k q.1)
def kP1(cv:CE)(r:List (CE×CE))(ρ:Rho)(p:U×Sto):=(cv ρ p.2).bind (kP2 r ρ p.1)
variable{pr:List (CE×CE)}
def JE:j8 [] ρ S=some ([],S):=rfl
def x_p:j8 ((ca,cb)::pr) ρ S=(ca ρ S).bind (kP1 cb pr ρ):=rfl
def JD:kP1 cb pr ρ (u,S)=(cb ρ S).bind (kP2 pr ρ u):=rfl
def JC:kP2 pr ρ x (u,S)=(jJ x).bind fun k=>(j8 pr ρ S).bind (kP3 k u):=rfl
def JB{k:Key}{z:List (Key×U)}:kP3 k u (z,S)=some ((k,u)::z,S):=rfl
def kD1(n:Nat)(kus:List (Key×U))(S:Sto):Option O->Option (U×Sto)
 |some (.dic [])=>some (.ref n,S.set n (.dic (vt kus)))
 |_=>none
def kD(n:Nat)(q:List (Key×U)×Sto):=kD1 n q.1 q.2 q.2[n]?
theorem Dz:FI pr ρ S=(j8 pr ρ (S++[.dic []])).bind (kD S.length):=by
 unfold FI;congr 1
def AE{z:List (Key×U)}:kD i (z,S)=kD1 i z S S[i]?:=rfl
def AD{z:List (Key×U)}:kD1 i z S (some (.dic []))=some (.ref i,S.set i (.dic (vt z))):=rfl
def C4:jK [.tup us] S=some (.tup us,S):=rfl
def HU(S:Sto):Option O->Option (U×Sto)
 |some (.lst us)=>some (.tup us,S)
 |_=>none
theorem C5:jK [.ref l] S=HU S S[l]?:=by
 unfold jK HU;dsimp only<;>(generalize S[l]?=q;rcases q with _|o<;>first|rfl|(cases o<;>rfl))
def C6:HU S (some (.lst us))=some (.tup us,S):=rfl
def Aw:oj [.tup us] S=some (.ref S.length,S++[.lst us]):=rfl
def kLs(S:Sto):Option O->Option (U×Sto)
 |some (.lst us)=>some (.ref S.length,S++[.lst us])
 |_=>none
theorem Ax:oj [.ref l] S=kLs S S[l]?:=by
 unfold oj kLs;dsimp only<;>(generalize S[l]?=q;rcases q with _|o<;>first|rfl|(cases o<;>rfl))
def Ay:kLs S (some (.lst us))=some (.ref S.length,S++[.lst us]):=rfl
def Dv:wj [.bl b] S=some (.int (if b then 1 else 0),S):=rfl
def ga{X:Sto}{n:Nat}:(S++X)[S.length+n]?=X[n]?:=by rw[Qn (Nat.le_add_right _ _),Nat.add_sub_cancel_left]
def ga0{X:Sto}:(S++X)[S.length]?=X[0]?:=ga (n:=0)
theorem gs{X:Sto}{n:Nat}{o:O}:(S++X).set (S.length+n) o=S++X.set n o:=by rw[List.set_append_right _ _ (Nat.le_add_right _ _),Nat.add_sub_cancel_left]
def gs0{X:Sto}{o:O}:(S++X).set S.length o=S++X.set 0 o:=gs (n:=0)
section
variable{ok:Sto->Prop}{gg:CG}{cbd:CS}{ρ0 ρ1:Rho}{S0 S1:Sto}
def gM(h:ok S):dD ok gg cbd [] ρ S=some (.nx,ρ,S):=by unfold dD;rw[if_pos h]
theorem ji(h:ok S)(hg:gg u ρ S=some (ρ0,S0))(hb:cbd ρ0 S0=some (.nx,ρ1,S1)):dD ok gg cbd (u::us) ρ S=dD ok gg cbd us ρ1 S1:=by
 rw[dD];dsimp only;rw[if_pos h,hg,QX];dsimp only;rw[hb,QX]
theorem B6(h:ok S)(hg:gg u ρ S=some (ρ0,S0))(hb:cbd ρ0 S0=some (.rt x,ρ1,S1)):dD ok gg cbd (u::us) ρ S=some (.rt x,ρ1,S1):=by
 rw[dD];dsimp only;rw[if_pos h,hg,QX];dsimp only;rw[hb,QX]
theorem kK{ce:CE}{ys:List U}(h:ok S)(hg:gg u ρ S=some (ρ0,S0))(he:ce ρ0 S0=some (x,S1))(hl:S1[l]?=some (.lst ys))(hn:ys.length<LIM):gu ok gg ce l (u::us) ρ S=gu ok gg ce l us ρ0 (S1.set l (.lst (ys++[x]))):=by
 rw[gu,if_pos h,hg,QX];dsimp only;rw[he,QX];dsimp only;rw[hl];dsimp only;rw[if_pos hn]
def m9{ce:CE}(h:ok S):gu ok gg ce l [] ρ S=some S:=by rw[gu,if_pos h]
end
end
def C0{p:List Q2->Prop}(h:p [])(us:List Q2)(e:us.length=0):p us:=by rw[List.length_eq_zero_iff.mp e];exact h
theorem IH{n:Nat}{p:List Q2->Prop}(h:∀a us,us.length=n->p (a::us))(us:List Q2)(e:us.length=n+1):p us:=by
 cases us with
 |nil=>cases e
 |cons a us=>exact h a us (Nat.succ.inj e)
def IP(H:Hp)(a:Addr)(ep:Nat)(ks:List Key):Prop:=∃ob es kvs,H a=some (.frz ob (.dK kvs))/\ob.data=.dict es ep/\kvs.map (·.1)=ks
def Itd(a:Addr)(ep:Nat)(ks:List Key):It:=
 ⟨fun i H=>i<ks.length/\IP H a ep ks,fun i H x H'=>H'=H/\∃k,ks[i]?=some k/\x=kV k,fun i H=>ks.length<=i/\IP H a ep ks⟩
theorem zV{P:Qv}{w:Qe}{H:Hp}{h:Heap}{a:Addr}{ob:Obj}{kvs:List (Key×V)}{es:Array DictEntry}{ep:Nat}(ok:HOk P w H h)(e:H a=some (.frz ob (.dK kvs)))(d:ob.data=.dict es ep):∃vs,KV kvs vs/\h.DictAt (bO P w) a vs ep:=by
 obtain⟨e1,_,_,vs,r,o,es',ep',e2,e3,e4,rest⟩:=(show c8 P w H h a (.frz ob (.dK kvs))from ok a _ e);rw[e1]at e2;cases e2;rw[d]at e4;cases e4;exact⟨vs,r,ob,es,e1,e3,d,rest⟩
theorem zN{κ:Type}:∀{kvs:List (κ×V)} {vs:List (κ×Q2)} {i:Nat} {k:κ} {v:V},KV kvs vs->kvs[i]?=some (k,v)->∃u,vs[i]?=some (k,u)
 |_,_,i,k,v,.nil,h=>by simp at h
 |_,_,0,k,v,.cons (b:=(k',u)) r t,h=>by
  simp at h;subst h;have:k=k':=r.1;subst this;exact⟨u,by simp⟩
 |_,_,i+1,k,v,.cons r t,h=>by
  obtain⟨u,e⟩:=zN (i:=i) t (by simpa using h);exact⟨u,by simpa using e⟩
theorem Ca{k:Key}{u:Q2}(h:n4 k u=true):bR (kV k) u:=by
 rcases br h with⟨i,t,rfl,rfl⟩|⟨i,t,rfl,rfl⟩
 ·exact⟨t,rfl⟩
 ·exact⟨t,rfl⟩
theorem uq{P:Qv}{w:Qe}{K:Q1}{tg:QC}(a it:Addr){ks:List Key}{ep:Nat} :
  C2 P w K tg (Itd a ep ks) [it] it (fun n h=>h.IsKeyIter it a n ks.length ep) where
 mem:=by simp
 obj:=fun n h st c hc=>by
  simp only[QM,Zj,or_false]at hc;subst hc;obtain⟨o,e,_,q⟩:=st;exact⟨o,e,fun v z=>by rw[q]at z;cases z⟩
 keep:=fun n h h' st kp=>Heap.IsKeyIter.at st fun o q=>kp it (by simp) o q
 item:=by
  intro X hP hw hK hc n pins s σ H E Iv hf st hg;subst hP hw hK;obtain⟨hi,ob,es,kvs,hq,d,ek⟩:=hg;obtain⟨vs,rv,da⟩:=zV Iv.hok hq d;have hl:ks.length=vs.length:=by rw[<-ek,QV];exact Paired.length rv
  have hi':n<kvs.length:=by rw[<-ek,QV]at hi;exact hi
  have hx:kvs[n]?=some ((kvs[n]).1,(kvs[n]).2):=Q4 hi';obtain⟨u,hu⟩:=zN rv hx;obtain⟨f0,f1,f2,f3⟩:=hf it (by simp);have st':s.heap.IsKeyIter it a n vs.length ep:=by rw[<-hl];exact st
  refine wpAny_pyNext_dict_item st' da hu fun key h1 hk st1 sb=>⟨key,rfl,?_⟩;have I1:Inv X pins σ H { s with heap:=h1 }:=Iv.turned (t':=s.toks) (fun b o hb e=>(sb.2 b hb).trans e) f0 f1 f3.1 f3.2.1 f3.2.2;have st2:h1.IsKeyIter it a (n+1) ks.length ep:=by rw[hl];exact st1
  obtain⟨o,e,c,q⟩:=id st2;exact yE (s:={ s with heap:=h1 }) e c q (by decide) ⟨kV (kvs[n]).1,H,I1,Ca hk,⟨rfl,_,by rw[<-ek,Qu,hx];rfl,rfl⟩,st2,fun b hb=>(hf b hb).1⟩
 done:=by
  intro X hP hw hK hc n pins s σ H E Iv hf st hg;subst hP hw hK;obtain⟨hi,ob,es,kvs,hq,d,ek⟩:=hg;obtain⟨vs,rv,da⟩:=zV Iv.hok hq d;have hl:ks.length=vs.length:=by rw[<-ek,QV];exact Paired.length rv
  obtain⟨f0,f1,f2,f3⟩:=hf it (by simp);have st':s.heap.IsKeyIter it a n vs.length ep:=by rw[<-hl];exact st
  exact wpAny_pyNext_dict_end (Iv.ok.hd hc) st' da (by rw[List.getElem?_eq_none_iff];omega) fun h1 eb=>⟨rfl,Iv.turned (t':=s.toks) (fun b o hb e=>eb b o hb e) f0 f1 f3.1 f3.2.1 f3.2.2⟩
 self:=fun _ _ _ _ _ st h=>wpAny_pyIter_keyiter st h
theorem rM{X:Cx}{pins:List (Addr×Obj)}{σ:L2.St}{H:Hp}{s:Q3}{a:Addr}{o u:HO}(I:Inv X pins σ H s)(e:H a=some o)(nt:∀xs,o≠.tup xs)(no:∀x,o≠.own x)(nb:∀ps,o≠.tbl ps)
  (nf:∀ob u,X.H₀ a≠some (.frz ob u)) (new:c8 X.prog X.w (upd H a u) s.heap a u):Inv X pins σ (upd H a u) s:=by
 have nn:∀b,H b=none->upd H a u b=none:=fun b q=>by rw[aB (Ne.symm (cP e q))];exact q
 have ho:∀b x,H b=some (.own x)->upd H a u b=some (.own x):=fun b x q=>by
  rw[aB];exact q;intro z;subst z;rw[e]at q;cases q;exact no _ rfl
 have ht:∀b xs,H b=some (.tup xs)->upd H a u b=some (.tup xs):=fun b x q=>by
  rw[aB];exact q;intro z;subst z;rw[e]at q;cases q;exact nt _ rfl
 refine⟨I.ok,I.os,I.bare,⟨I.base.keep,I.base.slot,fun b ob q1 q2 q3=>nn _ (I.base.free b ob q1 q2 q3),I.base.there,fun b xs q=>ht _ _ (I.base.tups b xs q),fun b ob v q=>?_,fun b ps q=>?_⟩,I.loc,I.cell,nn _ I.free,fun x c q=>nn _ (I.freeC x c q),fun p hp=>?_,fun b v q=>?_,I.len⟩
 ·rw[aB];exact I.base.frzs b ob v q;intro z;subst z;exact nf _ _ q
 ·obtain⟨more,q'⟩:=I.base.tbls b ps q;refine⟨more,?_⟩;rw[aB];exact q';intro z;subst z;rw[e]at q';cases q';exact nb _ rfl
 ·obtain⟨p1,p2,p3⟩:=I.pin p hp;exact⟨p1,nn _ p2,p3⟩
 ·by_cases hb:b=a
  ·subst hb;rw[aA]at q;cases q;exact new
  ·rw[aB hb]at q;exact(I.hok b v q).stay (fun _ _ _ g=>g) (fun c g=>ho c b g) fun c xs g=>ht c xs g
def xc(X:Cx)(a:Addr):Prop:=∀ob u,X.H₀ a≠some (.frz ob u)
def Ck(X:Cx)(tl:TE):TI:=fun σ H R=>tl σ H fun x H1=>∃a kvs,x=.ref a/\H1 a=some (.dK kvs)/\∀ob es ep,xc X a->ob.data=.dict es ep->R (Itd a ep (kvs.map (·.1))) (upd H1 a (.frz ob (.dK kvs)))
theorem pA{X:Cx}{tg l:QC}{tl:TE}(hl:WE X l tl):WI X tg l (Ck X tl):=by
 constructor;intro pins s σ H R I h;refine thn (hl.h pins s σ H _ I h) fun v s1 hz=>?_;obtain⟨x,H1,I1,r1,q1⟩:=hz;obtain⟨a,kvs,rfl,hq,q⟩:=q1;cases r1;obtain⟨hz,hs,vs,rv,ob,es,ep,e1,e2,e3,rest⟩:=wy I1.hok hq;have da:s1.heap.DictAt (bO X.prog X.w) a vs ep:=⟨ob,es,e1,e2,e3,rest⟩;have hl:kvs.length=vs.length:=Paired.length rv;have nf:xc X a:=fun ob' u' z=>by have:=I1.base.frzs a ob' u' z;rw[hq]at this;cases this
 have I2:Inv X pins σ (upd H1 a (.frz ob (.dK kvs))) s1:=rM I1 hq (by simp) (by simp) (by simp) nf ⟨e1,hz,hs,vs,rv,ob,es,ep,e1,e2,e3,rest⟩;refine wpAny_pyIter_dict hs da ?_;refine⟨s1.heap.objs.size,[s1.heap.objs.size],_,_,_,rfl,I2.kept (t':=s1.toks) fun b o g=>Q7 _ g,uq a _,⟨_,Qx _ rfl,rfl,by rw[QV,hl];rfl⟩,fun b hb=>?_,q ob es ep nf e3⟩;simp only[QM,Zj,or_false]at hb;subst hb;exact I2.fpOk (Q8 _) (I2.hok.fresh (Q8 _))
def FU(X:Cx)(D:xg):xg where
 nx:=fun σ H=>∃a ob kvs,xc X a/\H a=some (.frz ob (.dK kvs))/\D.nx σ (upd H a (.dK kvs))
 rt:=fun v H=>∃a ob kvs,xc X a/\H a=some (.frz ob (.dK kvs))/\D.rt v (upd H a (.dK kvs))
 bk:=fun σ H=>∃a ob kvs,xc X a/\H a=some (.frz ob (.dK kvs))/\D.bk σ (upd H a (.dK kvs))
 ct:=fun σ H=>∃a ob kvs,xc X a/\H a=some (.frz ob (.dK kvs))/\D.ct σ (upd H a (.dK kvs))
theorem iW{X:Cx}{pins:List (Addr×Obj)}{σ:L2.St}{H:Hp}{s:Q3}{a:Addr}{ob:Obj}{kvs:List (Key×V)}(I:Inv X pins σ H s)(nf:xc X a)(e:H a=some (.frz ob (.dK kvs))):Inv X pins σ (upd H a (.dK kvs)) s:=
 rM I e (by simp) (by simp) (by simp) nf (show c8 X.prog X.w H s.heap a (.frz ob (.dK kvs))from I.hok a _ e).2
theorem tV{X:Cx}{st:Z0}{t:TS}(h:WS X st t):WS X st (fun D σ H=>t (FU X D) σ H):=by
 constructor;intro pins s σ H D I k;refine thn (h.h pins s σ H _ I k) fun f s1 q=>?_;cases f with
 |next=>obtain⟨σ1,H1,I1,a,ob,kvs,nf,e,r⟩:=q;exact⟨σ1,_,iW I1 nf e,r⟩
 |brk=>obtain⟨σ1,H1,I1,a,ob,kvs,nf,e,r⟩:=q;exact⟨σ1,_,iW I1 nf e,r⟩
 |cont=>obtain⟨σ1,H1,I1,a,ob,kvs,nf,e,r⟩:=q;exact⟨σ1,_,iW I1 nf e,r⟩
 |ret u=>obtain⟨v,σ1,H1,I1,rv,a,ob,kvs,nf,e,r⟩:=q;exact⟨v,σ1,_,iW I1 nf e,rv,r⟩
def kU:Key->U
 |.inl i=>.int i
 |.inr x=>.str x
theorem Fp{K:Q1}{m:List Addr}{H:Hp}(k:Key):Is K m H (kV k) (kU k):=by
 cases k with
 |inl i=>exact .int_
 |inr x=>exact .str_
open Classical in
def uni{α:Type}(F:Nat->Option α):Option α:=if h:∃r,∀n,F n=some r then some h.choose else none
theorem qO{α:Type}{F:Nat->Option α}{r:α}(h:∀n,F n=some r):uni F=some r:=by
 have hx:∃r,∀n,F n=some r:=⟨r,h⟩;unfold uni;rw[dif_pos hx];have:=hx.choose_spec 0;rw[h 0]at this;exact this.symm
theorem qM{α:Type}{F:Nat->Option α}{r:α}(h:uni F=some r)(n:Nat):F n=some r:=by
 unfold uni at h;split at h
 ·rename_i hx;cases h;exact hx.choose_spec n
 ·cases h
def oF(ce:CE)(g:CG)(cb:CS):CS:=fun ρ S=>(ce ρ S).bind fun p=>match p.1 with
 |.ref l=>match p.2[l]? with
  |some (.dic kus)=>uni fun ep=>(dD (fun S'=>S'[l]?=some (.fdc ep kus)) g cb (kus.map fun q=>kU q.1) ρ (p.2.set l (.fdc ep kus))).bind fun r=>match r.2.2[l]? with
   |some (.fdc _ kus')=>some (r.1,r.2.1,r.2.2.set l (.dic kus'))
   |_=>none
  |_=>none
 |_=>none
theorem vU{K:Q1}{m:List Addr}{H:Hp}{a:Addr}{l ep:Nat}{kus:List (Key×U)}(ha:m[l]?=some a):za K (Itd a ep (kus.map (·.1))) m H (kus.map fun q=>kU q.1) (fun S'=>S'[l]?=some (.fdc ep kus)):=by
 intro m2 S2 H2 i e sr hok;obtain⟨a',ha',ob,es,kvs,hx,hd,ip⟩:=sr.get hok;have ha2:=e.get ha;rw[ha2]at ha';cases ha';have hz:IP H2 a ep (kus.map (·.1)):=⟨ob,es,kvs,hx,hd,ip.1⟩;refine⟨fun u hu=>?_,fun hu=>⟨by simpa using hu,hz⟩⟩;have hi:i<kus.length:=by have:=(Q6.mp hu).1;simpa using this
 refine⟨⟨by simpa using hi,hz⟩,?_⟩;rintro x H3 ⟨rfl,k,hk,rfl⟩;refine⟨.refl,sr,?_⟩;rw[Qu]at hk hu;rw[Q4 hi]at hk hu;cases hk;cases hu;exact Fp _
theorem yG{X:Cx}{ce:CE}{g:CG}{cb:CS}:∀D σ H,tS X.K (oF ce g cb) D σ H->FZ (Ck X (tE X.K ce)) (tG X.K g) (tS X.K cb) (FU X D) σ H:=by
 rintro D σ H ⟨m,ρ,S,o,ρ',S',sr,lr,hc,post⟩;obtain⟨⟨x,S1⟩,h1,h⟩:=Q0.mp hc;refine⟨m,ρ,S,x,S1,sr,lr,h1,fun m1 v1 H1 e1 sr1 i1=>?_⟩;cases x with
 |ref l=>
  simp only at h;split at h<;>try cases h
  rename_i kus hS;obtain⟨a,ha,rfl⟩:=i1.of_ref;obtain⟨a',ha',kvs,hx,ip⟩:=sr1.get hS;rw[ha]at ha';cases ha';refine⟨a,kvs,rfl,hx,fun ob es ep nf hd=>?_⟩;obtain⟨⟨o1,ρ1,S2⟩,h2,h3⟩:=Q0.mp (qM h ep);simp only at h3;split at h3<;>try cases h3
  rename_i ep' kus' hS2;have kp:wW X.K H1 (upd H1 a (.frz ob (.dK kvs))):=sr1.keep ha _;have ee:Ext X.K m1 H1 m1 (upd H1 a (.frz ob (.dK kvs))):=.of kp;have sr2:Sr X.K m1 (S1.set l (.fdc ep kus)) (upd H1 a (.frz ob (.dK kvs))):=sr1.put ha ⟨ob,es,kvs,aA,hd,ip.mono ee⟩;rw[ip.1];refine rp sr2 (lr.mono (e1.trans ee)) (vU ha) h2 ?_;have back:∀m3 H3,Ext X.K m1 (upd H1 a (.frz ob (.dK kvs))) m3 H3->Sr X.K m3 S2 H3->∃ob' kvs',H3 a=some (.frz ob' (.dK kvs'))/\Ext X.K m3 H3 m3 (upd H3 a (.dK kvs'))/\Sr X.K m3 (S2.set l (.dic kus')) (upd H3 a (.dK kvs')):=fun m3 H3 e3 sr3=>by
   obtain⟨a3,ha3,ob3,es3,kvs3,hx3,hd3,ip3⟩:=sr3.get hS2;rw[e3.get ha]at ha3;cases ha3;have e4:Ext X.K m3 H3 m3 (upd H3 a (.dK kvs3)):=.of (sr3.keep (e3.get ha) _);exact⟨ob3,kvs3,hx3,e4,sr3.put (e3.get ha) ⟨kvs3,aA,ip3.mono e4⟩⟩
  have nxt:∀(R:L2.St->Hp->Prop),gS X.K m H R ρ' (S2.set l (.dic kus'))->gS X.K m1 (upd H1 a (.frz ob (.dK kvs))) (fun σ H=>∃a ob kvs,xc X a/\H a=some (.frz ob (.dK kvs))/\R σ (upd H a (.dK kvs))) ρ' S2:=fun R p m3 σ3 H3 e3 sr3 lr3=>by
   obtain⟨ob3,kvs3,hx3,e4,sr4⟩:=back m3 H3 e3 sr3;exact⟨a,ob3,kvs3,nf,hx3,p m3 σ3 _ (((e1.trans ee).trans e3).trans e4) sr4 (lr3.mono e4)⟩
  cases o with
  |nx=>exact nxt _ post
  |bk=>exact nxt _ post
  |ct=>exact nxt _ post
  | rt v=>
    intro m3 v3 H3 e3 sr3 i3;obtain⟨ob3,kvs3,hx3,e4,sr4⟩:=back m3 H3 e3 sr3;exact⟨a,ob3,kvs3,nf,hx3,post m3 v3 _ (((e1.trans ee).trans e3).trans e4) sr4 (i3.mono e4)⟩
 |_=>cases h
theorem uL{X:Cx}{tg iter:QC}{body:List Z0}{ce:CE}{g:CG}{cb:CS}{pos:Pos}(hp:PassesOwn (Qj X.prog X.w) X.A X.env X.xe)(hc:X.calm=true)(hi:QE X iter ce)(hg:QG X tg g)(hb:QSs X body cb)(hs:∀x,foldedSetIterable iter X.env x=pure x:=by intro _;rfl):QS X (.For tg iter body [] pos) (oF ce g cb):=
 (tV (tZ hp hc (pA hi) hg hb hs)).imp yG
end OP
namespace OG
open PySem PySem.Spec PyProof.Rows L2
def mx(wi:TI)(g:TG)(tt:TT)(te:TE)(n:Nat)(caps:List Nat):TE:=fun σ H Q=>wi σ H fun J H1=>∀l,H1 l=none->∃W:Nat->Nat->L2.St->Hp->Prop,(∃m,W 0 m (stC n caps σ) (upd H1 l (.lst [])))/\
 ∀i m σ' H2,W i m σ' H2->(J.stop i H2/\Q (.ref l) H2)\/(J.go i H2/\∃N:L2.St->Hp->Prop,(∀σ'' H',N σ'' H'->∃m',m'<m/\W (i+1) m' σ'' H')/\
  ∀x H3,J.yld i H2 x H3->g x σ' H3 fun σ2 H4=>tt σ2 H4 fun b H5=>match b with
   |true=>te σ2 H5 fun v H6=>∃ys,H6 l=some (.lst ys)/\ys.length<QD/\N σ2 (upd H6 l (.lst (ys++[v])))
   |false=>N σ2 H5)
theorem lK{prog:Qv}{w:Qe}{A:Qa}{R:Result->Q3->Prop}{s:Q3}{elt target iter c:QC}{scope:Zq}{pos:Pos}{it acc:Q2}{env:Env}(I:Nat->Q3->Prop)
  (turn:∀n s,I n s->wpAny (Qj prog w) A (pyNext it) (fun r s₁=>match r with
   |none=>R (.ok .next) s₁
   |some v=>wpAny (Qj prog w) A (letOwnedTupleGo target it v) (fun _ s₁'=>wpAny (Qj prog w) A (assign target env v) (fun _ s₂=>wpAny (Qj prog w) A (PySem.isTrue c env (eval c env)) (fun b s₂'=>match b with
    |true=>wpAny (Qj prog w) A (eval elt env) (fun x s₃=>
     wpAny (Qj prog w) A (call (.builtin "list.append") [acc,x]) (fun _ s₄=>∃m,m<n/\I m s₄) (fun _ _=>False) s₃)
     (fun _ _=>False) s₂'
    |false=>∃m,m<n/\I m s₂') (fun _ _=>False) s₂) (fun _ _=>False) s₁') (fun _ _=>False) s₁) (fun _ _=>False) s)
  (n:Nat) (h:I n s) :
  codeAny (Qj prog w) A (.compLoop (.ListComp elt [⟨target,iter,[c],0⟩] scope pos) 0 it acc env) R s:=by
 refine codeAny_loop rfl I (fun n s hI=>?_) n h;show wpAny _ _ ((compTurn (.ListComp elt [⟨target,iter,[c],0⟩] scope pos) 0 it acc env).onRaise (fun x=>do noteFrame x env;theTreesLotGoes x)) _ _ s;refine wpAny_noted ?_;rw[compTurn_list];refine Q5 (wpAny_standAt (Q5 (ZX (turn n s hI) (fun r s₁ h₁=>?_) fun _ _ h'=>h'.elim)));cases r with
 |none=>exact QL h₁
 |some v=>
  refine Q5 (ZX h₁ (fun _ s₁' h₁'=>?_) fun _ _ h'=>h'.elim);refine Q5 (ZX h₁' (fun _ s₂ h₂=>?_) fun _ _ h'=>h'.elim);dsimp only;simp only[List.forIn_cons,List.forIn_nil,if_true,bind_assoc,pure_bind];refine Q5 (ZX h₂ (fun b s₂' h₂'=>?_) fun _ _ h'=>h'.elim);cases b with
  |true=>
   rw[if_pos rfl];exact Q5 (ZX h₂' (fun x s₃ h₃=>Q5 (ZX h₃
    (fun _ s₄ h₄=>QL ⟨rfl,h₄⟩) fun _ _ h'=>h'.elim)) fun _ _ h'=>h'.elim)
  |false=>
   rw[if_neg Q9];exact QL ⟨rfl,h₂'⟩
theorem mh{X:Cx}{Nc capN tn:List Str}{scope:Zq}{cl:List (Str×Addr)}{n:Nat}{caps:List Nat}{tg iter elt:QC}{pos:Pos}{wi:TI}{g:TG}{te:TE}{tt:TT}{c:QC}
  (hc:X.calm=true) (hi:WI X tg iter wi) (hg:∀s3 H3 fp,WG (cxC X Nc scope cl s3 H3 fp) tg g) (he:∀s3 H3 fp,WE (cxC X Nc scope cl s3 H3 fp) elt te)
  (ht:∀s3 H3 fp,WT (cxC X Nc scope cl s3 H3 fp) c tt)
  (hclos:closureFor scope X.env=pure cl) (hkind:scope.kind=.function) (hnl:∀x∈scope.names,x.2=.local->scope.names.lookup x.1=some .local) (hcell:∀x∈scope.names,x.2≠.cell)
  (hcl:sx X.env cl) (hhas:((relabel scope X.env).names.all fun p=>!(p.2 == .cell||p.2 == .free)||(cl.lookup p.1).isSome)=true)
  (hcap:Paired (Cap X scope cl) caps capN) (hN:Nc=tn++capN) (hn:tn.length=n)
  {use:Option (Q2->Sem Unit)} {pins:List (Addr×Obj)} {σ:L2.St} {H:Hp} {s:Q3} {Q:VK} {Qf:Q2->Q3->Prop} (I:Inv X pins σ H s) (h:mx wi g tt te n caps σ H Q)
  (hend:∀(D C:Addr) (s6:Q3) (H5:Hp) (m:Str->Option Q2),Inv X pins σ H5 s6->s6.heap.Ns C m->H5 C=none->C≠X.env.locals->X.s₀.heap.objs.size<=C->(∀x c,X.env.cells.lookup x=some c->c≠C)->(∀p∈X.pn++pins,p.1≠C)->Q (.ref D) H5->compPost (Qj X.prog X.w) X.A X.xe use Qf (.ref D) C (.ok .next) s6)
  (hs:∀x,foldedSetIterable iter X.env x=pure x) :
  wpAny (Qj X.prog X.w) X.A (comprehension (.ListComp elt [⟨tg,iter,[c],0⟩] scope pos) scope X.env (firstIterPos [⟨tg,iter,[c],0⟩] pos) (newList []) (firstAsync [⟨tg,iter,[c],0⟩]) (firstIter [⟨tg,iter,[c],0⟩] X.env) use) Qf X.xe s:=by
 refine wpAny_comprehension_free (use:=use) (g:=⟨tg,iter,[c],0⟩) (gs:=[]) rfl hs hclos hkind hnl (thn (hi.h pins s σ H _ I h) fun v s1 h1=>thn h1 fun itv s2 h2=>?_);obtain⟨it,fp,tnn,J,H2,rfl,I2,T,st2,f2,hW⟩:=h2;have hD:=I2.fresh;obtain⟨W,⟨m0,w0⟩,turn⟩:=hW _ hD;refine wpAny_newObj_type (wpAny_newFunctionEnv hcell (by intro y hy;simp at hy) (fun h₁ hns₁ hsb₁=>?_) hkind);dsimp only at hns₁ hsb₁ ⊢;have I3:Inv X pins σ (upd H2 s2.heap.objs.size (.lst [])) { s2 with heap:=s2.heap.push { cls:=.type "list",dict:=none,data:=.seq ([]:List Q2).toArray },toks:=s2.toks }:=I2.lnew (its:=[]) .nil (Z6 _);generalize hs3:({ s2 with heap:=s2.heap.push { cls:=.type "list",dict:=none,data:=.seq ([]:List Q2).toArray },toks:=s2.toks }:Q3)=s3 at I3;have es3:s3.heap=s2.heap.push { cls:=.type "list",dict:=none,data:=.seq ([]:List Q2).toArray }:=by rw[<-hs3]
 generalize hDD:s2.heap.objs.size=D at *;have kept:∀b o,s3.heap.get? b=some o->h₁.get? b=some o:=fun b o e=>by
  have lt:=QK e;rw[es3]at lt e;exact hsb₁.extBut b o (Qy lt) (Q7 _ e)
 have old:∀b o,s2.heap.get? b=some o->s3.heap.get? b=some o:=fun b o e=>by rw[es3];exact Q7 _ e
 have ltD:∀b∈fp,b<D:=fun b hb=>by
  obtain⟨o,e,_⟩:=T.obj 0 _ st2 b hb;rw[<-hDD];exact QK e
 have fo:∀b∈fp,b<s3.heap.objs.size:=fun b hb=>by
  obtain⟨o,e,_⟩:=T.obj 0 _ st2 b hb;exact QK (old _ _ e)
 have f3:∀b∈fp,tH X pins (upd H2 D (.lst [])) b:=fun b hb=>by
  refine⟨?_,(f2 b hb).2⟩;rw[aB (Qy (ltD b hb))];exact(f2 b hb).1
 rw[<-es3]at hns₁ hsb₁ ⊢;have Ic:=fun t'=>Inv.comp (h1:=h₁) (t':=t') (Nc:=Nc) (n:=n) I3 hc f3 fo hkind hcl hhas hcap tn hN hn hns₁ kept;have stat:∀{H':Hp},(∀b∈fp,H' b=none)->∀b∈fp,tH (cxC X Nc scope cl s3 (upd H2 D (.lst [])) fp) [] H' b:=fun hn' b hb=>by
  refine⟨hn' b hb,Qy (fo b hb),fun z=>?_,.inl hb,fun x c e=>(f2 b hb).2.2.2.2.1 x c (hcl.look e),fun p hp=>(by simp at hp)⟩;rcases QM.mp (I3.stkSub b z)with q|q
  ·exact(f2 b hb).2.1 q
  ·exact(f2 b hb).2.2.1 q
 have loop:∀s4:Q3,(∃t',s4={ s3 with heap:=h₁,toks:=t' })->codeAny (Qj X.prog X.w) X.A (.compLoop (.ListComp elt [⟨tg,iter,[c],0⟩] scope pos) 0 (.ref it) (.ref D) (compEnvC scope cl s3.heap.objs.size X.env))
   (compPost (Qj X.prog X.w) X.A X.xe use Qf (.ref D) s3.heap.objs.size) s4:=by
  rintro s4 ⟨t',rfl⟩;refine lK (fun n' s'=>∃i σ' H',Inv (cxC X Nc scope cl s3 (upd H2 D (.lst [])) fp) [] σ' H' s'/\tnn i s'.heap/\(∀b∈fp,H' b=none)/\W i n' σ' H') ?_ m0
   ⟨0,_,_,Ic t',T.keep 0 _ _ st2 fun b hb o e=>kept _ _ (old _ _ e),fun b hb=>(f3 b hb).1,w0⟩
  rintro n' s5 ⟨i,σ5,H5,I5,st5,fr5,w5⟩;rcases turn i n' σ5 H5 w5 with⟨stop,qn⟩|⟨go,N,hN',step⟩
  ·refine thn (T.done (cxC X Nc scope cl s3 (upd H2 D (.lst [])) fp) rfl rfl rfl hc i [] s5 σ5 H5 (fun _ _=>False) I5 (stat fr5) st5 stop) fun r s6 ⟨hr,I6⟩=>?_;subst hr;obtain⟨m,hm,_⟩:=I6.loc;have I7:Inv X pins σ H5 s6:=Inv.call' (ch:=fp) I3 I6.os I6.base I6.hok I6.bare fun b hb=>⟨(f2 b hb).2.2.2.1,(f2 b hb).2.1,(f2 b hb).2.2.2.2.1,(f2 b hb).2.2.2.2.2⟩;exact hend D _ s6 H5 m I7 hm I6.free (Ne.symm (Qy I3.lt)) I3.sz (fun x c e=>by
     obtain⟨v',o,ho,_⟩:=I3.cell x c e;exact Qy (QK ho)) (fun p hp=>Qy (QK (I3.pin p hp).1)) qn
  ·refine thn (T.item (cxC X Nc scope cl s3 (upd H2 D (.lst [])) fp) rfl rfl rfl hc i [] s5 σ5 H5 (fun _ _=>False) I5 (stat fr5) st5 go) fun r s6 ⟨u,hr,h6⟩=>?_;subst hr;refine thn h6 fun _ s7 hz=>?_;obtain⟨x,H7,I7,r7,y7,st7,fr7⟩:=hz;have I7':=I7.pinned (stat fr7) (T.obj _ _ st7);refine thn ((hg s3 (upd H2 D (.lst [])) fp).h _ s7 σ5 H7 x u _ I7' r7 (step x H7 y7)) fun _ s8 hz=>?_;obtain⟨σ8,H8,I8,q8⟩:=hz;have fin:∀{s10:Q3} {H10:Hp},Inv (cxC X Nc scope cl s3 (upd H2 D (.lst [])) fp) _ σ8 H10 s10->N σ8 H10->∃m',m'<n'/\∃i' σ' H',Inv (cxC X Nc scope cl s3 (upd H2 D (.lst [])) fp) [] σ' H' s10/\tnn i' s10.heap/\(∀b∈fp,H' b=none)/\W i' m' σ' H':=fun{s10 H10} I10 q10=>by
    obtain⟨m',hm,w10⟩:=hN' σ8 H10 q10;refine⟨m',hm,i+1,σ8,H10,Inv.unpinned I10,T.keep _ _ _ st7 fun b hb o e=>(Inv.pin I10 (b,o) (QR _ (QR _ (dX hb e)))).1,fun b hb=>?_,w10⟩;obtain⟨o,e,d⟩:=T.obj _ _ st7 b hb;exact(Inv.pin I10 (b,o) (QR _ (QR _ (dX hb e)))).2.1
   refine thn ((ht s3 (upd H2 D (.lst [])) fp).h _ s8 σ8 H8 _ I8 q8) fun b9 s9' h9=>?_;obtain⟨H9',I9',q9'⟩:=h9;cases b9 with
   |false=>exact fin I9' q9'
   |true=>
    refine thn ((he s3 (upd H2 D (.lst [])) fp).h _ s9' σ8 H9' _ I9' q9') fun v9 s9 hz=>?_;obtain⟨x9,H9,I9,r9,ys,hy,hlt,q9⟩:=hz;exact thn (kg (X:=cxC X Nc scope cl s3 (upd H2 D (.lst [])) fp) _ s9 σ8 H9 (.ref D) [x9] (.ref D) [v9] (fun _ H'=>N σ8 H') I9 rfl (.cons r9 .nil) ⟨D,ys,x9,rfl,rfl,hy,hlt,q9⟩) fun _ s10 ⟨_,H10,I10,_,q10⟩=>fin I10 q10
 have e4:∀t',({ s2 with heap:=h₁,toks:=t' }:Q3)={ s3 with heap:=h₁,toks:=t' }:=fun t'=>by rw[<-hs3]
 refine codeAny_compStart_list (loop _ ⟨_,e4 _⟩) (T.self _ 0 _ _ _ (T.keep 0 _ _ st2 fun b hb o e=>kept _ _ (old _ _ e)) (loop _ ⟨_,e4 _⟩))
theorem sD{X:Cx}{Nc capN tn:List Str}{scope:Zq}{cl:List (Str×Addr)}{n:Nat}{caps:List Nat}{tg iter elt:QC}{pos:Pos}{wi:TI}{g:TG}{te:TE}{tt:TT}{c:QC}
  (hc:X.calm=true) (hi:WI X tg iter wi) (hg:∀s3 H3 fp,WG (cxC X Nc scope cl s3 H3 fp) tg g) (he:∀s3 H3 fp,WE (cxC X Nc scope cl s3 H3 fp) elt te)
  (ht:∀s3 H3 fp,WT (cxC X Nc scope cl s3 H3 fp) c tt)
  (hclos:closureFor scope X.env=pure cl) (hkind:scope.kind=.function) (hnl:∀x∈scope.names,x.2=.local->scope.names.lookup x.1=some .local) (hcell:∀x∈scope.names,x.2≠.cell)
  (hcl:sx X.env cl) (hhas:((relabel scope X.env).names.all fun p=>!(p.2 == .cell||p.2 == .free)||(cl.lookup p.1).isSome)=true)
  (hcap:Paired (Cap X scope cl) caps capN) (hN:Nc=tn++capN) (hn:tn.length=n)
  (hs:∀x,foldedSetIterable iter X.env x=pure x:=by intro _;rfl) :
  WE X (.ListComp elt [⟨tg,iter,[c],0⟩] scope pos) (mx wi g tt te n caps):=by
 constructor;intro pins s σ H Q I h;rw[eval_ListComp];refine mh hc hi hg he ht hclos hkind hnl hcell hcl hhas hcap hN hn I h (fun D C s6 H5 m I7 hm fr nl sz cn pn qn=>⟨m,hm,fun h' hs'=>?_⟩) hs;exact⟨.ref D,H5,I7.turned (t':=s6.toks) (it:=C) (fun b o hb e=>hs'.extBut b o hb e) fr nl (.inr sz) cn pn,rfl,qn⟩
end OG
namespace OP
open PySem PySem.Spec PyProof.Rows L2 OG
open Classical in
def bL(ok:Sto->Prop)(g:CG)(ct:CT)(ce:CE)(l:Nat):List U->Rho->Sto->Option Sto
 |[],_,S=>if ok S then some S else none
 |u::us,ρ,S=>if ok S then(g u ρ S).bind fun p=>(ct p.1 p.2).bind fun q=>if q.1=true then(ce p.1 q.2).bind fun r=>match r.2[l]? with
  |some (.lst ys)=>if ys.length<LIM then bL ok g ct ce l us p.1 (r.2.set l (.lst (ys++[r.1])))else none
  |_=>none else bL ok g ct ce l us p.1 q.2 else none
def fJ(ci:CI)(g:CG)(ct:CT)(ce:CE)(n:Nat)(caps:List Nat):CE:=fun ρ S=>(ci ρ S).bind fun p=>(bL p.2.1 g ct ce p.2.2.length p.1 (pH n caps ρ) (p.2.2++[.lst []])).bind fun S'=>some (.ref p.2.2.length,S')
section
variable{X:Cx}{K:Q1}
theorem kL{g:CG}{ct:CT}{ce:CE}{n:Nat}{caps:List Nat}{J:It}{us:List U}{ok:Sto->Prop}{Q:VK}{m1:List Addr}{H1:Hp}{S1 S':Sto}{ρ:Rho}{σ:L2.St}{l:Addr}(sr1:Sr K m1 S1 H1)(lr:Lr K m1 H1 ρ σ)(ito:za K J m1 H1 us ok)(hl:H1 l=none)(h2:bL ok g ct ce S1.length us (pH n caps ρ) (S1++[.lst []])=some S')
  (post:∀m2 H2,Ext K (m1++[l]) (upd H1 l (.lst [])) m2 H2->Sr K m2 S' H2->Q (.ref l) H2) :
  ∃W:Nat->Nat->L2.St->Hp->Prop,(∃m,W 0 m (OG.stC n caps σ) (upd H1 l (.lst [])))/\
 ∀i m σ' H2,W i m σ' H2->(J.stop i H2/\Q (.ref l) H2)\/(J.go i H2/\∃N:L2.St->Hp->Prop,(∀σ'' H',N σ'' H'->∃m',m'<m/\W (i+1) m' σ'' H')/\
  ∀x H3,J.yld i H2 x H3->tG K g x σ' H3 fun σ2 H4=>tT K ct σ2 H4 fun b H5=>match b with
   |true=>tE K ce σ2 H5 fun v H6=>∃ys,H6 l=some (.lst ys)/\ys.length<QD/\N σ2 (upd H6 l (.lst (ys++[v])))
   |false=>N σ2 H5):=by
 have ee:Ext K m1 H1 (m1++[l]) (upd H1 l (.lst [])):=.new (bI hl _);let W:Nat->Nat->L2.St->Hp->Prop:=fun i k σ2 H2=>k=us.length-i/\i<=us.length/\∃m2 ρ2 S2,Ext K (m1++[l]) (upd H1 l (.lst [])) m2 H2/\Sr K m2 S2 H2/\Lr K m2 H2 ρ2 σ2/\bL ok g ct ce S1.length (us.drop i) ρ2 S2=some S'
 refine⟨W,⟨us.length,by simp,Z6 _,m1++[l],pH n caps ρ,S1++[.lst []],.refl,sr1.new (o:=.lst []) hl ⟨[],aA,.nil_⟩,vz (lr.mono ee),by simpa using h2⟩,?_⟩;rintro i k σ2 H2 ⟨rfl,hi,m2,ρ2,S2,e2,sr2,lr2,hl2⟩;by_cases hlt:i<us.length
 ·have hu:=Q4 hlt;rw[kH hu]at hl2;unfold bL at hl2;split at hl2
  ·rename_i hok;obtain⟨⟨ρ3,S3⟩,h3,hl2⟩:=Q0.mp hl2;obtain⟨⟨b4,S4⟩,h4,hl2⟩:=Q0.mp hl2;obtain⟨hgo,hy⟩:=(ito m2 S2 H2 i (ee.trans e2) sr2 hok).1 _ hu;refine .inr ⟨hgo,W (i+1) (us.length-(i+1)),fun σ' H' w'=>⟨_,by omega,w'⟩,fun x H3 y=>?_⟩;obtain⟨e3,sr3,ix⟩:=hy x H3 y;refine⟨m2,ρ2,S2,_,ρ3,S3,sr3,lr2.mono e3,ix,h3,fun m4 σ4 H4 e4 sr4 lr4=>⟨m4,ρ3,S3,b4,S4,sr4,lr4,h4,fun m4' H4' e4' sr4'=>?_⟩⟩;cases b4 with
   |false=>
    rw[if_neg Q9]at hl2;exact⟨rfl,hlt,m4',ρ3,_,(((e2.trans e3).trans e4).trans e4'),sr4',lr4.mono e4',hl2⟩
   |true=>
    rw[if_pos rfl]at hl2;obtain⟨⟨u5,S5⟩,h5,hl2⟩:=Q0.mp hl2;simp only at hl2;split at hl2<;>try cases hl2
    rename_i ys hys;split at hl2<;>try cases hl2
    rename_i hlen;refine⟨m4',ρ3,S4,u5,S5,sr4',lr4.mono e4',h5,fun m5 v5 H5 e5 sr5 i5=>?_⟩;obtain⟨a',ha',xs,hx,il⟩:=sr5.get hys;have ha:m5[S1.length]?=some l:=((((e2.trans e3).trans e4).trans e4').trans e5).get (dQ sr1.len);rw[ha]at ha';cases ha';have eu:Ext K m5 H5 m5 (upd H5 l (.lst (xs++[v5]))):=.of (sr5.keep ha _);exact⟨xs,hx,F8 (by rw[il.length];exact hlen),rfl,hlt,m5,ρ3,_,(((((e2.trans e3).trans e4).trans e4').trans e5).trans eu),sr5.put (o:=.lst (ys++[u5])) ha ⟨_,aA,(il.append (.cons_ i5 .nil_)).mono eu⟩,(lr4.mono ((e4'.trans e5).trans eu)),hl2⟩
  ·cases hl2
 ·have e:i=us.length:=by omega
  subst e;rw[List.drop_length]at hl2;unfold bL at hl2;split at hl2
  ·rename_i hok;cases hl2;exact .inl ⟨(ito m2 _ H2 _ (ee.trans e2) sr2 hok).2 (Q8 _),post m2 H2 e2 sr2⟩
  ·cases hl2
theorem sZ{ci:CI}{g:CG}{ct:CT}{ce:CE}{n:Nat}{caps:List Nat}:∀σ H Q,tE K (fJ ci g ct ce n caps) σ H Q->mx (tI K ci) (tG K g) (tT K ct) (tE K ce) n caps σ H Q:=by
 rintro σ H Q ⟨m,ρ,S,u,S',sr,lr,hc,post⟩;obtain⟨⟨us,ok,S1⟩,h1,h2⟩:=Q0.mp hc;obtain⟨S2,h2,h3⟩:=Q0.mp h2;cases h3;refine⟨m,ρ,S,us,ok,S1,sr,lr,h1,fun m1 H1 J e1 sr1 ito l hl=>?_⟩;have ee:Ext K m1 H1 (m1++[l]) (upd H1 l (.lst [])):=.new (bI hl _);exact kL sr1 (lr.mono e1) ito hl h2 fun m2 H2 e2 sr2=>post m2 _ H2 ((e1.trans ee).trans e2) sr2 (.ref_ (e2.get (dQ sr1.len)))
theorem qW{Nc capN tn:List Str}{scope:Zq}{cl:List (Str×Addr)}{n:Nat}{caps:List Nat}{tg iter elt:QC}{pos:Pos}{ci:CI}{g:CG}{ct:CT}{ce:CE}{c:QC}
  (hc:X.calm=true) (hi:QI X tg iter ci) (hg:∀s3 H3 fp,WG (cxC X Nc scope cl s3 H3 fp) tg (tG X.K g)) (ht:∀s3 H3 fp,WT (cxC X Nc scope cl s3 H3 fp) c (tT X.K ct)) (he:∀s3 H3 fp,WE (cxC X Nc scope cl s3 H3 fp) elt (tE X.K ce))
  (hclos:closureFor scope X.env=pure cl) (hkind:scope.kind=.function) (hnl:∀x∈scope.names,x.2=.local->scope.names.lookup x.1=some .local) (hcell:∀x∈scope.names,x.2≠.cell)
  (hcl:sx X.env cl) (hhas:((relabel scope X.env).names.all fun p=>!(p.2 == .cell||p.2 == .free)||(cl.lookup p.1).isSome)=true)
  (hcap:Paired (Cap X scope cl) caps capN) (hN:Nc=tn++capN) (hn:tn.length=n)
  (hs:∀x,foldedSetIterable iter X.env x=pure x:=by intro _;rfl) :
  QE X (.ListComp elt [⟨tg,iter,[c],0⟩] scope pos) (fJ ci g ct ce n caps):=(sD hc hi hg he ht hclos hkind hnl hcell hcl hhas hcap hN hn hs).imp sZ
end
end OP
namespace OP
open PySem PySem.Spec PyProof PyProof.Rows L2 OG
mutual
inductive RdV(K:Q1)(H:Hp):V->PyData->Prop
 |non:RdV K H .non .none
 |bl (b:Bool):RdV K H (.bl b) (.bool b)
 |int (i:Int):RdV K H (.int i) (.int i)
 |str (x:Str):RdV K H (.str x) (.str x)
 |lst {a:Addr} {xs:List V} {ds:List PyData}:SqL K H a xs->wU K H xs ds->RdV K H (.ref a) (.list ds)
 |tup {a:Addr} {xs:List V} {ds:List PyData}:SqT K H a xs->wU K H xs ds->RdV K H (.ref a) (.tuple ds)
inductive wU(K:Q1)(H:Hp):List V->List PyData->Prop
 |nil:wU K H [] []
 |cons {x:V} {xs:List V} {d:PyData} {ds:List PyData}:RdV K H x d->wU K H xs ds->wU K H (x::xs) (d::ds)
end
mutual
inductive Dt(S:Sto):U->PyData->Prop
 |non:Dt S .non .none
 |bl (b:Bool):Dt S (.bl b) (.bool b)
 |int (i:Int):Dt S (.int i) (.int i)
 |str (x:Str):Dt S (.str x) (.str x)
 |lst {l:Nat} {us:List U} {ds:List PyData}:S[l]?=some (.lst us)->DtL S us ds->Dt S (.ref l) (.list ds)
 |tup {us:List U} {ds:List PyData}:DtL S us ds->Dt S (.tup us) (.tuple ds)
inductive DtL(S:Sto):List U->List PyData->Prop
 |nil:DtL S [] []
 |cons {x:U} {xs:List U} {d:PyData} {ds:List PyData}:Dt S x d->DtL S xs ds->DtL S (x::xs) (d::ds)
end
section
variable{X:Cx}{K:Q1}{pins:List (Addr×Obj)}{σ:L2.St}{H:Hp}{s:Q3}
mutual
theorem RdV.reads(I:Inv X pins σ H s):∀{x:V} {d:PyData} {v:Q2},RdV X.K H x d->bR x v->∃as,Reads s.heap v d as
 |_,_,_,.non,r=>by cases r;exact⟨_,.none⟩
 |_,_,_,.bl b,r=>by cases r;exact⟨_,.bool b⟩
 |_,_,_,.int i,r=>by obtain⟨t,rfl⟩:=r;exact⟨_,.int i t⟩
 |_,_,_,.str i,r=>by obtain⟨t,rfl⟩:=r;exact⟨_,.str i t⟩
 |_,_,_,.lst (a:=a) h t,r=>by
  cases r;obtain⟨its,rv,pl,_⟩:=I.list h;obtain⟨as,k⟩:=wU.reads I t rv;obtain⟨o,h1,h2,n,h3⟩:=pl.isList;exact⟨_,.list h1 h2 h3 (by simpa using k)⟩
 |_,_,_,.tup (a:=a) h t,r=>by
  cases r;obtain⟨its,rv,pl,_⟩:=I.tuple h;obtain⟨as,k⟩:=wU.reads I t rv;obtain⟨o,h1,h2,n,h3⟩:=pl;exact⟨_,.tuple h1 h2 h3 (by simpa using k)⟩
theorem wU.reads(I:Inv X pins σ H s):∀{xs:List V} {ds:List PyData} {vs:List Q2},wU X.K H xs ds->bD xs vs->∃as,ReadsAll s.heap vs ds as
 |_,_,_,.nil,r=>by cases r;exact⟨_,.nil⟩
 |_,_,_,.cons h t,.cons r rs=>by
  obtain⟨as,a⟩:=RdV.reads I h r;obtain⟨bs,b⟩:=wU.reads I t rs;exact⟨_,.cons a b⟩
end
mutual
theorem Dt.rd{m:List Addr}{S:Sto}(sr:Sr K m S H):∀{u:U} {d:PyData} {v:V},Dt S u d->Is K m H v u->RdV K H v d
 |_,_,_,.non,i=>by rw[i.of_non];exact .non
 |_,_,_,.bl b,i=>by rw[i.of_bl];exact .bl b
 |_,_,_,.int b,i=>by rw[i.of_int];exact .int b
 |_,_,_,.str b,i=>by rw[i.of_str];exact .str b
 |_,_,_,.lst h t,i=>by
  obtain⟨a,ha,rfl⟩:=i.of_ref;obtain⟨a',ha',xs,hx,il⟩:=sr.get h;rw[ha]at ha';cases ha';exact .lst (SqL.of hx) (DtL.rd sr t il)
 |_,_,_,.tup t,i=>by
  obtain⟨a,xs,rfl,sa,la⟩:=i.of_tup;exact .tup sa (DtL.rd sr t la)
theorem DtL.rd{m:List Addr}{S:Sto}(sr:Sr K m S H):∀{us:List U} {ds:List PyData} {vs:List V},DtL S us ds->IsL K m H vs us->wU K H vs ds
 |_,_,_,.nil,i=>by rw[i.of_nil];exact .nil
 |_,_,_,.cons h t,i=>by
  obtain⟨x,r,rfl,i1,i2⟩:=i.of_cons;exact .cons (Dt.rd sr h i1) (DtL.rd sr t i2)
end
mutual
theorem Dt.uniq{S:Sto}:∀{u:U} {d e:PyData},Dt S u d->Dt S u e->d=e
 |_,_,_,.non,.non=>rfl
 |_,_,_,.bl _,.bl _=>rfl
 |_,_,_,.int _,.int _=>rfl
 |_,_,_,.str _,.str _=>rfl
 |_,_,_,.lst h t,.lst h' t'=>by
  rw[h]at h';cases h';rw[DtL.uniq t t']
 |_,_,_,.tup t,.tup t'=>by rw[DtL.uniq t t']
theorem DtL.uniq{S:Sto}:∀{us:List U} {ds es:List PyData},DtL S us ds->DtL S us es->ds=es
 |_,_,_,.nil,.nil=>rfl
 |_,_,_,.cons h t,.cons h' t'=>by rw[Dt.uniq h h',DtL.uniq t t']
end
def lM(d:PyData):Prop:=d.canLay0=true/\d.depth<=60
def Hu(K:Q1)(neg:Bool):R2:=fun x y H Q=>(∃dx dy,RdV K H x dx/\RdV K H y dy/\lM dx/\lM dy/\Q (.bl (if neg then !dx.eqv dy else dx.eqv dy)) H)\/
 ∃a b xs ys,x=.ref a/\y=.ref b/\SqL K H a xs/\SqL K H b ys/\xs.length≠ys.length/\Q (.bl neg) H
theorem nX(hu:X.A.units+64<cLine):OpR X (compareOp .Eq) (Hu X.K false):=by
 rintro pins s σ H x y v u Q I rx ry (⟨dx,dy,hx,hy,lx,ly,q⟩|⟨a,b,xs,ys,rfl,rfl,ha,hb,ne,q⟩)
 ·obtain⟨as,hx⟩:=hx.reads I rx;obtain⟨bs,hy⟩:=hy.reads I ry;exact SeqAt.compareEq_reads hx hy lx.1 ly.1 (by have:=lx.2;omega) ⟨.bl _,H,I,rfl,q⟩
 ·cases rx;cases ry;obtain⟨i1,r1,p1,_⟩:=I.list ha;obtain⟨i2,r2,p2,_⟩:=I.list hb;have l1:=r1.length;have l2:=r2.length;exact SeqAt.RcAt.lists_lengths p1.isList p2.isList (by simp;omega) (by omega) X.prog X.w X.xe _ ⟨.bl false,H,I,rfl,q⟩
theorem rj(hu:X.A.units+64<cLine):OpR X (compareOp .NotEq) (Hu X.K true):=by
 rintro pins s σ H x y v u Q I rx ry (⟨dx,dy,hx,hy,lx,ly,q⟩|⟨a,b,xs,ys,rfl,rfl,ha,hb,ne,q⟩)
 ·obtain⟨as,hx⟩:=hx.reads I rx;obtain⟨bs,hy⟩:=hy.reads I ry;exact SeqAt.compareNe_reads hx hy lx.1 ly.1 (by have:=lx.2;omega) ⟨.bl _,H,I,rfl,q⟩
 ·cases rx;cases ry;obtain⟨i1,r1,p1,_⟩:=I.list ha;obtain⟨i2,r2,p2,_⟩:=I.list hb;have l1:=r1.length;have l2:=r2.length;exact SeqAt.RcNeAt.lists_lengths p1.isList p2.isList (by simp;omega) (by omega) X.prog X.w X.xe _ ⟨.bl true,H,I,rfl,q⟩
def xf(x y:U)(S:Sto)(b:Bool):Prop:=(∃dx dy,Dt S x dx/\Dt S y dy/\lM dx/\lM dy/\b=dx.eqv dy)\/∃l l' us vs,x=.ref l/\y=.ref l'/\S[l]?=some (.lst us)/\S[l']?=some (.lst vs)/\us.length≠vs.length/\b=false
theorem DtL.length{S:Sto}:∀{us:List U} {ds:List PyData},DtL S us ds->us.length=ds.length
 |_,_,.nil=>rfl
 |_,_,.cons _ t=>by rw[QY,QY,DtL.length t]
theorem xf.mix{l l':Nat}{us vs:List U}{S:Sto}{dx dy:PyData}(h1:Dt S (.ref l) dx)(h2:Dt S (.ref l') dy)(k1:S[l]?=some (.lst us))(k2:S[l']?=some (.lst vs))(ne:us.length≠vs.length):dx.eqv dy=false:=by
 cases h1 with
 |lst a1 t1=>
  cases h2 with
  |lst a2 t2=>
   rw[k1]at a1;cases a1;rw[k2]at a2;cases a2;show PyData.eqvAll _ _=false;exact SeqAt.eqvAll_other_length (by rw[<-t1.length,<-t2.length];exact ne)
theorem xf.uniq{x y:U}{S:Sto}{b c:Bool}(h:xf x y S b)(k:xf x y S c):b=c:=by
 rcases h with⟨dx,dy,h1,h2,_,_,rfl⟩|⟨l,l',us,vs,rfl,rfl,h1,h2,ne,rfl⟩
 ·rcases k with⟨ex,ey,k1,k2,_,_,rfl⟩|⟨l,l',us,vs,rfl,rfl,k1,k2,ne,rfl⟩
  ·rw[h1.uniq k1,h2.uniq k2]
  ·exact xf.mix h1 h2 k1 k2 ne
 ·rcases k with⟨ex,ey,k1,k2,_,_,rfl⟩|⟨_,_,_,_,_,_,_,_,_,rfl⟩
  ·exact(xf.mix k1 k2 h1 h2 ne).symm
  ·rfl
open Classical in
def iq(neg:Bool):U->U->Sto->Option (U×Sto):=fun x y S=>if h:∃b,xf x y S b then some (.bl (if neg then !h.choose else h.choose),S)else none
theorem ik{x y:U}{S:Sto}{b:Bool}(neg:Bool)(h:xf x y S b):iq neg x y S=some (.bl (if neg then !b else b),S):=by
 unfold iq;rw[dif_pos ⟨b,h⟩];have e:(⟨b,h⟩:∃b,xf x y S b).choose=b:=(Exists.choose_spec (⟨b,h⟩:∃b,xf x y S b)).uniq h;rw[e]
theorem mI{neg:Bool}:OpP K (Hu K neg) (iq neg):=by
 intro m S H x y v w u S' Q sr ix iy hf post;unfold iq at hf;split at hf<;>try cases hf
 rename_i h;have hb:=h.choose_spec;generalize h.choose=b at hb post;rcases hb with⟨dx,dy,h1,h2,l1,l2,rfl⟩|⟨l,l',us,vs,rfl,rfl,h1,h2,ne,rfl⟩
 ·exact .inl ⟨dx,dy,h1.rd sr ix,h2.rd sr iy,l1,l2,post m _ H .refl sr .bl_⟩
 ·obtain⟨a,ha,rfl⟩:=ix.of_ref;obtain⟨a',ha',xs,hx,la⟩:=sr.get h1;rw[ha]at ha';cases ha';obtain⟨c,hc,rfl⟩:=iy.of_ref;obtain⟨c',hc',ys,hy,lc⟩:=sr.get h2;rw[hc]at hc';cases hc';refine .inr ⟨a,c,xs,ys,rfl,rfl,SqL.of hx,SqL.of hy,by rw[la.length,lc.length];exact ne,?_⟩;have e:(if neg=true then !false else false)=neg:=by cases neg<;>rfl
  have:=post m _ H .refl sr (Is.bl_ (b:=if neg=true then !false else false));rw[e]at this;exact this
def Jb(K:Q1)(neg:Bool):R2:=fun x y H Q=>∃dx dys,RdV K H x dx/\(RdV K H y (.list dys)\/RdV K H y (.tuple dys))/\lM dx/\PyData.canLayAll0 dys=true/\Q (.bl (if neg then !(dys.any fun z=>z.eqv dx)else dys.any fun z=>z.eqv dx)) H
theorem ES(hu:X.A.units+64<cLine):OpR X (compareOp .In) (Jb X.K false):=by
 rintro pins s σ H x y v u Q I rx ry ⟨dx,dys,hx,hy,lx,ly,q⟩;obtain⟨as,hx⟩:=hx.reads I rx;rcases hy with hy|hy
 ·obtain⟨bs,hy⟩:=hy.reads I ry;exact SeqAt.in_list_reads hy hx ly lx.1 (by have:=lx.2;omega) ⟨.bl _,H,I,rfl,q⟩
 ·obtain⟨bs,hy⟩:=hy.reads I ry;exact SeqAt.in_tuple_reads hy hx ly lx.1 (by have:=lx.2;omega) ⟨.bl _,H,I,rfl,q⟩
def CO(x y:U)(S:Sto)(b:Bool):Prop:=∃dx dys,Dt S x dx/\(Dt S y (.list dys)\/Dt S y (.tuple dys))/\lM dx/\PyData.canLayAll0 dys=true/\b=dys.any fun z=>z.eqv dx
theorem CO.uniq{x y:U}{S:Sto}{b c:Bool}(h:CO x y S b)(k:CO x y S c):b=c:=by
 obtain⟨dx,dy,h1,h2,_,_,rfl⟩:=h;obtain⟨ex,ey,k1,k2,_,_,rfl⟩:=k;rw[h1.uniq k1];rcases h2 with h2|h2<;>rcases k2 with k2|k2<;>cases h2.uniq k2<;>rfl
open Classical in
def CY(neg:Bool):U->U->Sto->Option (U×Sto):=fun x y S=>if h:∃b,CO x y S b then some (.bl (if neg then !h.choose else h.choose),S)else none
theorem Cp{x y:U}{S:Sto}{b:Bool}(neg:Bool)(h:CO x y S b):CY neg x y S=some (.bl (if neg then !b else b),S):=by
 unfold CY;rw[dif_pos ⟨b,h⟩];have e:(⟨b,h⟩:∃b,CO x y S b).choose=b:=(Exists.choose_spec (⟨b,h⟩:∃b,CO x y S b)).uniq h;rw[e]
theorem HM{neg:Bool}:OpP K (Jb K neg) (CY neg):=by
 intro m S H x y v w u S' Q sr ix iy hf post;unfold CY at hf;split at hf<;>try cases hf
 rename_i h;have hb:=h.choose_spec;generalize h.choose=b at hb post;obtain⟨dx,dy,h1,h2,l1,l2,rfl⟩:=hb;exact⟨dx,dy,h1.rd sr ix,h2.elim (fun z=>.inl (z.rd sr iy)) (fun z=>.inr (z.rd sr iy)),l1,l2,post m _ H .refl sr .bl_⟩
def oY(us:List U)(lo hi:Option Int):List U:=(us.drop (HT.sIx us.length 0 lo)).take (HT.sIx us.length us.length hi-HT.sIx us.length 0 lo)
theorem rX{m:List Addr}{xs:List V}{us:List U}{lo hi:Option Int}(i:IsL K m H xs us):IsL K m H (Ad xs lo hi) (oY us lo hi):=by
 unfold Ad oY;rw[i.length];exact(i.drop _).take _
def fSl(x:U)(lo hi:Option Int)(S:Sto):Option (U×Sto):=match x with
 |.tup us=>if HT.sIx us.length 0 lo=0/\HT.sIx us.length us.length hi=us.length then none else some (.tup (oY us lo hi),S)
 |.ref l=>match S[l]? with
  |some (.lst us)=>some (.ref S.length,S++[.lst (oY us lo hi)])
  |_=>none
 |_=>none
def qq:Option CE->Rho->Sto->Option (Option Int×Sto)
 |none,_,S=>some (none,S)
 |some c,ρ,S=>(c ρ S).bind fun p=>match p.1 with
  |.int i=>some (some i,p.2)
  |_=>none
def cSl(ca:CE)(cl ch:Option CE):CE:=fun ρ S=>(ca ρ S).bind fun p=>(qq cl ρ p.2).bind fun q=>(qq ch ρ q.2).bind fun r=>fSl p.1 q.1 r.1 r.2
def IJ(K:Q1)(m:List Addr)(H:Hp)(Q:Option Int->Hp->Prop)(o:Option Int)(S':Sto):Prop:=∀m' H',Ext K m H m' H'->Sr K m' S' H'->Q o H'
def tO(K:Q1)(c:Option CE):TO:=fun σ H Q=>∃m ρ S o S',Sr K m S H/\Lr K m H ρ σ/\qq c ρ S=some (o,S')/\IJ K m H Q o S'
abbrev QO(X:Cx)(e:Option QC)(c:Option CE):Prop:=WO X e (tO X.K c)
theorem pJ:QO X none none:=⟨fun pins s σ H Q I hz=>jO hz fun m ρ S o S' sr lr hc post=>xo.h pins s σ H Q I (by cases hc;exact post m H .refl sr)⟩
theorem pI{e:QC}{ca:CE}(h:QE X e ca):QO X (some e) (some ca):=⟨fun pins s σ H Q I hz=>jO hz fun m ρ S o S' sr lr hc post=>(xn h).h pins s σ H Q I (by
 obtain⟨⟨x,S1⟩,h1,h2⟩:=Q0.mp hc;refine⟨m,ρ,S,x,S1,sr,lr,h1,fun m1 v1 H1 e1 sr1 i1=>?_⟩;cases x<;>simp at h2;obtain⟨rfl,rfl⟩:=h2;exact⟨_,i1.of_int,post m1 H1 e1 sr1⟩)⟩
theorem JS{e:QC}{lo hi:Option QC}{ca:CE}{cl ch:Option CE}{pos p2:Pos}(ha:QE X e ca)(hl:QO X lo cl)(hh:QO X hi ch):QE X (.Subscript e (.Slice lo hi none p2) pos) (cSl ca cl ch):=(nE (uB.or zA) ha hl hh).imp fun σ H Q hz=>jO hz fun m ρ S u S' sr lr hc post=>by
 obtain⟨⟨x,S1⟩,h1,ha⟩:=Q0.mp hc;obtain⟨⟨l,S2⟩,h2,hb⟩:=Q0.mp ha;obtain⟨⟨k,S3⟩,h3,h⟩:=Q0.mp hb;clear ha hb hc;refine⟨m,ρ,S,x,S1,sr,lr,h1,fun m1 v1 H1 e1 sr1 i1=>⟨m1,ρ,S1,l,S2,sr1,lr.mono e1,h2,fun m2 H2 e2 sr2=>⟨m2,ρ,S2,k,S3,sr2,lr.mono (e1.trans e2),h3,fun m3 H3 e3 sr3=>?_⟩⟩⟩;have i3:=i1.mono (e2.trans e3);have e03:=(e1.trans e2).trans e3;cases x with
 |tup us=>
  simp only[fSl]at h;split at h<;>try cases h
  rename_i hw;obtain⟨a,xs,rfl,sa,la⟩:=i3.of_tup;exact .inr ⟨a,xs,rfl,sa,by rw[la.length];exact hw,fun p hp=>jW sr3 (rX la) (post.mono e03) hp⟩
 |ref r=>
  simp only[fSl]at h;split at h<;>try cases h
  rename_i us hS;obtain⟨a,ha,rfl⟩:=i3.of_ref;obtain⟨a',ha',xs,hx,la⟩:=sr3.get hS;rw[ha]at ha';cases ha';exact .inl ⟨a,xs,rfl,SqL.of hx,fun p hp=>cV sr3 (rX la) (post.mono e03) hp⟩
 |_=>simp[fSl]at h
end
section
variable{X:Cx}{K:Q1}
def Bq(K:Q1):R2:=fun x y H Q=>∃a k xs,x=.ref a/\y=.int k/\SqT K H a xs/\xs≠[]/\1<=k/\xs.length*k.toNat<=1000/\∀q H',Aj H H'->SqT K H' q (QU k.toNat xs).flatten->Q (.ref q) H'
theorem BV:OpR X (binaryOp .Mult) (Bq X.K):=by
 intro pins s σ H x y v u Q I rx ry h;obtain⟨a,k,xs,rfl,rfl,ha,hne,hk,hz,q⟩:=h;cases rx;obtain⟨t,rfl⟩:=ry;obtain⟨its,r1,p1,hzz⟩:=I.tuple ha;have hlen:=r1.length;obtain⟨⟨cls,dd,data,sl⟩,ho,hc,n,hd⟩:=id p1;simp only at hc hd;subst hc hd;have hne':its≠[]:=fun z=>hne (r1.nil_iff.mp z);refine wpAny_binaryOp_repeat_ref (T:="tuple") (U:="int") (by decide) ⟨_,ho,rfl⟩ (fun s'=>typeIs_int s' k t) jM F.fills_int_mul F.slot_int_rmul nQ F.slot_int_index.lookup
  (call_meets F.slot_int_rmul (typeIs_int s k t) F.entry_int_rmul (F.args_int_rmul_2 _ _) (lB k t a its.toArray n dd sl) ⟨ho,rfl,⟨_,ho,rfl⟩,?_⟩)
 by_cases k1:k=1
 ·subst k1;refine call_meets F.slot_tuple_mul ⟨_,ho,rfl⟩ F.entry_tuple_mul (F.args_tuple_mul_2 _ _) (pF a its.toArray n dd sl t) ⟨ho,⟨.ref a,H,I,rfl,q a H (.refl _) ?_⟩⟩;simpa using ha
 ·have hfold:List.foldl (fun x1 x2=>x1++x2) #[] (QU k.toNat its.toArray)=(QU k.toNat its).flatten.toArray:=by
   have:=kC its k.toNat [];rw[ZE]at this;exact this
  have hfl:(QU k.toNat its).flatten.length<=1000:=by rw[pV,<-hlen,Nat.mul_comm];exact hz
  have hlp:0<its.length:=List.length_pos_iff.mpr hne';have hk2:k.toNat<=1000:=Qb (Nat.le_mul_of_pos_left _ (by rw[hlen];exact hlp)) hz;have hsz:(its.toArray.size:Int)*k<=1000:=by
   rw[QF,<-hlen];have e:k=((k.toNat:Nat):Int):=by omega
   rw[e,<-Int.natCast_mul];omega
  refine call_meets F.slot_tuple_mul ⟨_,ho,rfl⟩ F.entry_tuple_mul (F.args_tuple_mul_2 _ _) (pE a its.toArray n dd sl k t ?_ ?_ ?_ ?_ ?_ ?_) ⟨ho,?_⟩
  ·simp;omega
  ·simp[hne',k1]
  ·simp[hne'];omega
  ·omega
  ·unfold Builtin.Tuple.tupleTooMany;have:¬(its.toArray.size:Int)*k>(QD:Int):=by
    have:(1000:Nat)<=QD:=nN (Q8 _);omega
   simpa using this
  ·rw[hfold,QF];exact nN hfl
  ·rw[hfold];refine⟨.ref s.heap.objs.size,_,I.laid (t':=s.toks) (o:=.tup (QU k.toNat xs).flatten) (fun b ob q=>Q7 _ q) (Q8 _) ?_,rfl,q _ _ (ft (I.hok.fresh (Q8 _)) _) (SqT.of aA)⟩;exact⟨nN (by rw[pV,Nat.mul_comm];exact hz),_,r1.rep k.toNat,zb.new _ _⟩
def wc:U->U->Sto->Option (U×Sto)
 |.int i,.int j,S=>if wX i j then some (.int (i*j),S)else none
 |.tup us,.int k,S=>if us≠[]/\1<=k/\us.length*k.toNat<=1000 then some (.tup (QU k.toNat us).flatten,S)else none
 |.ref l,.int k,S=>match S[l]? with
  |some (.lst us)=>if 0<=k/\k<=100000/\us.length*k.toNat<=LIM then some (.ref S.length,S++[.lst (QU k.toNat us).flatten])else none
  |_=>none
 |_,_,_=>none
theorem EV:OpR X (binaryOp .Mult) (fun x y H Q=>rI wX (fun i j=>.int (i*j)) x y H Q\/(Bq X.K x y H Q\/Ht x y H Q)):=jH.or (BV.or ER)
instance {us:List U}:Decidable (us≠[]):=match us with
 |[]=>.isFalse fun h=>h rfl
 |_::_=>.isTrue fun h=>by cases h
theorem EL:OpP K (fun x y H Q=>rI wX (fun i j=>.int (i*j)) x y H Q\/(Bq K x y H Q\/Ht x y H Q)) wc:=by
 intro m S H x y v w u S' Q sr ix iy hf post;cases x<;>cases y<;>simp only[wc]at hf<;>try cases hf
 ·split at hf<;>try cases hf
  rename_i hc;exact .inl ⟨_,_,ix.of_int,iy.of_int,hc,post m _ H .refl sr .int_⟩
 ·rename_i us k;split at hf<;>try cases hf
  rename_i hc;obtain⟨a,xs,rfl,sa,la⟩:=ix.of_tup;refine .inr (.inl ⟨a,k,xs,rfl,iy.of_int,sa,fun z=>hc.1 ?_,hc.2.1,by rw[la.length];exact hc.2.2,fun q H' s sq=>?_⟩)
  ·subst z;have:=la.length;exact List.length_eq_zero_iff.mp this.symm
  ·exact post m _ H' (.of (cu s)) (sr.same s) (.tup_ sq ((la.rep k.toNat).mono (.of (cu s))))
 ·rename_i l k;split at hf<;>try cases hf
  rename_i us hS;split at hf<;>try cases hf
  rename_i hc;obtain⟨a,ha,rfl⟩:=ix.of_ref;obtain⟨a',ha',xs,hx,la⟩:=sr.get hS;rw[ha]at ha';cases ha';exact .inr (.inr ⟨a,k,xs,rfl,iy.of_int,hx,by omega,by omega,lim (by rw[la.length];exact hc.2.2),fun p hp=>cV sr (la.rep k.toNat) post hp⟩)
end
end OP
namespace OG
open PySem PySem.Spec PyProof.Rows L2
theorem EW{C a:Addr}{m:Str->Option Q2}{h h':Heap}(n:h.Ns C m)(s:Heap.SameBut a h h')(ne:C≠a):h'.Ns C m:=by
 obtain⟨o,es,ep,e,r⟩:=n;exact⟨o,es,ep,(s.2 C ne).trans e,r⟩
theorem nD{X:Cx}{Nc capN tn:List Str}{scope:Zq}{cl:List (Str×Addr)}{n:Nat}{caps:List Nat}{tg iter elt:QC}{pos:Pos}{wi:TI}{g:TG}{te:TE}{tt:TT}{c:QC}
  (hc:X.calm=true) (hi:WI X tg iter wi) (hg:∀s3 H3 fp,WG (cxC X Nc scope cl s3 H3 fp) tg g) (he:∀s3 H3 fp,WE (cxC X Nc scope cl s3 H3 fp) elt te)
  (ht:∀s3 H3 fp,WT (cxC X Nc scope cl s3 H3 fp) c tt)
  (hclos:closureFor scope X.env=pure cl) (hkind:scope.kind=.function) (hnl:∀x∈scope.names,x.2=.local->scope.names.lookup x.1=some .local) (hcell:∀x∈scope.names,x.2≠.cell)
  (hcl:sx X.env cl) (hhas:((relabel scope X.env).names.all fun p=>!(p.2 == .cell||p.2 == .free)||(cl.lookup p.1).isSome)=true)
  (hcap:Paired (Cap X scope cl) caps capN) (hN:Nc=tn++capN) (hn:tn.length=n)
  {i₀:Nat} {x₀:Str} {pos₀ pos':Pos} (hN0:X.N.Nodup) (hi0:X.N[i₀]?=some x₀) (hx0:X.env.scope.names.lookup x₀=some .local)
  (hsw:ZP (.ListComp elt [⟨tg,iter,[c],0⟩] scope pos) (some (.Name x₀ pos')) pos₀.line X.env=pure true)
  (hs:∀x,foldedSetIterable iter X.env x=pure x:=by intro _;rfl) :
  WS X (.Assign [.Name x₀ pos'] (.ListComp elt [⟨tg,iter,[c],0⟩] scope pos) pos₀) (fun D σ H=>mx wi g tt te n caps σ H fun v H'=>D.nx (σ.set i₀ (some v)) H'):=by
 constructor;intro pins s σ H Dn I h;rw[exec_Assign_arm];refine Q5 (wpAny_standAt ?_);have hsw':swapsWithSole [.Name x₀ pos'] (.ListComp elt [⟨tg,iter,[c],0⟩] scope pos) pos₀.line X.env=pure true:=hsw;rw[hsw'];refine Q5 (QL ?_);rw[if_pos rfl,arm_evalThenUse_ListComp];refine Q5 (Q5 (mh (Qf:=fun _ s'=>wpAny (Qj X.prog X.w) X.A (pure ()) (fun _ s'=>wpAny (Qj X.prog X.w) X.A (pure Flow.next) (SP X pins Dn) X.xe s') X.xe s') hc hi hg he ht hclos hkind hnl hcell hcl hhas hcap hN hn I h (fun D C s6 H5 m I7 hm fr nl sz cn pn qn=>?_) hs));show wpAny _ _ (assign (.Name x₀ pos') X.env (.ref D)) _ _ s6;rw[arm_assign_Name];refine Q5 (wpAny_standAt (wpAny_bindName (nL (v:=.ref D) I7 hN0 hi0 (.inl hx0) rfl (fun s7 I7' hsb=>?_) (.inr hx0))));obtain⟨a7,hsb,ha7⟩:=hsb;have cNe:C≠a7:=by
  rcases ha7 with z|z
  ·rw[z];exact nl
  ·exact Ne.symm (cn _ _ z)
 refine⟨m,EW hm hsb cNe,fun h' hs'=>QL (QL ⟨_,H5,?_,qn⟩)⟩;exact I7'.turned (t':=s7.toks) (it:=C) (fun b o hb e=>hs'.extBut b o hb e) fr nl (.inr sz) cn pn
end OG
namespace OP
open PySem PySem.Spec PyProof PyProof.Rows L2 OG
section
variable{X:Cx}{K:Q1}
def l0:U->List U->Sto->Option (U×Sto)
 |.ref l,[.int i],S=>match S[l]? with
  |some (.lst us)=>if 0<=i/\i<us.length/\us.length<=LIM then(us[i.toNat]?).bind fun u=>some (u,S.set l (.lst (us.eraseIdx i.toNat)))else none
  |_=>none
 |_,_,_=>none
theorem BR:MtP K zE l0:=by
 intro m S H x v us vs u S' Q sr ix i hf post;match x,us,hf with
 |.ref l,[.int k],hf=>
  simp only[l0]at hf;split at hf<;>try cases hf
  rename_i ws hS;split at hf<;>try cases hf
  rename_i hk;obtain⟨w,hw,h⟩:=Q0.mp hf;cases h;obtain⟨a,ha,rfl⟩:=ix.of_ref;obtain⟨a',ha',xs,hx,la⟩:=sr.get hS;rw[ha]at ha';cases ha';obtain⟨y,hy,iy⟩:=la.getD hw;obtain⟨z,rfl,iz⟩:=i.one;have eu:Ext K m H m (upd H a (.lst (xs.eraseIdx k.toNat))):=.of (sr.keep ha _);have hL:ws.length<=100000:=hk.2.2;exact⟨a,xs,k,k.toNat,y,rfl,by rw[iz.of_int],hx,by omega,by omega,seqIndex_of hk.1 (by rw[la.length];exact hk.2.1),hy,post m _ _ eu (sr.put ha ⟨_,aA,(la.erase _).mono eu⟩) (iy.mono eu)⟩
variable{e:QC}{es:List QC}{co:CE}{cr:CA}{o:QC}{apos cpos:Pos}
theorem Bu (ho : QE X o co) (ha : QA X (e :: es) cr) (hbase : attributeBase o "pop" X.env (eval o X.env) = eval o X.env := by rfl) (hfew : ((ZQ cpos (QJ (e :: es) X.env)).all (fun x => !x.1) && (backToKw cpos (keywordEach [] X.env)).all (fun x => x.1.isSome)
   && decide ((e::es).length+([]:List Keyword).length+(if ([]:List Keyword).isEmpty then 0 else 1)<30))=true:=by rfl) (hline:(apos.endLine == cpos.line)=true:=by rfl) (hs:QJ (e::es) X.env=(false,eval e X.env)::QJ es X.env:=by rfl) (hplain:(ZQ cpos (QJ es X.env)).any (·.1)=false:=by rfl) :
  QE X (.Call (.Attribute o "pop" apos) (e::es) [] cpos) (cBM l0 co cr):=(zm PySem.F.plainAttrs_list PySem.F.slot_list_pop PySem.F.type_list_pop yn ho ha.h hbase hfew hline hs hplain).imp (Ah BR)
theorem yX(bs:List Bool):(Qz bs.length).any (fun i=>(bs[i]?).getD false)=bs.any id:=by
 rw[Zz,List.any_eq_true,List.any_eq_true];constructor
 ·rintro⟨i,hi,h⟩;have hi':=ZY.mp hi;rw[Q4 hi',Option.getD_some]at h;exact⟨_,List.getElem_mem hi',h⟩
 ·rintro⟨b,hb,h⟩;obtain⟨i,hi,e⟩:=Zh.mp hb;refine⟨i,ZY.mpr hi,?_⟩;rw[Q4 hi,Option.getD_some,e];exact h
theorem se(hc:X.calm=true):fq X (.builtin "any") (fun xs H Q=>∃(p:Addr) (bs:List Bool),xs=[.ref p]/\SqL X.K H p (bs.map V.bl)/\Q (.bl (bs.any id)) H):=by
 intro pins s σ H xs us Q I r h;obtain⟨p,bs,rfl,hq,q⟩:=h;obtain⟨u,rfl,rx⟩:=k7 r;cases rx;obtain⟨its,rv,pl,hz⟩:=I.list hq;have hlen:=rv.length;rw[QV]at hlen;refine call_any_walk (wpAny_pyIter_list pl.isList ?_);have lt:p<s.heap.objs.size:=by obtain⟨o,e,_⟩:=pl.isList;exact QK e
 refine⟨s.heap.objs.size,_,_,_,_,_,fun i=>(bs[i]?).getD false,rfl,Walks.list (show X.A.in1.handled=none from I.ok.hd hc) s.heap.objs.size p (Qy lt) its.toArray,⟨⟨_,Qx _ rfl,rfl,rfl⟩,pl.isList.at fun o e=>Q7 _ e⟩,?_,fun h' tk hk=>?_⟩
 ·intro i v s' Q' E' hP hQ;have hP':its.toArray[i]?=some v:=hP;obtain⟨b,e1,e2⟩:=ui rv (by simpa using hP');subst e2;dsimp only at hQ;rw[e1,Option.getD_some]at hQ;exact wpAny_truthy_bool hQ
 ·have e:(Qz its.toArray.size).any (fun i=>(bs[i]?).getD false)=bs.any id:=by
   rw[QF,<-hlen];exact yX bs
  rw[e];exact⟨.bl (bs.any id),H,I.kept fun b o e=>hk b o (B3 e) (Q7 _ e),rfl,q⟩
def yI:Fn
 |[.ref l],S=>match S[l]? with
  |some (.lst us)=>(C1 us).bind fun bs=>some (.bl (bs.any id),S)
  |_=>none
 |_,_=>none
theorem EO:k6 K (fun xs H Q=>∃(p:Addr) (bs:List Bool),xs=[.ref p]/\SqL K H p (bs.map V.bl)/\Q (.bl (bs.any id)) H) yI:=by
 intro m S H us vs u S' Q sr i hf post;match us,hf with
 |[.ref l],hf=>
  obtain⟨v,rfl,iv⟩:=i.one;obtain⟨a,ha,rfl⟩:=iv.of_ref;simp only[yI]at hf;split at hf<;>try cases hf
  rename_i ws hS;obtain⟨bs,hb,h⟩:=Q0.mp hf;cases h;obtain⟨a',ha',xs,hx,la⟩:=sr.get hS;rw[ha]at ha';cases ha';rw[wM hb]at la;rw[la.bls]at hx;exact⟨a,bs,rfl,SqL.of hx,post m _ H .refl sr .bl_⟩
def gO(cr:CA):CE:=fun ρ S=>(cr ρ S).bind fun p=>match p.1 with
 |[.int j]=>if 0<=j/\j<=1000 then some (.ref p.2.length,p.2++[.lst (fi 0 j.toNat)])else none
 |_=>none
theorem lY:∀(n:Nat) (a:Int) (vs:List Q2),vs.length=n->(∀(j:Nat) (v:Q2),vs[j]?=some v->∃t,v=Value.int (a+(j:Int)) t)->bD ((Qz n).map fun i:Nat=>V.int (a+(i:Nat))) vs
 |0,a,vs,hl,h=>by
  rw[List.length_eq_zero_iff.mp hl];exact .nil
 |n+1,a,[],hl,h=>by simp at hl
 |n+1,a,v::vs,hl,h=>by
  rw[List.range_succ_eq_map,QN,Qo];refine .cons ?_ ?_
  ·obtain⟨t,e⟩:=h 0 v rfl;exact⟨t,by simpa using e⟩
  ·have:=lY n (a+1) vs (by simpa using hl) fun j x hx=>by
    obtain⟨t,e⟩:=h (j+1) x (by simpa using hx);exact⟨t,by rw[e];congr 1;omega⟩
   have e:(Qz n).map (fun i:Nat=>V.int (a+1+(i:Nat)))=(Qz n).map ((fun i:Nat=>V.int (a+(i:Nat))) ∘ Nat.succ):=Ql fun i _=>by
    simp only[Function.comp];congr 1;omega
   rw[<-e];exact this
theorem nG{a:QC}{ta:TA}{p1 p2 pos1 pos2:Pos}(hc:X.calm=true)(hgl:Gl X "list")(hml:X.mg "list"=none)(hg:Gl X "range")(hm:X.mg "range"=none)(ha:WA X [a] ta)(hs:QJ [a] X.env=[(false,eval a X.env)])
  (hs1:QJ [Expr.Call (.Name "range" p2) [a] [] pos2] X.env=[(false,eval (.Call (.Name "range" p2) [a] [] pos2) X.env)]) :
  WE X (.Call (.Name "list" p1) [.Call (.Name "range" p2) [a] [] pos2] [] pos1) (fun σ H Q=>ta σ H fun vs H1=>∃j:Int,vs=[.int j]/\0<=j/\j<=1000/\∀p,H1 p=none->Q (.ref p) (upd H1 p (.lst ((Qz j.toNat).map fun i:Nat=>V.int (0+(i:Nat)))))):=by
 constructor;intro pins s σ H Q I h;refine wpAny_Call_Name_kw (kq I hgl hml OG.i8 ?_ (by decide) (by decide));refine PyProof.Rows.callWith_type1 ?_ hs1 rfl;rw[hs1];show wpAny _ _ (spliced [(false,eval (.Call (.Name "range" p2) [a] [] pos2) X.env)]) _ _ s;refine Calls.spliced_cons ?_;refine Call_ (kq I hg hm boot_range (PyProof.Rows.callWith_type1 (thn (ha.h pos2 pins s σ H _ I h) fun us s1 ⟨vs,H1,I1,r1,q1⟩=>?_) hs rfl));obtain⟨j,e,j0,j1,q⟩:=q1;subst e;cases r1 with
 |cons r rr=>
  cases rr;obtain⟨t,rfl⟩:=r;refine call_range_1 ?_;refine Calls.spliced_nil ?_;have hsz:Builtin.Range.rangeSize 0 j 1=((j.toNat:Nat):Int):=by
   unfold Builtin.Range.rangeSize;simp;omega
  refine call_list_range (n:=j.toNat) (I1.ok.hd hc) (Qx _ rfl) ?_ hsz (by omega) fun h' tk acc c' hk hg' hi=>?_
  ·unfold Builtin.Range.small;rw[hsz];unfold Builtin.Range.rangeFitsLong;simp;omega
  ·have hv:bD ((Qz j.toNat).map fun i:Nat=>V.int (0+(i:Nat))) acc.toList:=lY j.toNat 0 acc.toList (by simpa using hi.1) fun k v hv=>by
    obtain⟨t,e⟩:=hi.2 k v (by simpa using hv);exact⟨t,by rw[e];congr 1;omega⟩
   refine⟨.ref _,_,I1.laid (t':=tk) (o:=.lst ((Qz j.toNat).map fun i:Nat=>V.int (0+(i:Nat)))) (fun b ob q=>hk b ob (Q7 _ q)) (by rw[Zy];omega) ?_,rfl,q _ (I1.hok.fresh (by rw[Zy];omega))⟩;exact⟨by rw[QV,List.length_range];exact Qb (by omega) (show 1000<=QD by decide),_,_,hv,by simpa using hg'⟩
theorem vV{m:List Addr}{H:Hp}(n:Nat):IsL K m H ((Qz n).map fun i:Nat=>V.int (0+(i:Nat))) (fi 0 n):=by
 unfold fi;generalize Qz n=l;induction l with
 |nil=>exact .nil_
 |cons a r ih=>exact .cons_ .int_ ih
theorem pL{a:QC}{cr:CA}{p1 p2 pos1 pos2:Pos}(hc:X.calm=true)(hgl:Gl X "list")(hml:X.mg "list"=none)(hg:Gl X "range")(hm:X.mg "range"=none)(ha:QA X [a] cr)(hs:QJ [a] X.env=[(false,eval a X.env)])
  (hs1:QJ [Expr.Call (.Name "range" p2) [a] [] pos2] X.env=[(false,eval (.Call (.Name "range" p2) [a] [] pos2) X.env)]) :
  QE X (.Call (.Name "list" p1) [.Call (.Name "range" p2) [a] [] pos2] [] pos1) (gO cr):=(nG hc hgl hml hg hm ha.h hs hs1).imp fun σ H Q hz=>jO hz fun m ρ S u S' sr lr hc post=>by
 obtain⟨⟨ws,S1⟩,h1,h2⟩:=Q0.mp hc;simp only at h2;split at h2<;>try cases h2
 rename_i j;split at h2<;>try cases h2
 rename_i hj;refine⟨m,ρ,S,_,S1,sr,lr,h1,fun m1 v1 H1 e1 sr1 i1=>?_⟩;obtain⟨x,rfl,ix⟩:=i1.one;rw[ix.of_int];exact⟨j,rfl,hj.1,hj.2,fun p hp=>cV sr1 (vV _) (post.mono e1) hp⟩
end
section
variable{X:Cx}{K:Q1}
theorem A7{e:QC}{t:TE}(h:WE X e t):WE X e (fun σ H Q=>t σ H fun v H'=>∃a ob kvs,xc X a/\H' a=some (.frz ob (.dK kvs))/\Q v (upd H' a (.dK kvs))):=
 ⟨fun pins s σ H Q I k=>thn (h.h pins s σ H _ I k) fun u s1 ⟨v,H1,I1,r1,a,ob,kvs,nf,e,q⟩=>⟨v,_,iW I1 nf e,r1,q⟩⟩
def oC(ce:CE)(f:(Sto->Prop)->Nat->List U->Rho->Sto->Option Sto)(n:Nat)(caps:List Nat):CE:=fun ρ S=>(ce ρ S).bind fun p=>match p.1 with
 |.ref l=>match p.2[l]? with
  |some (.dic kus)=>uni fun ep=>(f (fun S'=>S'[l]?=some (.fdc ep kus)) p.2.length (kus.map fun q=>kU q.1) (pH n caps ρ) (p.2.set l (.fdc ep kus)++[.lst []])).bind fun S'=>match S'[l]? with
   |some (.fdc _ kus')=>some (.ref p.2.length,S'.set l (.dic kus'))
   |_=>none
  |_=>none
 |_=>none
def gX(ce:CE)(g:CG)(el:CE)(n:Nat)(caps:List Nat):CE:=oC ce (fun ok l=>gu ok g el l) n caps
def i6(ce:CE)(g:CG)(ct:CT)(el:CE)(n:Nat)(caps:List Nat):CE:=oC ce (fun ok l=>bL ok g ct el l) n caps
theorem nH{ce:CE}{f:(Sto->Prop)->Nat->List U->Rho->Sto->Option Sto}{n:Nat}{caps:List Nat}{G:It->Hp->L2.St->VK->Prop}
  (core:∀{J:It} {us:List U} {ok:Sto->Prop} {Q:VK} {m1:List Addr} {H1:Hp} {S1 S':Sto} {ρ:Rho} {σ:L2.St},Sr X.K m1 S1 H1->Lr X.K m1 H1 ρ σ->za X.K J m1 H1 us ok->f ok S1.length us (pH n caps ρ) (S1++[.lst []])=some S'->
   (∀l,H1 l=none->∀m2 H2,Ext X.K (m1++[l]) (upd H1 l (.lst [])) m2 H2->Sr X.K m2 S' H2->Q (.ref l) H2)->G J H1 σ Q) :
  ∀σ H Q,tE X.K (oC ce f n caps) σ H Q->Ck X (tE X.K ce) σ H fun J H1=>G J H1 σ fun v H'=>∃a ob kvs,xc X a/\H' a=some (.frz ob (.dK kvs))/\Q v (upd H' a (.dK kvs)):=by
 rintro σ H Q ⟨m,ρ,S,u,S',sr,lr,hc,post⟩;obtain⟨⟨x,S1⟩,h1,h⟩:=Q0.mp hc;refine⟨m,ρ,S,x,S1,sr,lr,h1,fun m1 v1 H1 e1 sr1 i1=>?_⟩;cases x with
 |ref l=>
  simp only at h;split at h<;>try cases h
  rename_i kus hS;obtain⟨a,ha,rfl⟩:=i1.of_ref;obtain⟨a',ha',kvs,hx,ip⟩:=sr1.get hS;rw[ha]at ha';cases ha';refine⟨a,kvs,rfl,hx,fun ob es ep nf hd=>?_⟩;obtain⟨S2,h2,h3⟩:=Q0.mp (qM h ep);try simp only at h3
  split at h3<;>try cases h3
  rename_i ep' kus' hS2;have kp:wW X.K H1 (upd H1 a (.frz ob (.dK kvs))):=sr1.keep ha _;have ee:Ext X.K m1 H1 m1 (upd H1 a (.frz ob (.dK kvs))):=.of kp;have sr2:Sr X.K m1 (S1.set l (.fdc ep kus)) (upd H1 a (.frz ob (.dK kvs))):=sr1.put ha ⟨ob,es,kvs,aA,hd,ip.mono ee⟩;rw[ip.1];have hln:(S1.set l (.fdc ep kus)).length=S1.length:=by simp
  refine core sr2 (lr.mono (e1.trans ee)) (vU ha) (by rw[hln];exact h2) fun p hp m3 H3 e3 sr3=>?_;have en:Ext X.K m1 (upd H1 a (.frz ob (.dK kvs))) (m1++[p]) (upd (upd H1 a (.frz ob (.dK kvs))) p (.lst [])):=.new (bI hp _);have e03:=en.trans e3;obtain⟨a3,ha3,ob3,es3,kvs3,hx3,hd3,ip3⟩:=sr3.get hS2;rw[e03.get ha]at ha3;cases ha3;have e4:Ext X.K m3 H3 m3 (upd H3 a (.dK kvs3)):=.of (sr3.keep (e03.get ha) _);refine⟨a,ob3,kvs3,nf,hx3,post m3 _ _ (((e1.trans ee).trans e03).trans e4) (sr3.put (e03.get ha) ⟨kvs3,aA,ip3.mono e4⟩) ?_⟩;have lg:(m1++[p])[S1.length]?=some p:=dQ sr1.len;exact .ref_ (e3.get lg)
 |_=>cases h
variable{Nc capN tn:List Str}{scope:Zq}{cl:List (Str×Addr)}{n:Nat}{caps:List Nat}{tg iter elt:QC}{pos:Pos}{ci:CE}{g:CG}{ce:CE}
theorem uS(hc:X.calm=true)(hi:QE X iter ci)(hg:∀s3 H3 fp,WG (cxC X Nc scope cl s3 H3 fp) tg (tG X.K g))(he:∀s3 H3 fp,WE (cxC X Nc scope cl s3 H3 fp) elt (tE X.K ce))
  (hclos:closureFor scope X.env=pure cl) (hkind:scope.kind=.function) (hnl:∀x∈scope.names,x.2=.local->scope.names.lookup x.1=some .local) (hcell:∀x∈scope.names,x.2≠.cell)
  (hcl:sx X.env cl) (hhas:((relabel scope X.env).names.all fun p=>!(p.2 == .cell||p.2 == .free)||(cl.lookup p.1).isSome)=true)
  (hcap:Paired (Cap X scope cl) caps capN) (hN:Nc=tn++capN) (hn:tn.length=n)
  (hs:∀x,foldedSetIterable iter X.env x=pure x:=by intro _;rfl) :
  QE X (.ListComp elt [⟨tg,iter,[],0⟩] scope pos) (gX ci g ce n caps):=
 (A7 (qF hc (pA hi) hg he hclos hkind hnl hcell hcl hhas hcap hN hn hs)).imp (nH (G:=fun J H1 σ Q=>∀l,H1 l=none->∃W:Nat->Nat->L2.St->Hp->Prop,(∃m,W 0 m (OG.stC n caps σ) (upd H1 l (.lst [])))/\
  ∀i m σ' H2,W i m σ' H2->(J.stop i H2/\Q (.ref l) H2)\/(J.go i H2/\∃N:L2.St->Hp->Prop,(∀σ'' H',N σ'' H'->∃m',m'<m/\W (i+1) m' σ'' H')/\
  ∀x H3,J.yld i H2 x H3->tG X.K g x σ' H3 fun σ2 H4=>tE X.K ce σ2 H4 fun v H5=>∃ys,H5 l=some (.lst ys)/\ys.length<QD/\N σ2 (upd H5 l (.lst (ys++[v]))))) fun sr lr ito h2 post l hl=>ox sr lr ito hl h2 (post l hl))
end
end OP
namespace OP
open PySem PySem.Spec PyProof PyProof.Rows L2 OG PySem.W
section
variable{cmp:Nat->Nat->(Bool->Q3->Prop)->Q3->Prop}{s:Q3}{n:Nat}{lt:Nat->Nat->Bool}
structure Jw(n:Nat)(lt:Nat->Nat->Bool):Prop where
 tr:∀{i j k},i<n->j<n->k<n->lt i j=true->lt j k=true->lt i k=true
 tot:∀{i j},i<n->j<n->i≠j->lt i j=false->lt j i=true
 asym:∀{i j},i<n->j<n->lt i j=true->lt j i=false
def zc(cmp:Nat->Nat->(Bool->Q3->Prop)->Q3->Prop)(n:Nat)(lt:Nat->Nat->Bool)(s:Q3):Prop:=∀i j C,i<n->j<n->C (lt i j) s->cmp i j C s
structure Pm(n:Nat)(p:Array Nat):Prop where
 sz:p.size=n
 bd:∀i,i<n->p.getD i 0<n
 ne:∀i j,i<j->j<n->p.getD i 0≠p.getD j 0
def Asc(lt:Nat->Nat->Bool)(p:Array Nat)(k:Nat):Prop:=∀i j,i<j->j<k->lt (p.getD i 0) (p.getD j 0)=true
def Dsc(lt:Nat->Nat->Bool)(p:Array Nat)(k:Nat):Prop:=∀i j,i<j->j<k->lt (p.getD j 0) (p.getD i 0)=true
variable{p:Array Nat}
theorem Pm.ne'(P:Pm n p){i j:Nat}(hi:i<n)(hj:j<n)(h:i≠j):p.getD i 0≠p.getD j 0:=by
 rcases Nat.lt_or_gt_of_ne h with z|z
 ·exact P.ne i j z hj
 ·exact Ne.symm (P.ne j i z hi)
theorem Asc.snoc(O:Jw n lt)(P:Pm n p){m:Nat}(h1:1<=m)(hm:m<n)(h:Asc lt p m)(h2:lt (p.getD (m-1) 0) (p.getD m 0)=true):Asc lt p (m+1):=fun i j hij hj=>by
 by_cases e:j=m
 ·subst e;by_cases e2:i=j-1
  ·subst e2;exact h2
  ·exact O.tr (P.bd _ (by omega)) (P.bd _ (by omega)) (P.bd _ (by omega)) (h i (j-1) (by omega) (by omega)) h2
 ·exact h i j hij (by omega)
theorem ig{p q:Array Nat}{i j:Nat}(h:p[i]?=q[j]?):p.getD i 0=q.getD j 0:=by
 rw[Zb,Zb,h]
theorem uH{m k:Nat}(hm:m<=p.size):(kas_rev p 0 m).getD k 0=if k<m then p.getD (m-1-k) 0 else p.getD k 0:=by
 unfold kas_rev;have h:=getElem?_mirror_all (i:=0) hm k;split
 ·rename_i c;rw[if_pos ⟨Z6 _,c⟩]at h;exact ig (by rw[h];congr 1;omega)
 ·rename_i c;rw[if_neg (by omega)]at h;exact ig h
theorem Dsc.rev{m:Nat}(P:Pm n p)(hm:m<=n)(h:Dsc lt p m):Asc lt (kas_rev p 0 m) m:=fun i j hij hj=>by
 rw[uH (by rw[P.sz];exact hm),uH (by rw[P.sz];exact hm),if_pos (by omega),if_pos hj];exact h _ _ (by omega) (by omega)
theorem js{k l i:Nat}(hk:k<p.size)(hl:l<=k):(bubble p k (k-l)).getD i 0=if i=l then p.getD k 0 else if l<i/\i<=k then p.getD (i-1) 0 else p.getD i 0:=by
 have h:=getElem?_bubble hk (k-l) (by omega) i;rw[show k-(k-l)=l by omega]at h;by_cases c:i=l
 ·rw[if_pos c]at h ⊢;exact ig h
 ·rw[if_neg c]at h ⊢;by_cases d:l<i/\i<=k
  ·rw[if_pos d]at h ⊢;exact ig h
  ·rw[if_neg d]at h ⊢;exact ig h
theorem Pm.bub(P:Pm n p){k l:Nat}(hk:k<n)(hl:l<=k):Pm n (bubble p k (k-l)) where
 sz:=by rw[bubble_size];exact P.sz
 bd:=fun i hi=>by
  rw[js (by rw[P.sz];exact hk) hl];repeat' split
  all_goals exact P.bd _ (by omega)
 ne:=fun i j hij hj=>by
  rw[js (by rw[P.sz];exact hk) hl,js (by rw[P.sz];exact hk) hl];repeat' split
  all_goals first|(exfalso;omega)|exact P.ne' (by omega) (by omega) (by omega)
theorem Asc.bub(P:Pm n p){k l:Nat}(hk:k<n)(hl:l<=k)(h:Asc lt p k)(h1:∀i,i<l->lt (p.getD i 0) (p.getD k 0)=true)(h2:∀i,l<=i->i<k->lt (p.getD k 0) (p.getD i 0)=true):Asc lt (bubble p k (k-l)) (k+1):=fun i j hij hj=>by
 rw[js (by rw[P.sz];exact hk) hl,js (by rw[P.sz];exact hk) hl];repeat' split
 all_goals first|(exfalso;omega)|exact h1 _ (by omega)|exact h2 _ (by omega) (by omega)|exact h _ _ (by omega) (by omega)
theorem qZ:Pm n (ZJ (Qz n)):=by
 have g:∀i,i<n->(ZJ (Qz n)).getD i 0=i:=fun i hi=>by simp[Array.getD,hi]
 exact⟨by simp,fun i hi=>by rw[g i hi];exact hi,fun i j hij hj=>by rw[g i (by omega),g j hj];omega⟩
end
def oN(h:Heap)(v:Q2)(p:Int×Int):Prop:=∃b o t1 t2 e,v=Value.ref b/\h.get? b=some o/\o.cls=Value.type "tuple"/\o.data=Data.seq #[Value.int p.1 t1,Value.int p.2 t2] e
def ltP(p q:Int×Int):Bool:=decide (p.1<q.1\/p.1=q.1/\p.2<q.2)
section
variable{prog:Qv}{w:Qe}{A:Qa}{E:Q2->Q3->Prop}{s:Q3}
theorem lV{b:Bool}{x y:Int}{t u:Tok}{Q:Bool->Q3->Prop}(h:Q (decide (x<y)) s):wpAny (Qj prog w) A (oneLt' b (Value.int x t) (Value.int y u)) Q E s:=by
 cases b with
 |true=>exact oneLt_int h
 |false=>
  rw[oneLt'_eq];dsimp only;rw[if_neg Q9];exact Q5 (wpAny_lt_int (wpAny_truthy_bool h))
theorem u9{v v':Q2}{p p':Int×Int}{C:Bool->Q3->Prop}(h:oN s.heap v p)(h':oN s.heap v' p')(c:C (ltP p p') s):wpAny (Qj prog w) A (keyLt' (tuples' true) v v') C E s:=by
 obtain⟨b,o,t1,t2,e,rfl,g,_,d⟩:=h;obtain⟨b',o',t1',t2',e',rfl,g',_,d'⟩:=h';refine kat_lt g d g' d' (kat_cons (wpAny_eqBool_int ?_));by_cases e1:p.1=p'.1
 ·rw[e1,beq_self_eq_true];refine kat_yes (kat_cons (wpAny_eqBool_int ?_));by_cases e2:p.2=p'.2
  ·rw[e2,beq_self_eq_true];refine kat_yes (kat_nil ?_);have:ltP p p'=false:=by simp[ltP,e1,e2]
   rw[this]at c;exact c
  ·rw[beq_eq_false_iff_ne.mpr e2];refine kat_no (lV ?_);have:ltP p p'=decide (p.2<p'.2):=by simp[ltP,e1]
   rw[this]at c;exact c
 ·rw[beq_eq_false_iff_ne.mpr e1];refine kat_no (lV ?_);have:ltP p p'=decide (p.1<p'.1):=by simp[ltP,e1]
  rw[this]at c;exact c
def fL(h:Heap):List Q2->List (Int×Int)->Prop
 |[],[]=>True
 |v::vs,p::ps=>oN h v p/\fL h vs ps
 |_,_=>False
theorem j7{h:Heap}:∀{vs:List Q2} {ps:List (Int×Int)},fL h vs ps->vs.length=ps.length
 |[],[],_=>rfl
 |_::_,_::_,k=>by rw[QY,QY,j7 k.2]
 |[],_::_,k=>k.elim
 |_::_,[],k=>k.elim
theorem gn{h:Heap}:∀{vs:List Q2} {ps:List (Int×Int)} {i:Nat},fL h vs ps->i<ps.length->oN h (vs.getD i Value.none) (ps.getD i (0,0))
 |[],[],_,_,k=>absurd k (Nat.not_lt_zero _)
 |_::_,_::_,0,k,_=>k.1
 |_::vs,_::ps,i+1,k,l=>by
  show oN h (vs.getD i Value.none) (ps.getD i (0,0));exact gn k.2 (by rw[QY]at l;omega)
 |[],_::_,_,k,_=>k.elim
 |_::_,[],_,k,_=>k.elim
theorem lT{h:Heap}:∀{vs:List Q2} {ps:List (Int×Int)},fL h vs ps->∃fs,KatTups h vs fs/\fs.length=vs.length/\∀f∈fs,∃i t,f=Value.int i t
 |[],[],_=>⟨[],trivial,rfl,fun f hf=>by cases hf⟩
 |v::vs,p::ps,k=>by
  obtain⟨fs,h1,h2,h3⟩:=lT k.2;obtain⟨b,o,t1,t2,e,hv,g,c,d⟩:=k.1;refine⟨Value.int p.1 t1::fs,⟨⟨b,o,_,e,hv,g,c,d,rfl⟩,h1⟩,by rw[QY,QY,h2],fun f hf=>?_⟩;rcases QM.mp hf with z|z
  ·exact⟨_,_,z⟩
  ·exact h3 f z
 |[],_::_,k=>k.elim
 |_::_,[],k=>k.elim
theorem lU{vs:List Q2}{ps:List (Int×Int)}{Q:SortKind->Q3->Prop}(h:fL s.heap vs ps)(hn:0<vs.length)(q:Q (tuples' true) s):wpAny (Qj prog w) A (keyKind' vs.toArray) Q E s:=by
 obtain⟨fs,h1,h2,h3⟩:=lT h;refine kat_kind (T:=Value.type "int") h1 (by omega) (fun v hv A Q E s' _ q=>?_) (by decide +kernel) (by exact q);obtain⟨i,t,rfl⟩:=h3 v hv;exact wpAny_typeOf (typeIs_int s' i t) q
end
theorem nU{n:Nat}{q:Array Nat}(P:Pm n q):∀i∈q.toList,i<n:=fun i hi=>by
 obtain⟨j,hj,e⟩:=Zh.mp hi;have hj':j<q.size:=by simpa using hj
 have:=P.bd j (by rw[<-P.sz];exact hj');rw[Zb,Array.getElem?_eq_getElem hj']at this;rw[Array.getElem_toList]at e;rw[<-e];exact this
def GS{ns:List Int}{i:Int}{S:Sto}:fIx (.kl ns) (.int i) S=(atI (ns.map U.int) i).bind fun u=>some (u,S):=rfl
def zg{ns:List Int}{S:Sto}:kG [.kl ns] S=some (.int ns.length,S):=rfl
section
variable{X:Cx}{K:Q1}
def gR{κ α:Type}[DecidableEq κ](kus:List (κ×α))(k:κ):List (κ×α):=kus.filter fun p=>decide (p.1≠k)
theorem IsP.dropP{m:List Addr}{H:Hp}{kvs:List (Key×V)}{kus:List (Key×U)}{k:Key}(h:IsP K m H kvs kus):IsP K m H (m7 kvs k) (gR kus k):=by
 refine IsP.ind (P:=fun kvs kus=>IsP K m H (m7 kvs k) (gR kus k)) .nil_ (fun k' v u kvs kus i _ ih=>?_) h;unfold m7 gR at ih ⊢;by_cases e:k'=k
 ·rw[List.filter_cons_of_neg (by simp[e]),List.filter_cons_of_neg (by simp[e])];exact ih
 ·rw[List.filter_cons_of_pos (by simp[e]),List.filter_cons_of_pos (by simp[e])];exact .cons_ i ih
def Cq:U->U->Sto->Option (U×Sto):=fun x y S=>match x with
 |.ref l=>match S[l]? with
  |some (.dic kus)=>(jJ y).bind fun k=>(aJ kus k).bind fun u=>some (u,S.set l (.dic (gR kus k)))
  |_=>none
 |_=>none
def wK(co ck:CE):CE:=fun ρ S=>(co ρ S).bind fun p=>match p.1 with
 |.ref l=>match p.2[l]? with
  |some (.dic _)=>(ck ρ p.2).bind fun q=>Cq p.1 q.1 q.2
  |_=>none
 |_=>none
theorem Ei{o e:QC}{co ck:CE}{apos cpos:Pos}(ho:QE X o co)(he:QE X e ck)(m1:M1 X o "pop" apos e cpos):QE X (.Call (.Attribute o "pop" apos) [e] [] cpos) (wK co ck):=
 (uc ho he m1).imp fun σ H Q hz=>jO hz fun m ρ S u S' sr lr hc post=>by
 obtain⟨⟨x,S1⟩,h1,h⟩:=Q0.mp hc;refine⟨m,ρ,S,_,S1,sr,lr,h1,fun m1 v1 H1 e1 sr1 i1=>?_⟩;cases x with
 |ref l=>
  simp only at h;split at h<;>try cases h
  rename_i kus0 hS0;obtain⟨⟨y,S2⟩,h3,h4⟩:=Q0.mp h;obtain⟨a,ha,rfl⟩:=i1.of_ref;obtain⟨a0,ha0,kvs0,hx0,ip0⟩:=sr1.get hS0;rw[ha]at ha0;cases ha0;refine⟨a,rfl,.inl ⟨kvs0,.inl hx0⟩,m1,ρ,S1,_,S2,sr1,lr.mono e1,h3,fun m2 v2 H2 e2 sr2 i2=>?_⟩;simp only[Cq]at h4;split at h4<;>try cases h4
  rename_i kus hS;obtain⟨k,hk,h5⟩:=Q0.mp h4;obtain⟨w,hw,h6⟩:=Q0.mp h5;cases h6;obtain⟨a',ha',kvs,hx,ip⟩:=sr2.get hS;rw[e2.get ha]at ha';cases ha';have ek:=ic i2 hk;have rf:=IsP.val (k:=k) ip;rw[hw]at rf;cases hv:gP kvs k with
  |none=>rw[hv]at rf;exact rf.elim
  |some z=>
   rw[hv]at rf;have ee:Ext X.K m2 H2 m2 (upd H2 a (.dK (m7 kvs k))):=.of (sr2.keep (e2.get ha) _);exact⟨kvs,k,z,hx,ek,hv,post m2 _ _ ((e1.trans e2).trans ee) (sr2.put (e2.get ha) ⟨_,aA,ip.dropP.mono ee⟩) (Is.mono ee rf)⟩
 |_=>cases h
def nh(c1 c2:CE):CE:=fun ρ S=>match c1 ρ S with
 |some r=>some r
 |none=>c2 ρ S
theorem xR{e:QC}{c1 c2:CE}(h1:QE X e c1)(h2:QE X e c2):QE X e (nh c1 c2):=
 (h1.or h2).imp fun σ H Q hz=>jO hz fun m ρ S u S' sr lr hc post=>by
 unfold nh at hc;split at hc
 ·rename_i r hr;cases hc;exact .inl ⟨m,ρ,S,u,S',sr,lr,hr,post⟩
 ·exact .inr ⟨m,ρ,S,u,S',sr,lr,hc,post⟩
end
end OP
namespace OP
open PySem PySem.Spec PyProof PyProof.Rows L2 OG PySem.W HT
section
variable{prog:Qv}{w:Qe}{A:Qa}{E:Q2->Q3->Prop}{s:Q3}
theorem mW{t sl:Addr}{items:Array Q2}{vl vu:Q2}{lo hi:Option Int}{Q:Q2->Q3->Prop}(ht:IsTup s.heap t items)(hs:s.heap.IsSliceOf sl vl vu .none)(pl:IsPart vl lo)(pu:IsPart vu hi)
  (hw:sIx items.size 0 lo=0/\sIx items.size items.size hi=items.size) (h:Q (.ref t) s):wpAny (Qj prog w) A (getItem (.ref t) (.ref sl)) Q E s:=by
 obtain⟨os,hos,hcs,hds⟩:=id hs;have hT:s.TypeIs (.ref sl) "slice":=⟨os,hos,hcs⟩;unfold getItem;try with_reducible refine wpAny_holding ?_
 first|refine Q5 (QL ?_)|skip
 refine Q5 (wpAny_sequenceKey ht.typeIs (by decide) ?_);refine Q5 (wpAny_callSpecial?_slot (name:=Str.ofString "__getitem__") ht.typeIs PyProof.Rows.slot_tuple_getitem (wpAny_call_entry PyProof.Rows.slot_tuple_getitem ht.typeIs entry_tuple_getitem ?_ (args_tuple_getitem _ _)));show wpAny _ _ (Builtin.Tuple.tupleItemsOf (.ref t) >>= _) _ _ s;refine Q5 (tupleItemsOf_ ht (Q5 (wpAny_typeOf hT ?_)));rw[if_pos (by decide)];refine Q5 (fO hs pl pu ?_);rw[hw.1,hw.2,Nat.sub_zero];dsimp only;rw[if_pos (by simp)];unfold Builtin.Tuple.tupleIsExact;refine Q5 (Q5 (wpAny_typeOf ht.typeIs (QL ?_)));rw[if_pos (by decide)];exact Q5 (wpAny_rule (QL ⟨_,rfl,QL h⟩))
end
section
variable{X:Cx}
def JN(K:Q1):V->Option Int->Option Int->Hp->VK->Prop:=fun x lo hi H Q=>∃a xs,x=.ref a/\SqT K H a xs/\(sIx xs.length 0 lo=0/\sIx xs.length xs.length hi=xs.length)/\Q (.ref a) H
theorem Bj:SlR X (JN X.K):=by
 intro pins s σ H x v vl vu lo hi sl Q I rx hs pl pu h;obtain⟨a,xs,rfl,hx,hw,q⟩:=h;cases rx;obtain⟨its,r,ht,hz⟩:=I.tuple hx;have hlen:its.toArray.size=xs.length:=by rw[QF];exact r.length.symm
 exact⟨"tuple",_,PyProof.Rows.slot_tuple_getitem.lookup,ht.typeIs,mW ht hs pl pu (by rw[hlen];exact hw) ⟨.ref a,H,I,rfl,q⟩⟩
def Gf(x:U)(lo hi:Option Int)(S:Sto):Option (U×Sto):=match x with
 |.tup us=>some (.tup (oY us lo hi),S)
 |.ref l=>match S[l]? with
  |some (.lst us)=>some (.ref S.length,S++[.lst (oY us lo hi)])
  |_=>none
 |_=>none
def Ag(ca:CE)(cl ch:Option CE):CE:=fun ρ S=>(ca ρ S).bind fun p=>(qq cl ρ p.2).bind fun q=>(qq ch ρ q.2).bind fun r=>Gf p.1 q.1 r.1 r.2
theorem Ee{e:QC}{lo hi:Option QC}{ca:CE}{cl ch:Option CE}{pos p2:Pos}(ha:QE X e ca)(hl:QO X lo cl)(hh:QO X hi ch):QE X (.Subscript e (.Slice lo hi none p2) pos) (Ag ca cl ch):=(nE (uB.or (zA.or Bj)) ha hl hh).imp fun σ H Q hz=>jO hz fun m ρ S u S' sr lr hc post=>by
 obtain⟨⟨x,S1⟩,h1,ha⟩:=Q0.mp hc;obtain⟨⟨l,S2⟩,h2,hb⟩:=Q0.mp ha;obtain⟨⟨k,S3⟩,h3,h⟩:=Q0.mp hb;clear ha hb hc;refine⟨m,ρ,S,x,S1,sr,lr,h1,fun m1 v1 H1 e1 sr1 i1=>⟨m1,ρ,S1,l,S2,sr1,lr.mono e1,h2,fun m2 H2 e2 sr2=>⟨m2,ρ,S2,k,S3,sr2,lr.mono (e1.trans e2),h3,fun m3 H3 e3 sr3=>?_⟩⟩⟩;have i3:=i1.mono (e2.trans e3);have e03:=(e1.trans e2).trans e3;cases x with
 |tup us=>
  simp only[Gf]at h;cases h;obtain⟨a,xs,rfl,sa,la⟩:=i3.of_tup;by_cases hw:sIx us.length 0 l=0/\sIx us.length us.length k=us.length
  ·have e:oY us l k=us:=by
    unfold oY;rw[hw.1,hw.2,List.drop_zero,Nat.sub_zero,List.take_length]
   rw[e]at post;exact .inr (.inr ⟨a,xs,rfl,sa,by rw[la.length];exact hw,post m3 _ H3 e03 sr3 (.tup_ sa la)⟩)
  ·exact .inr (.inl ⟨a,xs,rfl,sa,by rw[la.length];exact hw,fun p hp=>jW sr3 (rX la) (post.mono e03) hp⟩)
 |ref r=>
  simp only[Gf]at h;split at h<;>try cases h
  rename_i us hS;obtain⟨a,ha,rfl⟩:=i3.of_ref;obtain⟨a',ha',xs,hx,la⟩:=sr3.get hS;rw[ha]at ha';cases ha';exact .inl ⟨a,xs,rfl,SqL.of hx,fun p hp=>cV sr3 (rX la) (post.mono e03) hp⟩
 |_=>simp[Gf]at h
end
end OP
namespace OP
open PySem PySem.Spec PyProof.Rows L2 OG
section
variable{P:Qv}{w:Qe}{K:Q1}{h base:Heap}{mg:Str->Option Q2}{x q:Str}{st:Z0}{f C:Addr}{oc:Q2}{od an:Option Addr}{osl:Array (Option Q2)}{kV doc pm cdv ct:Q2}{ps N:List Str}{k:Nat}{c:CS}{cl:Cl}
def Jx(K:Q1)(x q:Str)(st:Z0)(f:Addr):Prop:=∃fd,Fun K x q st f fd
abbrev fAt(x q:Str)(st:Z0)(oc:Q2)(od an:Option Addr)(osl:Array (Option Q2))(kV doc pm cdv ct:Q2):Obj:=⟨oc,od,.func (PySem.W.fnOf x q (iA st) (cI st) (aq st) .none kV doc pm an cdv ct),osl⟩
def FW(K:Q1)(x:Str)(st:Z0):Prop:=∃f,PySem.W.nsIn K mainGlobals x=some (some (.ref f))/\Jx K x x st f
theorem JX(a:PySem.W.nsIn K mainGlobals x=some (some (.ref f)))(l:K.lookup f=some (fAt x x st oc od an osl kV doc pm cdv ct))(c:PySem.W.codeIn K cdv x=true)(k:PySem.W.keepIn K (.ref f)=true):FW K x st:=⟨f,a,_,zU l c k⟩
def FV(K:Q1):List (Str×Z0)->Prop
 |[]=>True
 |(x,st)::r=>FW K x st/\FV K r
def FQ(K:Q1)(C:Addr)(x q:Str)(st:Z0):Prop:=∃f,PySem.W.findIn K (.ref C) x=some (some (.ref f))/\PySem.W.isFn K (.ref f)=true/\Jx K x q st f
theorem Jd(a:PySem.W.findIn K (.ref C) x=some (some (.ref f)))(i:PySem.W.isFn K (.ref f)=true)(l:K.lookup f=some (fAt x q st oc od an osl kV doc pm cdv ct))(c:PySem.W.codeIn K cdv q=true)(k:PySem.W.keepIn K (.ref f)=true):FQ K C x q st:=⟨f,a,i,_,zU l c k⟩
def FP(K:Q1)(C:Addr):List (Str×Str×Z0)->Prop
 |[]=>True
 |(x,q,st)::r=>FQ K C x q st/\FP K C r
def FO(K:Q1)(C:Addr):List Str->Prop
 |[]=>True
 |x::r=>PySem.W.findIn K (.ref C) x=some none/\FO K C r
def Gn(K:Q1):List Str->Prop
 |[]=>True
 |x::r=>PySem.W.nsIn K mainGlobals x=some none/\Gn K r
structure C3(K:Q1)(x:Str)(C:Addr)(ns:List Str)(ms:List (Str×Str×Z0)):Prop where
 a:PySem.W.nsIn K mainGlobals x=some (some (.ref C))
 pg:PySem.W.plainGet K C Str.empty=true
 hd:PySem.W.hasDictIn K C=true
 po:PySem.W.plainOver K C=true
 sa:PySem.W.findIn K (.ref C) "__setattr__"=some (some (.builtin "object.__setattr__"))
 mc:PySem.W.makesIn K C=true
 kc:PySem.W.keepIn K (.ref C)=true
 nf:FO K C ns
 ms:FP K C ms
theorem FO.nas:∀{ns:List Str},FO K C ns->∀f∈ns,PySem.W.findIn K (.ref C) f=some none
 |[],_,f,h=>by cases h
 |x::r,h,f,hf=>by
  rcases QM.mp hf with rfl|z
  ·exact h.1
  ·exact FO.nas h.2 f z
theorem C3.tc{ns:List Str}{ms:List (Str×Str×Z0)}(h:C3 K x C ns ms):TC K (⟨C,ns⟩:Cl) ns:=⟨⟨h.pg,h.hd,h.po,h.sa⟩,rfl,fun f hf=>h.nf.nas f hf⟩
abbrev Bd(x q:Str)(st:Z0)(ps:List Str):Prop:=∀us:List Q2,us.length=ps.length->∀(kV doc pm:Q2) (an:Option Addr) (cdv ct:Q2),bindArgs (PySem.W.fnOf x q (iA st) (cI st) (aq st) .none kV doc pm an cdv ct) ⟨us,[]⟩=pure (ps.zip us)
theorem FW.df(d:FW K x st)(X:K.In h)(G:h.Ns mainGlobals mg)(b:Bd x x st ps:=by first|exact C0 fun _ _ _ _ _ _=>rfl|(repeat (first|exact C0 fun _ _ _ _ _ _=>rfl|refine IH fun _=>?_))):Def K mg x st ps:=by
 obtain⟨f,a,fd,F⟩:=d;exact⟨f,fd,F,F.binds fun kV doc pm an cdv ct us hl=>b us hl kV doc pm an cdv ct,PySem.W.mg_of X G a⟩
def MtD(K:Q1)(C:Addr)(x q:Str)(st:Z0)(ps:List Str):Prop:=∃fa fd,Fun K x q st fa fd/\fN K fd ps []/\CM K C x fa
theorem FQ.mt(d:FQ K C x q st)(b:Bd x q st ps:=by first|exact C0 fun _ _ _ _ _ _=>rfl|(repeat (first|exact C0 fun _ _ _ _ _ _=>rfl|refine IH fun _=>?_))):MtD K C x q st ps:=by
 obtain⟨f,a,i,fd,F⟩:=d;exact⟨f,fd,F,F.binds fun kV doc pm an cdv ct us hl=>b us hl kV doc pm an cdv ct,a,i,F.kp⟩
theorem MtD.pure(d:MtD K cl.C x q st ps)(S:aM N ps (aq st))
  (hb:∀(f:Addr) (cdv:Q2) (A:Qa) (outer:List Env) (s:Q3) (H:Hp) (E:XK),dG k (A.deeper (envOfC q (aq st) s.heap.objs.size f cdv))->WSs (oX CX0 P w K mg base N q (aq st) f cdv A outer s H E).nox (cI st) (tS K c)) :
  c6 P w K mg base cl x (k+1) ps (fnU N.length ps.length c):=by
 obtain⟨fa,fd,F,b,m⟩:=d;exact⟨fa,fd,m,F.pure S (hb fa),b⟩
def MkD(K:Q1)(mg:Str->Option Q2)(C:Addr)(x q:Str)(st:Z0)(ps:List Str):Prop:=∃fa fd,Fun K "__init__" q st fa fd/\fN K fd ps []/\Mk K C fa/\mg x=some (.ref C)
theorem C3.mkd{ns:List Str}{ms:List (Str×Str×Z0)}(h0:C3 K x C ns ms)(d:FQ K C "__init__" q st)(X:K.In h)(G:h.Ns mainGlobals mg)(b:Bd "__init__" q st ps:=by first|exact C0 fun _ _ _ _ _ _=>rfl|(repeat (first|exact C0 fun _ _ _ _ _ _=>rfl|refine IH fun _=>?_))):MkD K mg C x q st ps:=by
 obtain⟨f,a,i,fd,F⟩:=d;exact⟨f,fd,F,F.binds fun kV doc pm an cdv ct us hl=>b us hl kV doc pm an cdv ct,⟨h0.mc,a,i,h0.kc⟩,PySem.W.mg_of X G h0.a⟩
theorem MkD.pure{NS:List Str}(d:MkD K mg cl.C x q st ps)(T:TC K cl NS)(S:aM N ps (aq st))
  (hb:∀(f:Addr) (cdv:Q2) (A:Qa) (outer:List Env) (s:Q3) (H:Hp) (E:XK),dG k (A.deeper (envOfC q (aq st) s.heap.objs.size f cdv))->WSs (oX CX0 P w K mg base N q (aq st) f cdv A outer s H E).nox (cI st) (tS K c))
  (nd:NS.Nodup:=by decide +kernel) (few:NS.length<1000:=by decide):CMk P w K mg base cl x (k+1) ps (fnU N.length ps.length c):=by
 obtain⟨fa,fd,F,b,m,g⟩:=d;exact⟨⟨fa,fd,m,F.pure S (hb fa),b,g⟩,by rw[T.ns];exact nd,by rw[T.ns];exact few⟩
def Jv:List Str:=["len","isinstance","int","bool","str","tuple","list","range","min","sum","all","zip","sorted","dict","enumerate","any","max","set"]
theorem Gn.blt(z:Gn K Jv)(X:K.In h)(G:h.Ns mainGlobals mg):Blt mg:=by
 obtain⟨a,b,c,d,e,f,g,i,j,k,l,m,n,o,p,q,r,s,-⟩:=z;constructor<;>(refine PySem.W.mg_none_of X G ?_;assumption)
end
end OP
namespace OG
open PySem PySem.Spec PyProof.Rows L2
def FE(qual:Str)(scope:Zq)(L f:Addr)(cd:Q2)(cl:List (Str×Addr)):Env:=newEnv scope L mainGlobals cl (qual++".<locals>.") (some f) cd none builtinsNs
def cxL(P:Qv)(w:Qe)(K:Q1)(mg:Str->Option Q2)(base:Heap)(N:List Str)(qual:Str)(scope:Zq)(f:Addr)(cd:Q2)(cl:List (Str×Addr))(A:Qa)(outer:List Env)(s:Q3)(H:Hp):Cx where
 prog:=P
 w:=w
 K:=K
 mg:=mg
 base:=base
 A:=A.deeper (FE qual scope s.heap.objs.size f cd cl)
 N:=N
 s₀:=s
 H₀:=H
 env:=FE qual scope s.heap.objs.size f cd cl
 outer:=outer
 stack:=FE qual scope s.heap.objs.size f cd cl::outer
 ex:=[]
 calm:=true
 fn:=fun _=>false
 pn:=[]
 xe:=fun _ _=>False
structure Gp(scope:Zq)(cl:List (Str×Addr))(h:Heap)(H:Hp)(x:Str)(v:V):Prop where
 ex:scope.names.lookup x=some .free/\∃c u,cl.lookup x=some c/\h.IsCell c (some u)/\bR v u
section
variable{P:Qv}{w:Qe}{K:Q1}{mg:Str->Option Q2}{base:Heap}{p:Str}{capN:List Str}{qual name:Str}{scope:Zq}{f:Addr}{cl:List (Str×Addr)}{A:Qa}{outer:List Env}{s:Q3}{H:Hp}{v:V}{vc:List V}{u cd:Q2}
theorem Ci{h1:Heap}{t':Nat}(e0:qC P w K mg base A outer s H)(hd:A.handled=none)(hkind:scope.kind=.function)(hp:scope.names.lookup p=some .local)(r:bR v u)
  (hinj:∀x y c,cl.lookup x=some c->cl.lookup y=some c->x=y) (hhas:∀x,(scope.names.lookup x=some .cell\/scope.names.lookup x=some .free)->∃c,cl.lookup x=some c)
  (hcl:∀x c,cl.lookup x=some c->(∃u,s.heap.IsCell c u)/\H c=none)
  (hcap:Paired (fun x v=>Gp scope cl s.heap H x v) capN vc)
  (hns:h1.Ns s.heap.objs.size (fun x=>([(p,u)]:List (Str×Q2)).reverse.lookup x)) (hk:∀b o,s.heap.get? b=some o->h1.get? b=some o) :
  Inv (cxL P w K mg base (p::capN) qual scope f cd cl A outer s H) [] (some v::vc.map some) H { s with heap:=h1,toks:=t' }:=by
 have noA:∀b:Addr,b∉(cxL P w K mg base (p::capN) qual scope f cd cl A outer s H).ex:=fun b z=>absurd (show b∈([]:List Addr)from z) (by simp);have cellK:∀c v,s.heap.IsCell c v->h1.IsCell c v:=fun c v ⟨o,ho,hd⟩=>⟨o,hk _ _ ho,hd⟩;refine⟨⟨e0.mod,hkind,rfl,rfl,Q8 _,hinj,hhas,fun y c z=>(nomatch z),fun _=>hd,Around.frames_deeper e0.frames,.inr ⟨rfl,rfl⟩,fun b z=>absurd z (noA b),e0.bs,e0.bsz,fun b _ _=>noA b,fun b z=>absurd z (noA b),e0.funs,e0.frf⟩,
  rfl,e0.bare,Un.kept hk,⟨_,hns,fun i y v' h1' h2 h3=>?_⟩,fun y c h=>?_,e0.hok.fresh (Q8 _),fun y c h=>(hcl y c h).2,fun p hp=>absurd (show p∈([]:List (Addr×Obj))from hp) (by simp),e0.hok.kept hk,?_⟩
 ·cases i with
  |zero=>
   have e1:p=y:=by simpa [cxL] using h1'
   have e2:v=v':=by simpa using h2
   subst e1;subst e2;exact⟨u,r,.inl ⟨hp,by simp⟩⟩
  |succ i=>
   have e1:capN[i]?=some y:=by simpa [cxL] using h1'
   have e2:vc[i]?=some v':=by
    simp only[Zk,Qu]at h2;cases q:vc[i]? with
    |none=>rw[q]at h2;cases h2
    |some z=>rw[q]at h2;cases h2;rfl
   have get:∀{l1:List Str} {l2:List V} {i:Nat},Paired (fun x v=>Gp scope cl s.heap H x v) l1 l2->l1[i]?=some y->l2[i]?=some v'->Gp scope cl s.heap H y v':=by
    intro l1 l2 i hq;induction hq generalizing i with
    |nil=>intro z;simp at z
    |cons a b ih=>cases i with
     |zero=>intro z1 z2;simp at z1 z2;subst z1;subst z2;exact a
     |succ i=>intro z1 z2;exact ih (by simpa using z1) (by simpa using z2)
   obtain⟨k1,c,u1,k2,k3,k4⟩:=(get hcap e1 e2).ex;exact⟨u1,k4,.inr ⟨.inr k1,c,k2,cellK _ _ k3⟩⟩
 ·obtain⟨z,q⟩:=(hcl y c h).1;exact⟨z,cellK _ _ q⟩
 ·show(some v::vc.map some).length=(p::capN).length;have:=hcap.length;simp only[QY,QV];omega
theorem B9{c:Addr}{pm ctv:Q2}{params:Arguments}{body:PySem.Expr}{te:TE}{Q:VK}(hroom:A.depth<recursionLimit)(e0:qC P w K mg base A outer s H)(hd:A.handled=none)
  (ho:s.heap.get? f=some (PySem.W.kla_obj name qual params body scope cl pm c ctv)) (hcd:s.heap.CodeRec (.ref c) qual) (hco:scope.isCoroutine=false) (hgen:scope.isGenerator=false) (hkind:scope.kind=.function)
  (hcell:∀x∈scope.names,x.2≠.cell) (hp:scope.names.lookup p=some .local) (hbind:bindArgs (PySem.W.kla_fn name qual params body scope cl pm (.ref c) ctv) ⟨[u],[]⟩=pure [(p,u)]) (r:bR v u)
  (hinj:∀x y c,cl.lookup x=some c->cl.lookup y=some c->x=y) (hhas:∀x,(scope.names.lookup x=some .cell\/scope.names.lookup x=some .free)->∃c,cl.lookup x=some c)
  (hcl:∀x c,cl.lookup x=some c->(∃u,s.heap.IsCell c u)/\H c=none) (hcap:Paired (fun x v=>Gp scope cl s.heap H x v) capN vc)
  (hb:WE (cxL P w K mg base (p::capN) qual scope f (.ref c) cl A outer s H) body te) (hq:te (some v::vc.map some) H Q) :
  codeAny (Qj P w) A (.call (.ref f) ⟨[u],[]⟩) (fun r s'=>∃u',r=.ok (.ret u')/\CE outer P w H s Q u' s') s:=by
 have lim:s.heap.NoLimit:=e0.mod.nolimit.keeps fun b o e=>(e0.bs b o e).1;refine PySem.W.kla_callFunE hroom ho rfl hco hgen rfl hcd ?_;rw[hbind];refine QL (wpAny_newFunctionEnv hcell (fun x hx=>(show x=(p,u)by simpa using hx)▸hp) (fun h₁ hns hsb=>?_) hkind);have hk₁:∀b o,s.heap.get? b=some o->h₁.get? b=some o:=fun b o e=>hsb.extBut b o (Qy (QK e)) (Q7 _ e);refine⟨lim.keeps hk₁,?_⟩;show codeAny _ _ (.expr body (FE qual scope s.heap.objs.size f (.ref c) cl)) _ _;refine PySem.W.kla_codeExpr (ZX (hb.h [] _ _ H Q (Ci e0 hd hkind hp r hinj hhas hcl hcap hns hk₁) hq) (fun u' s' h=>?_) fun _ _ z=>z.elim);obtain⟨v',H',I',rv,q⟩:=h;exact⟨u',rfl,v',H',I'.os,I'.bare,I'.base,I'.hok,rv,q⟩
end
def wY(mg:Str->Option Q2)(base:Heap):Prop:=∃bm ob,mg "__builtins__"=some (.ref bm)/\bm≠builtinsNs/\base.get? bm=some ob/\ob.cls=.type "module"/\ob.dict=some builtinsNs/\ob.data=.plain
section
variable{X:Cx}{pins:List (Addr×Obj)}{σ:L2.St}{H:Hp}{s:Q3}
theorem _root_.L2.Inv.tab{h':Heap}{t':Nat}{p:Addr}{ps more:Array Q2}(I:Inv X pins σ H s)(hp:H p=some (.tbl ps))(k:Heap.ExtBut p s.heap h')(e:h'.get? p=some { cls:=.none,data:=.fields (ps++more) }) :
  Inv X pins σ (upd H p (.tbl (ps++more))) { s with heap:=h',toks:=t' }:=by
 have np:∀b u,H b=some u->u≠.tbl ps->b≠p:=fun b u q d z=>by subst z;rw[hp]at q;cases q;exact d rfl
 have nf:∀b,H b=none->b≠p:=fun b q z=>by subst z;rw[hp]at q;cases q
 refine I.un ⟨fun b o q n _ _=>k b o (nf b n) q,fun b o q n _ _=>⟨o.slots,k b o (nf b n) q⟩,fun b o q n _=>by rw[aB (nf b n)];exact n,fun b o q _=>?_,fun b xs q=>by rw[aB (np b _ q (by simp))];exact q,fun b o u q=>by rw[aB (np b _ q (by simp))];exact q,fun b ps' q=>?_⟩ fun b u q=>?_
 ·by_cases z:b=p
  ·subst z;exact⟨_,e⟩
  ·exact⟨o,k b o z q⟩
 ·by_cases z:b=p
  ·subst z;rw[hp]at q;cases q;exact⟨more,aA⟩
  ·exact⟨#[],by rw[aB z,q];simp⟩
 ·by_cases z:b=p
  ·subst z;rw[aA]at q;cases q;exact e
  ·rw[aB z]at q;refine(I.hok b u q).stay (fun c o hc q2=>k c o ?_ q2) (fun c q2=>by rw[aB (np c _ q2 (by simp))];exact q2) fun c xs q2=>by rw[aB (np c _ q2 (by simp))];exact q2
   rcases hc with rfl|hc
   ·exact z
   ·exact np c _ hc (by simp)
theorem _root_.L2.Inv.adopt{c:Addr}{u:HO}(I:Inv X pins σ H s)(new:c8 X.prog X.w (upd H c u) s.heap c u)(n:H c=none)(h0:X.s₀.heap.objs.size<=c)(hL:c≠X.env.locals)(hc:∀x d,X.env.cells.lookup x=some d->d≠c)(hp:∀q∈X.pn++pins,q.1≠c) :
  Inv X pins σ (upd H c u) s:=by
 have ne:∀b u,H b=some u->b≠c:=fun b u q z=>by subst z;rw[n]at q;cases q
 have neS:∀b ob,X.s₀.heap.get? b=some ob->b≠c:=fun b ob q z=>absurd (Qq (QK q) h0) (by rw[z];exact ZC _);refine⟨I.ok,I.os,I.bare,⟨I.base.keep,I.base.slot,fun b ob q m hx=>by rw[aB (neS b ob q)];exact I.base.free b ob q m hx,I.base.there,fun b xs q=>?_,fun b ob xs q=>?_,fun b ps q=>?_⟩,I.loc,I.cell,by rw[aB (Ne.symm hL)];exact I.free,fun x d q=>by rw[aB (hc x d q)];exact I.freeC x d q,fun q hq=>?_,fun b u q=>?_,I.len⟩
 ·have:=I.base.tups b xs q;rw[aB (ne _ _ this)];exact this
 ·have:=I.base.frzs b ob xs q;rw[aB (ne _ _ this)];exact this
 ·obtain⟨m,e⟩:=I.base.tbls b ps q;exact⟨m,by rw[aB (ne _ _ e)];exact e⟩
 ·obtain⟨e1,e2,e3⟩:=I.pin q hq;exact⟨e1,by rw[aB (hp q hq)];exact e2,e3⟩
 ·by_cases z:b=c
  ·subst z;rw[aA]at q;cases q;exact new
  ·rw[aB z]at q;exact(I.hok b u q).stay (fun _ _ _ q2=>q2) (fun d q2=>by rw[aB (ne _ _ q2)];exact q2) fun d xs q2=>by rw[aB (ne _ _ q2)];exact q2
theorem yu{c p:Addr}{ps:Array Q2}{name qual:Str}{params:Arguments}{body:PySem.Expr}{scope:Zq}{cl:List (Str×Addr)}{pos:Pos}{fl:Nat}{Q:Q2->Q3->Prop}(I:Inv X pins σ H s)(hc:X.env.code=.ref c)(C:PySem.W.CodeHd X.base c p)(B:wY X.mg X.base)
  (hp:H p=some (.tbl ps)) (ht:TriplesOk ps.toList) (hcl:closureFor scope X.env=pure cl)
  (hit:codeAmong pos ps.toList=none\/∃c' ob vs t,codeAmong pos ps.toList=some (.ref c')/\H c'=some (.frz ob (.own 0))/\ob.data=.fields vs/\vs[1]?=some (.str qual t))
  (q:∀(f c':Addr) (pm ctv:Q2) (ps':Array Q2) (H':Hp) (s':Q3),Inv X pins σ H' s'->s.heap.objs.size<=f->H' f=none->s'.heap.get? f=some (PySem.W.kla_obj name qual params body scope cl pm c' ctv)->s'.heap.CodeRec (.ref c') qual->
   (∀b o,b≠p->s.heap.get? b=some o->s'.heap.get? b=some o)->H' p=some (.tbl ps')->TriplesOk ps'.toList->(∃ob vs t,codeAmong pos ps'.toList=some (.ref c')/\H' c'=some (.frz ob (.own 0))/\ob.data=.fields vs/\vs[1]?=some (.str qual t))->(∀b,b≠p->b≠c'->H' b=H b)->(H c'=none\/H'=H)->Q (.ref f) s') :
  wpAny (Qj X.prog X.w) X.A (makeFunction name qual params (.expr body) scope X.env [] [] [] pos fl) Q X.xe s:=by
 have gp:s.heap.get? p=some (PySem.W.tabObj ps):=I.hok p _ hp;obtain⟨bm,ob,b1,b2,b3,b4,b5,b6⟩:=B;have hg:=I.mod.glob.keeps I.bk;have hbp:bm≠p:=fun z=>by
  have:=I.bk _ _ b3;rw[z,gp]at this;cases this;cases b4
 have hgp:mainGlobals≠p:=fun z=>by
  obtain⟨o,es,ep,e,d,_⟩:=hg;rw[z,gp]at e;cases e;cases d
 have hbG:bm≠mainGlobals:=fun z=>by
  obtain⟨o,es,ep,e,d,_⟩:=I.mod.glob;rw[z,e]at b3;cases b3;rw[d]at b6;cases b6
 have hB:s.heap.BuiltinsAt X.mg p:=⟨bm,ob,b1,b2,hbG,hbp,I.bk _ _ b3,b4,b5,b6⟩;have lk:∀x d,X.env.cells.lookup x=some d->d<s.heap.objs.size:=fun x d e=>by
  obtain⟨v,o,ho,_⟩:=I.cell x d e;exact QK ho
 have C':PySem.W.CodeHd s.heap c p:=C.keeps I.bk;rcases hit with hn|⟨c',oc,vs,t,hf,h2,h3,h4⟩
 ·refine PySem.W.kla_makeFunction (mg:=X.mg) hcl I.ok.glob hg hc C' gp ht hn hgp hB fun c' ctv h' tk hx hge hlt hrec htb=>?_;obtain⟨c2,oc,vs,t,e2,hoc,hd,hv⟩:=hrec;cases e2;have I1:=I.tab (t':=tk) hp hx htb;have ncp:c'≠p:=fun z=>by
   have:=QK gp;rw[<-z]at this;exact absurd hge (Nat.not_le.mpr this)
  have n1:(upd H p (.tbl (ps++#[rawInt pos.line,rawInt pos.col,.ref c']))) c'=none:=by rw[aB ncp];exact I.hok.fresh hge
  have I2:=I1.adopt (c:=c') (u:=.frz oc (.own 0)) ⟨hoc,oc,hoc⟩ n1 (Qb I.sz hge) (Nat.ne_of_gt (Qq I.lt hge)) (fun x d e=>Qy (Qq (lk x d e) hge)) (fun q hq=>Qy (Qq (QK (I.pin q hq).1) hge));have I3:=I2.kept (h':=h'.push (PySem.W.kla_obj name qual params body scope cl ((X.mg "__name__").getD .none) c' ctv)) (t':=tk) fun b o e=>Q7 _ e;refine q h'.objs.size c' _ ctv _ _ _ I3 (Nat.le_of_lt (Nat.lt_of_le_of_lt hge hlt)) ?_ (Qx _ rfl) ⟨c',oc,vs,t,rfl,Q7 _ hoc,hd,hv⟩ (fun b o nb e=>Q7 _ (hx b o nb e)) (by rw[aB (Ne.symm ncp)];exact aA) ?_ ⟨oc,vs,t,?_,aA,hd,hv⟩ (fun b n1 n2=>by rw[aB n2,aB n1]) (.inl (I.hok.fresh hge))
  ·exact I2.hok.fresh (Q8 _)
  ·rw[Array.toList_append];exact TriplesOk_snoc _ _ _ _ ht
  ·rw[Array.toList_append];exact codeAmong_snoc _ ht hn
 ·refine PySem.W.kla_makeFunctionHit (mg:=X.mg) hcl I.ok.glob hg hc C' gp ht hf hB fun ctv h' tk hk hsz=>?_;have I1:=I.kept (h':=h') (t':=tk) hk;have I3:=I1.kept (h':=h'.push { cls:=.type "function",data:=.func (PySem.W.kla_fn name qual params body scope cl ((X.mg "__name__").getD .none) (.ref c') ctv) }) (t':=tk) fun b o e=>Q7 _ e;obtain⟨g1,_⟩:=I3.hok c' _ h2;exact q h'.objs.size c' _ ctv ps H _ I3 hsz (I1.hok.fresh (Q8 _)) (Qx _ rfl) ⟨c',oc,vs,t,rfl,g1,h3,h4⟩ (fun b o nb e=>Q7 _ (hk b o e)) hp ht ⟨oc,vs,t,hf,h2,h3,h4⟩ (fun _ _ _=>rfl) (.inr rfl)
end
end OG
namespace OP
open PySem PySem.Spec PyProof PyProof.Rows L2 OG PySem.W
structure oM(n:Nat)(lt:Nat->Nat->Bool):Prop where
 asym:∀{i j},i<n->j<n->lt i j=true->lt j i=false
 co:∀{i j k},i<n->j<n->k<n->lt i k=true->lt i j=true\/lt j k=true
def ltS(lt:Nat->Nat->Bool)(i j:Nat):Bool:=lt i j||(!lt j i&&decide (i<j))
section
variable{cmp:Nat->Nat->(Bool->Q3->Prop)->Q3->Prop}{s:Q3}{n:Nat}{lt:Nat->Nat->Bool}{p:Array Nat}
theorem oM.tr(W:oM n lt){i j k:Nat}(hi:i<n)(hj:j<n)(hk:k<n)(h1:lt i j=true)(h2:lt j k=true):lt i k=true:=by
 rcases W.co hi hk hj h1 with h|h
 ·exact h
 ·rw[W.asym hj hk h2]at h;cases h
def cG{i j:Nat}:ltS lt i j=true↔lt i j=true\/lt j i=false/\i<j:=by unfold ltS;simp
theorem EZ{i j:Nat}(h:j<=i):ltS lt i j=lt i j:=by
 unfold ltS;rw[decide_eq_false (by omega)];simp
theorem oM.le(W:oM n lt){i j k:Nat}(hi:i<n)(hj:j<n)(hk:k<n)(h1:lt j i=false)(h2:lt k j=false):lt k i=false:=by
 cases h:lt k i with
 |false=>rfl
 |true=>exact(W.co hk hj hi h).elim (fun z=>by rw[h2]at z;cases z) (fun z=>by rw[h1]at z;cases z)
theorem oM.ok(W:oM n lt):Jw n (ltS lt) where
 tr:=fun{i j k} hi hj hk h1 h2=>by
  rw[cG]at *;rcases h1 with h1|⟨h1,g1⟩<;>rcases h2 with h2|⟨h2,g2⟩
  ·exact .inl (W.tr hi hj hk h1 h2)
  ·rcases W.co hi hk hj h1 with z|z
   ·exact .inl z
   ·rw[h2]at z;cases z
  ·rcases W.co hj hi hk h2 with z|z
   ·rw[h1]at z;cases z
   ·exact .inl z
  ·exact .inr ⟨W.le hi hj hk h1 h2,by omega⟩
 asym:=fun{i j} hi hj h=>by
  cases g:ltS lt j i with
  |false=>rfl
  |true=>
   rw[cG]at h g;rcases h with h|⟨h,h'⟩<;>rcases g with g|⟨g,g'⟩
   ·rw[W.asym hi hj h]at g;cases g
   ·rw[h]at g;cases g
   ·rw[h]at g;cases g
   ·omega
 tot:=fun{i j} hi hj hne h=>by
  rw[cG];cases g:lt j i with
  |true=>exact .inl rfl
  |false=>
   refine .inr ⟨?_,?_⟩
   ·cases q:lt i j with
    |false=>rfl
    |true=>rw[cG.mpr (.inl q)]at h;cases h
   ·rcases Nat.lt_or_gt_of_ne hne with z|z
    ·rw[cG.mpr (.inr ⟨g,z⟩)]at h;cases h
    ·exact z
structure Px(n k:Nat)(p:Array Nat):Prop where
 pm:Pm n p
 lo:∀i,i<k->p.getD i 0<k
 hi:∀i,k<=i->i<n->p.getD i 0=i
theorem Px.next{k:Nat}(h:Px n k p)(hk:k<n):Px n (k+1) p:=⟨h.pm,fun i hi=>by
 by_cases e:i=k
 ·subst e;rw[h.hi i (Q8 _) hk];omega
 ·have:=h.lo i (by omega);omega,fun i a b=>h.hi i (by omega) b⟩
theorem wR(W:oM n lt)(A:zc cmp n lt s):∀(f m:Nat) {Q:Nat->Q3->Prop},1<=m->m+f<=n->Px n m p->Asc (ltS lt) p m->(∀m',m<=m'->m'<=m+f->Px n m' p->Asc (ltS lt) p m'->(m'=m+f\/lt (p.getD m' 0) (p.getD (m'-1) 0)=true)->Q m' s)->(kas_asc p f m).kasWp cmp Q s
 |0,m,Q,h1,h2,P,h3,q=>q m (Q8 _) (by omega) P h3 (.inl rfl)
 |f+1,m,Q,h1,h2,P,h3,q=>by
  have b1:=P.pm.bd m (by omega);have b2:=P.pm.bd (m-1) (by omega);refine A _ _ _ b1 b2 ?_;cases hc:lt (p.getD m 0) (p.getD (m-1) 0)with
  |true=>exact q m (Q8 _) (by omega) P h3 (.inr hc)
  |false=>
   have hlt:p.getD (m-1) 0<p.getD m 0:=by rw[P.hi m (Q8 _) (by omega)];exact P.lo _ (by omega)
   have h4:=h3.snoc W.ok P.pm h1 (by omega) (cG.mpr (by
    cases z:lt (p.getD (m-1) 0) (p.getD m 0)with
    |true=>exact .inl rfl
    |false=>exact .inr ⟨hc,hlt⟩))
   exact wR W A f (m+1) (by omega) (by omega) (P.next (by omega)) h4 fun m' a b c d e=>q m' (by omega) (by omega) c d (by rcases e with e|e;exact .inl (by omega);exact .inr e)
theorem eN{i m k:Nat}(hm:m<=p.size):(kas_rev p i m).getD k 0=if i<=k/\k<m then p.getD (i+m-1-k) 0 else p.getD k 0:=by
 unfold kas_rev;have h:=getElem?_mirror_all (i:=i) hm k;split
 ·rename_i c;rw[if_pos c]at h;exact ig h
 ·rename_i c;rw[if_neg c]at h;exact ig h
theorem Px.rev{k i m:Nat}(P:Px n k p)(hm:m<=k)(hk:k<=n):Px n k (kas_rev p i m):=by
 have g:∀j,(kas_rev p i m).getD j 0=if i<=j/\j<m then p.getD (i+m-1-j) 0 else p.getD j 0:=fun j=>eN (by rw[P.pm.sz];omega)
 refine⟨⟨by rw[kas_rev_size];exact P.pm.sz,fun j hj=>?_,fun a b hab hb=>?_⟩,fun j hj=>?_,fun j a b=>?_⟩
 ·rw[g];split
  ·exact P.pm.bd _ (by omega)
  ·exact P.pm.bd _ hj
 ·rw[g,g];split<;>split<;>exact P.pm.ne' (by omega) (by omega) (by omega)
 ·rw[g];split
  ·exact P.lo _ (by omega)
  ·exact P.lo _ hj
 ·rw[g,if_neg (by omega)];exact P.hi j a b
structure Dn(lt:Nat->Nat->Bool)(p:Array Nat)(m q:Nat):Prop where
 dn:∀i j,i<j->j<m->i<m-(q+1)->ltS lt (p.getD j 0) (p.getD i 0)=true
 st:∀i j,i<m-(q+1)->m-(q+1)<=j->j<m->lt (p.getD j 0) (p.getD i 0)=true
 eq:∀i j,m-(q+1)<=i->i<j->j<m->lt (p.getD i 0) (p.getD j 0)=false/\lt (p.getD j 0) (p.getD i 0)=false/\p.getD i 0<p.getD j 0
theorem Dn.rev{m q:Nat}(h:Dn lt p m q)(hm:m<=p.size)(hq:q+1<=m):Dsc (ltS lt) (kas_rev p (m-(q+1)) m) m:=fun i j a b=>by
 have g:∀j,(kas_rev p (m-(q+1)) m).getD j 0=if m-(q+1)<=j/\j<m then p.getD (m-(q+1)+m-1-j) 0 else p.getD j 0:=fun j=>eN hm
 rw[g,g];by_cases ci:m-(q+1)<=i
 ·rw[if_pos ⟨by omega,b⟩,if_pos ⟨ci,by omega⟩];obtain⟨z1,z2,z3⟩:=h.eq (m-(q+1)+m-1-j) (m-(q+1)+m-1-i) (by omega) (by omega) (by omega);exact cG.mpr (.inr ⟨z2,z3⟩)
 ·rw[if_neg (c:=m-(q+1)<=i/\i<m) (by omega)];split
  ·exact h.dn _ _ (by omega) (by omega) (by omega)
  ·exact h.dn _ _ a b (by omega)
def Dn.dsc{m:Nat}(h:Dn lt p m 0):Dsc (ltS lt) p m:=fun i j a b=>h.dn i j a b (by omega)
theorem ql(W:oM n lt)(P:Pm n p){m:Nat}(h:Dsc (ltS lt) p m)(h1:1<=m)(hm:m<n)(hc:lt (p.getD m 0) (p.getD (m-1) 0)=true):Dn lt p (m+1) 0:=by
 have bm:=P.bd m hm;have all:∀i,i<m->lt (p.getD m 0) (p.getD i 0)=true:=fun i hi=>by
  by_cases e2:i=m-1
  ·subst e2;exact hc
  ·have z:=h i (m-1) (by omega) (by omega);rw[cG]at z;rcases z with z|⟨z,_⟩
   ·exact W.tr bm (P.bd _ (by omega)) (P.bd _ (by omega)) hc z
   ·rcases W.co bm (P.bd i (by omega)) (P.bd (m-1) (by omega)) hc with y|y
    ·exact y
    ·rw[z]at y;cases y
 refine⟨fun i j a b c=>?_,fun i j a b c=>?_,fun i j a b c=>by omega⟩
 ·by_cases e:j=m
  ·subst e;exact cG.mpr (.inl (all i (by omega)))
  ·exact h i j a (by omega)
 ·have e:j=m:=by omega
  subst e;exact all i (by omega)
theorem Dn.alike(W:oM n lt){m q:Nat}(P:Px n m p)(h:Dn lt p m q)(h1:q+1<=m)(hm:m<n)(hc:lt (p.getD m 0) (p.getD (m-1) 0)=false)(hd:lt (p.getD (m-1) 0) (p.getD m 0)=false):Dn lt p (m+1) (q+1):=by
 have e1:m+1-(q+1+1)=m-(q+1):=by omega
 have bm:=P.pm.bd m hm;have eqm:∀i,m-(q+1)<=i->i<m->lt (p.getD i 0) (p.getD m 0)=false/\lt (p.getD m 0) (p.getD i 0)=false:=fun i a b=>by
  by_cases e:i=m-1
  ·subst e;exact⟨hd,hc⟩
  ·obtain⟨z1,z2,_⟩:=h.eq i (m-1) a (by omega) (by omega);exact⟨W.le bm (P.pm.bd (m-1) (by omega)) (P.pm.bd i (by omega)) hd z1,W.le (P.pm.bd i (by omega)) (P.pm.bd (m-1) (by omega)) bm z2 hc⟩
 have stm:∀i,i<m-(q+1)->lt (p.getD m 0) (p.getD i 0)=true:=fun i hi=>by
  rcases W.co (P.pm.bd (m-1) (by omega)) bm (P.pm.bd i (by omega)) (h.st i (m-1) hi (by omega) (by omega))with y|y
  ·rw[hd]at y;cases y
  ·exact y
 refine⟨fun i j a b c=>?_,fun i j a b c=>?_,fun i j a b c=>?_⟩
 ·rw[e1]at c;by_cases e:j=m
  ·subst e;exact cG.mpr (.inl (stm i c))
  ·exact h.dn i j a (by omega) c
 ·rw[e1]at a b;by_cases e:j=m
  ·subst e;exact stm i a
  ·exact h.st i j a b (by omega)
 ·rw[e1]at a;by_cases e:j=m
  ·subst e;obtain⟨z1,z2⟩:=eqm i a (by omega);exact⟨z1,z2,by rw[P.hi j (Q8 _) hm];exact P.lo _ (by omega)⟩
  ·exact h.eq i j a b (by omega)
theorem m8(W:oM n lt)(A:zc cmp n lt s):∀(f:Nat) (p:Array Nat) (m q:Nat) {Q:Array Nat×Nat×Nat->Q3->Prop},q+1<=m->m+f<=n->Px n m p->Dn lt p m q->(∀p' m' q',q'+1<=m'->m'<=n->Px n m' p'->Dn lt p' m' q'->Q (p',m',q') s)->(kas_desc f p m q).kasWp cmp Q s
 |0,p,m,q,Q,h1,h2,P,h3,g=>g p m q h1 (by omega) P h3
 |f+1,p,m,q,Q,h1,h2,P,h3,g=>by
  have b1:=P.pm.bd m (by omega);have b2:=P.pm.bd (m-1) (by omega);refine A _ _ _ b1 b2 ?_;cases hc:lt (p.getD m 0) (p.getD (m-1) 0)with
  |true=>
   dsimp only;rw[if_pos rfl];by_cases hq:q>0
   ·rw[if_pos hq];have P':Px n m (kas_rev p (m-(q+1)) m):=P.rev (Q8 _) (by omega);have em:(kas_rev p (m-(q+1)) m).getD m 0=p.getD m 0:=by rw[eN (by rw[P.pm.sz];omega),if_neg (by omega)]
    have e2:(kas_rev p (m-(q+1)) m).getD (m-1) 0=p.getD (m-(q+1)) 0:=by
     rw[eN (by rw[P.pm.sz];omega),if_pos (by omega)];congr 1;omega
    refine m8 W A f _ (m+1) 0 (by omega) (by omega) (P'.next (by omega)) (ql W P'.pm (h3.rev (by rw[P.pm.sz];omega) h1) (by omega) (by omega) ?_) g;rw[em,e2];obtain⟨z1,_,_⟩:=h3.eq (m-(q+1)) (m-1) (Q8 _) (by omega) (by omega);rcases W.co b1 (P.pm.bd (m-(q+1)) (by omega)) b2 hc with y|y
    ·exact y
    ·rw[z1]at y;cases y
   ·rw[if_neg hq];have q0:q=0:=by omega
    subst q0;exact m8 W A f p (m+1) 0 (by omega) (by omega) (P.next (by omega)) (ql W P.pm h3.dsc (by omega) (by omega) hc) g
  |false=>
   dsimp only;rw[if_neg Q9];refine A _ _ _ b2 b1 ?_;cases hd:lt (p.getD (m-1) 0) (p.getD m 0)with
   |true=>
    dsimp only;rw[if_pos rfl];exact g p m q h1 (by omega) P h3
   |false=>
    dsimp only;rw[if_neg Q9];exact m8 W A f p (m+1) (q+1) (by omega) (by omega) (P.next (by omega)) (h3.alike W P h1 (by omega) hc hd) g
theorem uu(W:oM n lt)(A:zc cmp n lt s){m:Nat}{Q:Nat×Array Nat->Q3->Prop}(h1:1<=m)(hm:m<=n)(P:Px n m p)(h:Dsc (ltS lt) p m)(g:∀m p',1<=m->m<=n->Px n m p'->Asc (ltS lt) p' m->Q (m,p') s):(kas_tail3 m n p).kasWp cmp Q s:=by
 unfold kas_tail3;rw[KasT.kasWp_bind];exact wR W A (n-m) m h1 (by omega) (P.rev (Q8 _) hm) (h.rev P.pm hm) fun m2 a2 b2 P2 c2 _=>g m2 _ (by omega) (by omega) P2 c2
theorem u6(W:oM n lt)(A:zc cmp n lt s){m:Nat}{Q:Nat×Array Nat->Q3->Prop}(h1:1<=m)(hm:m<n)(P:Px n m p)(h:Dsc (ltS lt) p m)(hc:lt (p.getD m 0) (p.getD (m-1) 0)=true)(g:∀m p',1<=m->m<=n->Px n m p'->Asc (ltS lt) p' m->Q (m,p') s):(kas_descPart m n p).kasWp cmp Q s:=by
 unfold kas_descPart;rw[KasT.kasWp_bind];refine m8 W A _ p (m+1) 0 (by omega) (by omega) (P.next hm) (ql W P.pm h h1 hm hc) fun p' m' q' a b P' D=>?_;dsimp only;by_cases hq:q'>0
 ·rw[if_pos hq];exact uu W A (by omega) b (P'.rev (Q8 _) b) (D.rev (by rw[P'.pm.sz];exact b) a) g
 ·rw[if_neg hq];have q0:q'=0:=by omega
  subst q0;exact uu W A (by omega) b P' D.dsc g
theorem yO(W:oM n lt)(A:zc cmp n lt s){Q:Nat×Array Nat->Q3->Prop}(h1:1<=n)(P:Px n 1 p)(g:∀m p',1<=m->m<=n->Px n m p'->Asc (ltS lt) p' m->Q (m,p') s):(kas_count n p).kasWp cmp Q s:=by
 unfold kas_count;rw[KasT.kasWp_bind];refine wR W A (n-1) 1 (Q8 _) (by omega) P (fun i j a b=>by omega) fun m a b P' c d=>?_;by_cases e:m=n
 ·rw[if_pos (by rw[e];exact beq_self_eq_true n)];exact g m p a (by omega) P' c
 rw[if_neg (by simpa using e)];have d':lt (p.getD m 0) (p.getD (m-1) 0)=true:=by
  rcases d with d|d
  ·omega
  ·exact d
 by_cases z:m>1
 ·rw[if_pos z];refine A _ _ _ (P'.pm.bd _ (by omega)) (P'.pm.bd _ (by omega)) ?_;cases hc:lt (p.getD 0 0) (p.getD (m-1) 0)with
  |true=>
   dsimp only;rw[if_pos rfl];exact g m p a (by omega) P' c
  |false=>
   dsimp only;rw[if_neg Q9];have al:∀i j,i<j->j<m->lt (p.getD i 0) (p.getD j 0)=false/\lt (p.getD j 0) (p.getD i 0)=false/\p.getD i 0<p.getD j 0:=fun i j hij hj=>by
    have n1:∀k,k<m->lt (p.getD k 0) (p.getD 0 0)=false:=fun k hk=>by
     by_cases e0:k=0
     ·subst e0;cases y:lt (p.getD 0 0) (p.getD 0 0)with
      |false=>rfl
      |true=>have:=W.asym (P'.pm.bd 0 (by omega)) (P'.pm.bd 0 (by omega)) y;rw[y]at this;cases this
     ·have:=c 0 k (by omega) hk;rw[cG]at this;rcases this with y|⟨y,_⟩
      ·exact W.asym (P'.pm.bd _ (by omega)) (P'.pm.bd _ (by omega)) y
      ·exact y
    have n2:∀k,k<m->lt (p.getD (m-1) 0) (p.getD k 0)=false:=fun k hk=>by
     by_cases e0:k=m-1
     ·subst e0;cases y:lt (p.getD (m-1) 0) (p.getD (m-1) 0)with
      |false=>rfl
      |true=>have:=W.asym (P'.pm.bd (m-1) (by omega)) (P'.pm.bd (m-1) (by omega)) y;rw[y]at this;cases this
     ·have:=c k (m-1) (by omega) (by omega);rw[cG]at this;rcases this with y|⟨y,_⟩
      ·exact W.asym (P'.pm.bd _ (by omega)) (P'.pm.bd _ (by omega)) y
      ·exact y
    have bi:=P'.pm.bd i (by omega);have bj:=P'.pm.bd j (by omega);have b0:=P'.pm.bd 0 (by omega);have bm:=P'.pm.bd (m-1) (by omega);have k1:∀i j,i<m->j<m->lt (p.getD i 0) (p.getD j 0)=false:=fun i j hi hj=>by
     cases y:lt (p.getD i 0) (p.getD j 0)with
     |false=>rfl
     |true=>
      rcases W.co (P'.pm.bd i (by omega)) b0 (P'.pm.bd j (by omega)) y with x|x
      ·rw[n1 i hi]at x;cases x
      ·rcases W.co b0 bm (P'.pm.bd j (by omega)) x with v|v
       ·rw[hc]at v;cases v
       ·rw[n2 j hj]at v;cases v
    have z1:=k1 i j (by omega) hj;refine⟨z1,k1 j i hj (by omega),?_⟩;have:=c i j hij hj;rw[cG]at this;rcases this with y|⟨_,y⟩
    ·rw[z1]at y;cases y
    ·exact y
   have hm:m<=p.size:=by rw[P'.pm.sz];omega
   refine u6 W A a (by omega) (P'.rev (Q8 _) (by omega)) (fun i j hij hj=>?_) ?_ g
   ·rw[eN hm,eN hm,if_pos (by omega),if_pos (by omega)];obtain⟨z1,z2,z3⟩:=al (0+m-1-j) (0+m-1-i) (by omega) (by omega);exact cG.mpr (.inr ⟨z2,z3⟩)
   ·rw[eN hm,eN hm,if_neg (by omega),if_pos (by omega),show 0+m-1-(m-1)=0 by omega];rcases W.co (P'.pm.bd m (by omega)) (P'.pm.bd 0 (by omega)) (P'.pm.bd (m-1) (by omega)) d' with x|x
    ·exact x
    ·rw[hc]at x;cases x
 ·rw[if_neg z];have m1:m=1:=by omega
  subst m1;exact u6 W A (Q8 _) (by omega) P' (fun i j a b=>by omega) d' g
theorem mG(W:oM n lt)(A:zc cmp n lt s){k:Nat}(P:Px n k p)(hk:k<n)(hs:Asc (ltS lt) p k):∀(f l r:Nat) {Q:Nat->Q3->Prop},l<=r->r<=k->r-l<=f->(∀i,i<l->ltS lt (p.getD i 0) (p.getD k 0)=true)->(∀i,r<=i->i<k->ltS lt (p.getD k 0) (p.getD i 0)=true)->
  (∀l',l'<=k->(∀i,i<l'->ltS lt (p.getD i 0) (p.getD k 0)=true)->(∀i,l'<=i->i<k->ltS lt (p.getD k 0) (p.getD i 0)=true)->Q l' s)->(kas_place p k f l r).kasWp cmp Q s
 |0,l,r,Q,h1,h2,h3,h4,h5,q=>q l (by omega) h4 fun i a b=>h5 i (by omega) b
 |f+1,l,r,Q,h1,h2,h3,h4,h5,q=>by
  unfold kas_place;by_cases e:l≥r
  ·rw[if_pos e];exact q l (by omega) h4 fun i a b=>h5 i (by omega) b
  ·rw[if_neg e];have hM:(l+r) / 2<k:=by omega
   have bk:=P.pm.bd k hk;have bM:=P.pm.bd ((l+r) / 2) (by omega);refine A _ _ _ bk bM ?_;have gt:p.getD ((l+r) / 2) 0<=p.getD k 0:=by rw[P.hi k (Q8 _) hk];exact Nat.le_of_lt (P.lo _ hM)
   rw[<-EZ (lt:=lt) gt];cases hc:ltS lt (p.getD k 0) (p.getD ((l+r) / 2) 0)with
   |true=>
    refine mG W A P hk hs f l ((l+r) / 2) (by omega) (by omega) (by omega) h4 (fun i a b=>?_) q;by_cases e2:i=(l+r) / 2
    ·subst e2;exact hc
    ·exact W.ok.tr bk bM (P.pm.bd _ (by omega)) hc (hs _ i (by omega) b)
   |false=>
    have hc':=W.ok.tot bk bM (P.pm.ne' hk (by omega) (by omega)) hc;refine mG W A P hk hs f ((l+r) / 2+1) r (by omega) (by omega) (by omega) (fun i a=>?_) h5 q;by_cases e2:i=(l+r) / 2
    ·subst e2;exact hc'
    ·exact W.ok.tr (P.pm.bd _ (by omega)) bM bk (hs i ((l+r) / 2) (by omega) hM) hc'
theorem Px.bub{k l:Nat}(P:Px n k p)(hk:k<n)(hl:l<=k):Px n (k+1) (bubble p k (k-l)):=by
 have g:∀i,(bubble p k (k-l)).getD i 0=_:=fun i=>js (by rw[P.pm.sz];exact hk) hl;refine⟨P.pm.bub hk hl,fun i hi=>?_,fun i a b=>?_⟩
 ·rw[g];have:=P.hi k (Q8 _) hk;split
  ·omega
  ·split
   ·have:=P.lo (i-1) (by omega);omega
   ·have:=P.lo i (by omega);omega
 ·rw[g,if_neg (by omega),if_neg (by omega)];exact P.hi i (by omega) b
theorem Ai(W:oM n lt)(A:zc cmp n lt s):∀(f:Nat) (p:Array Nat) (k:Nat) {Q:Array Nat->Q3->Prop},Px n k p->k+f=n->Asc (ltS lt) p k->(∀p',Pm n p'->Asc (ltS lt) p' n->Q p' s)->(kas_bin f p k).kasWp cmp Q s
 |0,p,k,Q,P,h1,h2,q=>q p P.pm (by rw[<-h1];exact h2)
 |f+1,p,k,Q,P,h1,h2,q=>by
  unfold kas_bin;rw[KasT.kasWp_bind];refine mG W A (k:=k) P (by omega) h2 k 0 k (Z6 _) (Q8 _) (by omega) (fun i a=>by omega) (fun i a b=>by omega) fun l a b c=>?_;exact Ai W A f _ (k+1) (P.bub (by omega) a) (by omega) (h2.bub P.pm (by omega) a b c) q
theorem Bi(W:oM n lt)(A:zc cmp n lt s){Q:Array Nat->Q3->Prop}(h1:1<=n)(q:∀p',Pm n p'->Asc (ltS lt) p' n->Q p' s):(kas_sort n).kasWp cmp Q s:=by
 unfold kas_sort;rw[KasT.kasWp_bind];have g:∀i,i<n->(ZJ (Qz n)).getD i 0=i:=fun i hi=>by simp[Array.getD,hi]
 refine yO W A h1 ⟨qZ,fun i hi=>by rw[g i (by omega)];exact hi,fun i _ b=>g i b⟩ fun m p' a b P c=>?_;dsimp only;by_cases e:m<n
 ·rw[if_pos e];rw[show max m 1=m by omega];exact Ai W A _ _ _ P (by omega) c q
 ·rw[if_neg e];exact q p' P.pm (by rw[show n=m by omega];exact c)
end
def ltK(ks:List (Int×Int))(i j:Nat):Bool:=ltP (ks.getD i (0,0)) (ks.getD j (0,0))
theorem wkK(n:Nat)(ks:List (Int×Int)):oM n (ltK ks) where
 asym:=fun{i j} _ _ h=>by simp only[ltK,ltP,decide_eq_true_eq,decide_eq_false_iff_not]at *;omega
 co:=fun{i j k} _ _ _ h=>by simp only[ltK,ltP,decide_eq_true_eq]at *;omega
def nB(ks:List (Int×Int)):List Nat:=(Qz ks.length).mergeSort fun i j=>!ltS (ltK ks) j i
def d6(ks:List (Int×Int)):(nB ks).Perm (Qz ks.length):=List.mergeSort_perm ..
theorem rh(ks:List (Int×Int)):(nB ks).Pairwise fun i j=>ltS (ltK ks) j i=false:=by
 have ok:=fun i j k:Nat=>(wkK (i+j+k+1) ks).ok;have:=List.pairwise_mergeSort (le:=fun i j=>!ltS (ltK ks) j i) (fun a b c h1 h2=>by
   have O:=ok a b c;simp only[Bool.not_eq_true']at *;by_cases e1:a=b
   ·subst e1;exact h2
   by_cases e2:b=c
   ·subst e2;exact h1
   exact O.asym (by omega) (by omega) (O.tr (by omega) (by omega) (by omega) (O.tot (i:=b) (j:=a) (by omega) (by omega) (fun e=>e1 e.symm) h1) (O.tot (i:=c) (j:=b) (by omega) (by omega) (fun e=>e2 e.symm) h2))) (fun a b=>by
   have O:=ok a b 0;simp only[Bool.or_eq_true,Bool.not_eq_true'];cases h:ltS (ltK ks) b a with
   |false=>exact .inl rfl
   |true=>exact .inr (O.asym (by omega) (by omega) h)) (Qz ks.length)
 exact this.imp fun h=>by simpa using h
theorem vi{ks:List (Int×Int)}{q:Array Nat}(P:Pm ks.length q)(A:Asc (ltS (ltK ks)) q ks.length):q.toList=nB ks:=by
 have hl:q.toList.length=ks.length:=by rw[Qh,P.sz]
 have gd:∀i (hi:i<q.toList.length),q.getD i 0=q.toList[i]:=fun i hi=>by
  have hi':i<q.size:=by simpa using hi
  rw[Zb,Array.getElem?_eq_getElem hi',Array.getElem_toList];rfl
 have O:=(wkK ks.length ks).ok;have p1:q.toList.Pairwise fun i j=>ltS (ltK ks) j i=false:=by
  rw[List.pairwise_iff_getElem];intro i j hi hj hij;have z:=A i j hij (by omega);rw[gd i hi,gd j hj]at z;exact O.asym (nU P _ (List.getElem_mem _)) (nU P _ (List.getElem_mem _)) z
 have nd:q.toList.Nodup:=by
  rw[List.nodup_iff_pairwise_ne,List.pairwise_iff_getElem];intro i j hi hj hij;rw[<-gd i hi,<-gd j hj];exact P.ne i j hij (by omega)
 have pr:q.toList.Perm (Qz ks.length):=by
  refine(List.perm_ext_iff_of_nodup nd List.nodup_range).mpr fun x=>⟨fun hx=>ZY.mpr (nU P x hx),fun hx=>?_⟩;refine Classical.byContradiction fun hn=>?_;have:=List.Nodup.length_le_of_subset (ZR.mpr ⟨hn,nd⟩) (l₂:=Qz ks.length) fun y hy=>by
   rcases QM.mp hy with z|z
   ·rw[z];exact hx
   ·exact ZY.mpr (nU P y z)
  simp only[QY,List.length_range]at this;omega
 refine List.Perm.eq_of_pairwise (fun a b ha hb h1 h2=>?_) p1 (rh ks) (pr.trans (d6 ks).symm);refine Classical.byContradiction fun hn=>?_;have:=O.tot (nU P a ha) (ZY.mp ((d6 ks).mem_iff.mp hb)) hn h2;rw[h1]at this;cases this
section
variable{prog:Qv}{w:Qe}{A:Qa}{E:Q2->Q3->Prop}{s:Q3}{a kS:Addr}{vs:List Q2}{keys:Array Q2}{n1 n2:Nat}{R:PySem.Fin->Q3->Prop}{ks:List (Int×Int)}
theorem mN{st:SortSt}(gk:s.heap.get? kS=some (seqObj "list" keys n2))(ga:s.heap.get? a=some (seqObj "list" #[] n1))(hka:kS≠a)(zk:keys.size<=QD)(zs:(arrOf st).size<=QD)(hfl:failedOf st=none)
  (q:∀(h':Heap) (c:Nat),(∀b o,b≠a->b≠kS->s.heap.get? b=some o->h'.get? b=some o)->h'.objs.size=s.heap.objs.size->h'.get? a=some (seqObj "list" ((arrOf st).map (·.2)) c)->R (.done (.ret .none)) { s with heap:=h' }) :
  wpAny (Qj prog w) A (ksk_tail a false n1 (.ref kS) st) R E s:=by
 have u1:=Heap.SameBut.update s.heap kS (Obj.mapSeq fun _=>(#[]:Array Q2));have ga1:=(u1.2 a hka.symm).trans ga;unfold ksk_tail;dsimp only;refine Q5 (listUpdate_at gk rfl (Q5 (wpAny_letGo (Q5 (seqEpoch_at ga1 rfl (Q5 (listUpdate_at ga1 rfl ?_ (Z6 _) (Nat.le_succ_of_le (by simpa using zs)))))))) zk (Z6 _));rw[hfl];simp only[bne_self_eq_false,Qs,if_false];have u2:=Heap.SameBut.update (s.heap.update kS (Obj.mapSeq fun _=>(#[]:Array Q2))) a (Obj.mapSeq fun _=>(arrOf st).map (·.2));exact QL (q _ _ (fun b o h1 h2 e=>(u2.2 b h1).trans ((u1.2 b h2).trans e)) (by rw[Heap.size_update,Heap.size_update]) (get?_update_seq ga1 fun _=>(arrOf st).map (·.2)))
theorem Cb(gk:s.heap.get? kS=some (seqObj "list" keys n2))(ga:s.heap.get? a=some (seqObj "list" #[] n1))(hka:kS≠a)(hp:fL s.heap keys.toList ks)(hl:ks.length=vs.length)(h64:vs.length<64)
  (q:∀(h':Heap) (c:Nat),(∀b o,b≠a->b≠kS->s.heap.get? b=some o->h'.get? b=some o)->h'.objs.size=s.heap.objs.size->h'.get? a=some (seqObj "list" ((nB ks).map fun i=>vs.getD i Value.none).toArray c)->R (.done (.ret .none)) { s with heap:=h' }) :
  wpAny (Qj prog w) A (ksk_end a false vs.toArray n1 (.ref kS) keys) R E s:=by
 have lk:=j7 hp;rw[Qh]at lk;have zl:vs.length<=QD:=by unfold QD;omega
 unfold ksk_end;dsimp only;simp only[Qs,if_false,QF];by_cases h2:vs.length<2
 ·rw[if_pos h2,if_pos h2];refine Q5 (QL ?_);rw[StateT.run_pure];refine Q5 (QL (mN (st:=SortSt.mk' general' (keys.zip vs.toArray) #[] 7 none) gk ga hka (by omega) ?_ rfl fun h' c k z g=>q h' c k z ?_))
  ·show(keys.zip vs.toArray).size<=_;rw[Array.size_zip];exact Qb (Nat.min_le_left _ _) (by omega)
  ·rw[g];have e:((nB ks).map fun i=>vs.getD i Value.none)=vs:=by
    have pr:=d6 ks;match ks,vs,hl,h2 with
    |[],[],_,_=>rw[List.Perm.eq_nil pr];rfl
    |[k],[v],_,_=>
     have:nB [k]=[0]:=List.perm_singleton.mp pr;rw[this];rfl
    |_::_::_,_::_::_,_,h2=>simp only[QY]at h2;omega
   have e2:Array.map (fun x=>x.snd) (arrOf (SortSt.mk' general' (keys.zip vs.toArray) #[] 7 none))=vs.toArray:=by
    show(keys.zip vs.toArray).map (·.2)=_;apply Array.toList_inj.mp;rw[Array.toList_map,ksk_zip,List.map_snd_zip (by have:=Qh (xs:=keys);omega)]
   rw[e,e2]
 ·rw[if_neg h2,if_neg h2];have ek:keys=keys.toList.toArray:=by simp
  refine Q5 ?_;rw[ek];refine lU hp (by rw[Qh];omega) ?_;rw[<-ek];refine Q5 (ZX (kat_run (ks:=keys.toList) (vs:=vs) (κ:=tuples' true) (Q:=fun st' s'=>∃p:Array Nat,arrOf st'=Array.map (kas_item (keys.toList.toArray.zip vs.toArray)) p/\failedOf st'=none/\s'=s/\p.size=vs.length/\p.toList=nB ks)
   (G:=fun p s'=>s'=s/\p.toList=nB ks) (by rw[Qh];omega) (by omega) h64 (fun p st' s' h1 h2 h3 h4=>⟨p,h2,h3,h4.1,h1,h4.2⟩) ?_) (fun r s' hr=>?_) fun _ _ e=>e)
  ·refine Bi (lt:=ltK ks) (wkK _ ks) (fun i j C hi hj hC=>?_) (by omega) fun p' P Asc'=>⟨rfl,vi (by rw[hl];exact P) (by rw[hl];exact Asc')⟩;exact u9 (gn hp (by omega)) (gn hp (by omega)) hC
  ·obtain⟨u,st'⟩:=r;obtain⟨p,harr,hfail,rfl,hps,hpo⟩:=hr;have hout:=kat_snds (ks:=keys.toList) (vs:=vs) (by rw[Qh];omega) harr;refine mN gk ga hka (by omega) ?_ hfail fun h' c k z g=>q h' c k z ?_
   ·rw[harr,Array.size_map];omega
   ·rw[g,hout,hpo]
end
section
variable{prog:Qv}{w:Qe}{A:Qa}{E:Q2->Q3->Prop}{s:Q3}{κ:SortKind}{it:Array Keyed}
theorem vQ{n:Nat}{Q:Unit->SortSt->Q3->Prop}{G:Array Nat->Q3->Prop}(h2:2<=n)(hmr:minRun' n n 0<=n)
  (hG:∀p' st' s',p'.size=n->arrOf st'=p'.map (kas_item it)->failedOf st'=none->G p' s'->Q () st' s') (h:(kas_count n (ZJ (Qz n))).kasWp (kas_cmp prog w A κ it) (fun r s'=>r.1=n/\G r.2 s') s) :
  kasC (Qj prog w) A E sortRuns' Q (kas_st κ it (ZJ (Qz n))) s:=by
 obtain⟨r,rfl⟩:∃r,n=r+2:=⟨n-2,by omega⟩;have hrs:(ZJ (Qz (r+2))).size=r+2:=by simp
 rw[sortRuns'_eq];refine kasC_bind (kasC_get ?_);dsimp only;have hsz:(arrOf (kas_st κ it (ZJ (Qz (r+2))))).size=r+2:=by
  show((ZJ (Qz (r+2))).map (kas_item it)).size=_;rw[Array.size_map,hrs]
 simp only[hsz];refine kasC_bind (kasC_range ?_);show kasC _ _ _ (forIn (0::1::List.range' 2 r) _ _) _ _ _;refine kasC_cons ?_;dsimp only;rw[if_neg (by omega)];simp only[Nat.sub_zero];refine kasC_bind (kas_count_ (by omega) (by rw[hrs];exact Q8 _) (fun m p' s' hm1 hm2 hp hg=>?_) h);obtain⟨rfl,hg⟩:m=r+2/\G p' s':=hg;have hps:p'.size=r+2:=hp.trans hrs;dsimp only;rw[if_neg (by omega)];refine kasC_bind (kasC_get ?_);rw[show(pendingOf (kas_st κ it p')).back?=none from rfl];dsimp only;refine kasC_bind (kasC_modify (kasC_pure ?_));show kasC _ _ _ (forIn (1::List.range' 2 r) _ _) _ _ _;refine kasC_cons ?_;dsimp only;rw[if_pos (by omega)];refine kasC_pure ?_;dsimp only;refine kasC_bind (kasC_range ?_);show kasC _ _ _ (forIn (0::1::List.range' 2 r) _ _) _ _ _;refine kasC_cons ?_;refine kasC_bind (kasC_get ?_);rw[if_pos (show(pendingOf (setPending (kas_st κ it p') ((pendingOf (kas_st κ it p')).push (0,r+2,0)))).size<=1 from Q8 1)];refine kasC_pure ?_;dsimp only;exact kasC_pure (hG p' _ _ hps rfl rfl hg)
end
section
variable{cmp:Nat->Nat->(Bool->Q3->Prop)->Q3->Prop}{s:Q3}{n:Nat}{lt:Nat->Nat->Bool}
theorem wF(A:zc cmp n lt s)(h1:1<=n)(hu:∀i,1<=i->i<n->lt i (i-1)=false){Q:Nat×Array Nat->Q3->Prop}(q:Q (n,ZJ (Qz n)) s):(kas_count n (ZJ (Qz n))).kasWp cmp Q s:=by
 have g:∀i,i<n->(ZJ (Qz n)).getD i 0=i:=fun i hi=>by simp[Array.getD,hi]
 have key:∀(f m:Nat) {Q:Nat->Q3->Prop},1<=m->m+f=n->Q n s->(kas_asc (ZJ (Qz n)) f m).kasWp cmp Q s:=by
  intro f;induction f with
  |zero=>intro m Q _ h q;rw[show n=m by omega]at q;exact q
  |succ f ih=>
   intro m Q h1 h2 q;refine A _ _ _ (by rw[g m (by omega)];omega) (by rw[g (m-1) (by omega)];omega) ?_;rw[g m (by omega),g (m-1) (by omega),hu m h1 (by omega)];exact ih (m+1) (by omega) (by omega) q
 unfold kas_count;rw[KasT.kasWp_bind];refine key (n-1) 1 (Q8 1) (by omega) ?_;rw[if_pos (by simp)];exact q
end
section
variable{prog:Qv}{w:Qe}{A:Qa}{E:Q2->Q3->Prop}{s:Q3}{a kS:Addr}{vs:List Q2}{keys:Array Q2}{n1 n2:Nat}{R:PySem.Fin->Q3->Prop}{ks:List (Int×Int)}{κ:SortKind}
theorem yz{ks:List Q2}{Q:SortSt->Q3->Prop}{G:Array Nat->Q3->Prop}(hl:ks.length=vs.length)(h2:2<=vs.length)(hmr:minRun' vs.length vs.length 0<=vs.length)
  (hG:∀p st' s',p.size=vs.length->arrOf st'=p.map (kas_item (ks.toArray.zip vs.toArray))->failedOf st'=none->G p s'->Q st' s') (h:(kas_count vs.length (ZJ (Qz vs.length))).kasWp (kas_ask prog w A κ ks) (fun r s'=>r.1=vs.length/\G r.2 s') s) :
  wpAny (Qj prog w) A ((sortRuns').run (SortSt.mk' κ (ks.toArray.zip vs.toArray) #[] 7 none)) (fun r s'=>Q r.2 s') E s:=by
 rw[kat_ask_eq hl]at h;have run:=vQ (E:=E) (Q:=fun _ st' s'=>Q st' s') h2 hmr hG h;have est:SortSt.mk' κ (ks.toArray.zip vs.toArray) #[] 7 none=kas_st κ (ks.toArray.zip vs.toArray) (ZJ (Qz vs.length)):=by
  have e:=kas_range (ks.toArray.zip vs.toArray);rw[show(ks.toArray.zip vs.toArray).size=vs.length by simp[hl]]at e;show SortSt.mk' κ (ks.toArray.zip vs.toArray) #[] 7 none=SortSt.mk' κ ((ZJ (Qz vs.length)).map (kas_item (ks.toArray.zip vs.toArray))) #[] 7 none;rw[e]
 rw[est];exact run
theorem vh(up:ks.Pairwise fun p q=>ltP q p=false):nB ks=Qz ks.length:=by
 have hasc:Asc (ltS (ltK ks)) (ZJ (Qz ks.length)) ks.length:=fun i j hij hj=>by
  have g:∀i,i<ks.length->(ZJ (Qz ks.length)).getD i 0=i:=fun i hi=>by simp[Array.getD,hi]
  rw[g i (by omega),g j hj,cG];refine .inr ⟨?_,hij⟩;have:=List.pairwise_iff_getElem.mp up i j (by omega) (by omega) hij;unfold ltK;rw[QH,QH,Q4 (show i<ks.length by omega),Q4 (show j<ks.length by omega)];exact this
 have:=vi qZ hasc;rw[<-this]
theorem yx(gk:s.heap.get? kS=some (seqObj "list" keys n2))(ga:s.heap.get? a=some (seqObj "list" #[] n1))(hka:kS≠a)(hp:fL s.heap keys.toList ks)(hl:ks.length=vs.length)(h200:vs.length=200)(up:ks.Pairwise fun p q=>ltP q p=false)
  (q:∀(h':Heap) (c:Nat),(∀b o,b≠a->b≠kS->s.heap.get? b=some o->h'.get? b=some o)->h'.objs.size=s.heap.objs.size->h'.get? a=some (seqObj "list" ((nB ks).map fun i=>vs.getD i Value.none).toArray c)->R (.done (.ret .none)) { s with heap:=h' }) :
  wpAny (Qj prog w) A (ksk_end a false vs.toArray n1 (.ref kS) keys) R E s:=by
 have lk:=j7 hp;rw[Qh]at lk;have zl:vs.length<=QD:=by unfold QD;omega
 unfold ksk_end;dsimp only;simp only[Qs,if_false,QF];have h2:¬vs.length<2:=by omega
 rw[if_neg h2,if_neg h2];have ek:keys=keys.toList.toArray:=by simp
 refine Q5 ?_;rw[ek];refine lU hp (by rw[Qh];omega) ?_;rw[<-ek];have hu:∀i,1<=i->i<vs.length->ltK ks i (i-1)=false:=fun i h1 h2=>by
  have:=List.pairwise_iff_getElem.mp up (i-1) i (by omega) (by omega) (by omega);unfold ltK;rw[QH,QH,Q4 (show i<ks.length by omega),Q4 (show i-1<ks.length by omega)];exact this
 refine Q5 (ZX (yz (ks:=keys.toList) (vs:=vs) (κ:=tuples' true) (Q:=fun st' s'=>∃p:Array Nat,arrOf st'=Array.map (kas_item (keys.toList.toArray.zip vs.toArray)) p/\failedOf st'=none/\s'=s/\p.size=vs.length/\p.toList=nB ks)
  (G:=fun p s'=>s'=s/\p.toList=nB ks) (by rw[Qh];omega) (by omega) (by rw[h200];decide) (fun p st' s' h1 h2 h3 h4=>⟨p,h2,h3,h4.1,h1,h4.2⟩) ?_) (fun r s' hr=>?_) fun _ _ e=>e)
 ·refine wF (lt:=ltK ks) (fun i j C hi hj hC=>?_) (by omega) hu ⟨rfl,rfl,?_⟩
  ·exact u9 (gn hp (by omega)) (gn hp (by omega)) hC
  ·rw[<-hl,vh up]
 ·obtain⟨u,st'⟩:=r;obtain⟨p,harr,hfail,rfl,hps,hpo⟩:=hr;have hout:=kat_snds (ks:=keys.toList) (vs:=vs) (by rw[Qh];omega) harr;refine mN gk ga hka (by omega) ?_ hfail fun h' c k z g=>q h' c k z ?_
  ·rw[harr,Array.size_map];omega
  ·rw[g,hout,hpo]
end
def w6(cb:CE)(su:U):List Int->Sto->Option (List (Int×Int)×Sto)
 |[],S=>some ([],S)
 |n::ns,S=>(cb [some (.int n),some su] S).bind fun r=>match r.1 with
  |.tup [.int x,.int y]=>(w6 cb su ns r.2).bind fun t=>some ((x,y)::t.1,t.2)
  |_=>none
def k8(ks:List (Int×Int))(ns:List Int):List Int:=(nB ks).map fun i=>ns.getD i 0
theorem jT{cb:CE}{su:U}:∀{ns:List Int} {S:Sto} {t:List (Int×Int)×Sto},w6 cb su ns S=some t->t.1.length=ns.length
 |[],S,t,h=>by cases h;rfl
 |n::ns,S,t,h=>by
  unfold w6 at h;obtain⟨⟨u,S1⟩,h1,h⟩:=Q0.mp h;dsimp only at h;split at h
  ·obtain⟨t',h2,h3⟩:=Q0.mp h;cases h3;simp[jT h2]
  ·cases h
def FT(K:Q1)(H:Hp)(v:Q2)(p:Int×Int):Prop:=∃b,v=.ref b/\SqT K H b [.int p.1,.int p.2]
theorem lW{X:Cx}{pins:List (Addr×Obj)}{σ:L2.St}{H:Hp}{s:Q3}(I:Inv X pins σ H s):∀{vs:List Q2} {ks:List (Int×Int)},Paired (FT X.K H) vs ks->fL s.heap vs ks
 |_,_,.nil=>trivial
 |_,_,.cons r t=>by
  refine⟨?_,lW I t⟩;obtain⟨b,rfl,sq⟩:=r;obtain⟨its,rv,⟨o,e,c,n,d⟩,_⟩:=I.tuple sq;match its,rv,d with
  |[_,_],.cons ⟨t1,rfl⟩ (.cons ⟨t2,rfl⟩ .nil),d=>exact⟨b,o,t1,t2,n,rfl,e,c,d⟩
theorem j9{α β:Type}{F:α->β->Prop}{a:α}{b:β}:∀{l1:List α} {l2:List β},Paired F l1 l2->F a b->Paired F (l1++[a]) (l2++[b])
 |_,_,.nil,h=>.cons h .nil
 |_,_,.cons r t,h=>.cons r (j9 t h)
section
variable{X:Cx}{body:PySem.Expr}{cb:CE}{scope:Zq}{params:Arguments}{x pa qual:Str}{k kr:Nat}{cx:Addr}
structure CN(X:Cx)(body:PySem.Expr)(cb:CE)(scope:Zq)(params:Arguments)(x pa qual:Str)(k kr:Nat)(cx:Addr):Prop where
 cel:X.env.cells.lookup x=some cx
 kin:X.env.kindOf x=some .cell
 nm:X.N[k]?=some x
 co:scope.isCoroutine=false
 gen:scope.isGenerator=false
 knd:scope.kind=.function
 nms:scope.names=[(pa,.local),(x,.free)]
 ne:pa≠x
 bnd:∀(cl:List (Str×Addr)) (pm c ctv u:Q2),bindArgs (kla_fn "<lambda>" qual params body scope cl pm c ctv) ⟨[u],[]⟩=pure [(pa,u)]
 bdy:∀(f:Addr) (cd:Q2) (A:Qa) (s:Q3) (H:Hp),dG kr (A.deeper (FE qual scope s.heap.objs.size f cd [(x,cx)]))->QE (cxL X.prog X.w X.K X.mg X.base [pa,x] qual scope f cd [(x,cx)] A X.stack s H) body cb
theorem yv{A:Qa}{pins:List (Addr×Obj)}{σ:L2.St}{ρ:Rho}{H:Hp}{s:Q3}{m:List Addr}{S S':Sto}{f c:Addr}{pm ctv:Q2}{n:Int}{t:Tok}{su u:U}{R:Q2->Q3->Prop}{E:Q2->Q3->Prop}(L:CN X body cb scope params x pa qual k kr cx)
  (hA:qC X.prog X.w X.K X.mg X.base A X.stack s H) (hr:dG (kr+1) A) (I:Inv X pins σ H s) (ho:s.heap.get? f=some (kla_obj "<lambda>" qual params body scope [(x,cx)] pm c ctv)) (hcd:s.heap.CodeRec (.ref c) qual)
  (sr:Sr X.K m S H) (lr:Lr X.K m H ρ σ) (hk:ρ[k]?=some (some su)) (h:cb [some (.int n),some su] S=some (u,S'))
  (q:∀v u' m' H' s',Inv X pins σ H' s'->bR v u'->Ext X.K m H m' H'->Sr X.K m' S' H'->Is X.K m' H' v u->R u' s'):wpAny (Qj X.prog X.w) A (call (.ref f) [.int n t]) R E s:=by
 obtain⟨sv,hs,iv⟩:=lr.at_ k su hk;obtain⟨mm,hmm,hl⟩:=I.loc;obtain⟨sval,rs,look⟩:=hl k x sv L.nm hs (.inr (.inl L.kin));have cel:s.heap.IsCell cx (some sval):=by
  rcases look with⟨z,_⟩|⟨_,c',e,z⟩
  ·rw[L.kin]at z;cases z
  ·rw[L.cel]at e;cases e;exact z
 have lk:∀y d,([(x,cx)]:List (Str×Addr)).lookup y=some d->y=x/\d=cx:=fun y d e=>by
  rw[ZF]at e;by_cases z:(y == x)=true
  ·rw[z]at e;cases e;exact⟨by simpa using z,rfl⟩
  ·rw[show(y == x)=false by simpa using z]at e;cases e
 have nx:(x == pa)=false:=by simpa using fun e=>L.ne e.symm
 have fr:scope.names.lookup x=some .free:=by rw[L.nms,ZF,nx];simp
 refine wpAny_call (codeAny_mono (B9 (p:=pa) (capN:=[x]) (vc:=[sv]) (v:=.int n) (te:=tE X.K cb) (Q:=fun v H'=>∃m',Ext X.K m H m' H'/\Sr X.K m' S' H'/\Is X.K m' H' v u) hr.depth hA hr.hd ho hcd L.co L.gen L.knd (fun y hy=>?_) ?_ (L.bnd _ _ _ _ _) ⟨t,rfl⟩ (fun y z d a b=>(lk y d a).1.trans (lk z d b).1.symm) (fun y hy=>?_) (fun y d e=>?_) (.cons ⟨fr,cx,sval,?_,cel,rs⟩ .nil) (L.bdy f _ A s H (hr.deeper _)) ?_) fun r s' hr'=>?_)
 ·rw[L.nms]at hy;rcases QM.mp hy with e|hy
  ·rw[e];exact fun z=>nomatch z
  ·rw[QB.mp hy];exact fun z=>nomatch z
 ·rw[L.nms,ZF];simp
 ·rw[L.nms]at hy;simp only[ZF]at hy;by_cases z1:(y == pa)=true
  ·rw[z1]at hy;rcases hy with e|e<;>cases e
  ·rw[show(y == pa)=false by simpa using z1]at hy;by_cases z2:(y == x)=true
   ·exact⟨cx,by rw[ZF,z2]⟩
   ·rw[show(y == x)=false by simpa using z2]at hy;rcases hy with e|e<;>cases e
 ·obtain⟨rfl,rfl⟩:=lk y d e;exact⟨⟨_,cel⟩,I.freeC _ _ L.cel⟩
 ·rw[ZF];simp
 ·refine⟨m,[some (.int n),some su],S,u,S',sr,⟨rfl,fun i w e=>?_⟩,h,fun m' v H' e sr' i'=>⟨m',e,sr',i'⟩⟩;match i,e with
  |0,e=>simp at e;subst e;exact⟨_,rfl,.int_⟩
  |1,e=>simp at e;subst e;exact⟨_,rfl,iv⟩
  |i+2,e=>simp at e
 ·obtain⟨u',rfl,ce⟩:=hr';obtain⟨v,H',I',rv,m',e,sr',i'⟩:=I.after ce;exact q v u' m' H' s' I' rv e sr' i'
theorem y0{acc:Array Q2}{ns:List Int}{vs:List (Key×Q2)}(ks:vs.map (·.1)=ns.map Sum.inl)(h1:acc.size=vs.length)(h2:∀(i:Nat) (v:Q2),acc[i]?=some v->∃k x,vs[i]?=some (k,x)/\n4 k v=true):IntsAre acc.toList ns:=by
 have key:∀(i:Nat) (v:Q2),acc.toList[i]?=some v->∃(n:Int) (t:Tok),ns[i]?=some n/\v=Value.int n t:=fun i v e=>by
  obtain⟨k,x,e1,e2⟩:=h2 i v (by rw[<-Array.getElem?_toList];exact e);have e3:(vs.map (·.1))[i]?=some k:=by rw[Qu,e1];rfl
  rw[ks,Qu]at e3;obtain⟨n,e4,e5⟩:=ZK.mp e3;subst e5;rcases br (k:=Sum.inl n) e2 with⟨j,t,e6,e7⟩|⟨j,t,e6,e7⟩
  ·cases e6;exact⟨n,t,e4,e7⟩
  ·cases e6
 have hla:acc.toList.length=ns.length:=by have:=congrArg List.length ks;rw[Qh,h1];simpa using this
 clear h2 h1 ks;generalize acc.toList=l at key hla;induction l generalizing ns with
 |nil=>cases ns with
  |nil=>exact .nil
  |cons a b=>simp at hla
 |cons a b ih=>cases ns with
  |nil=>simp at hla
  |cons c d=>
   obtain⟨n,t,e1,e2⟩:=key 0 a (by simp);simp at e1;subst e1;subst e2;exact .cons _ t (ih (fun i v e=>by have:=key (i+1) v (by simpa using e);simpa using this) (by simpa using hla))
theorem _root_.L2.Inv.turnedC{X:Cx}{pins:List (Addr×Obj)}{σ:L2.St}{H:Hp}{s:Q3}{h':Heap}(ch:List Addr)(I:Inv X pins σ H s)(k:∀b o,b∉ch->s.heap.get? b=some o->h'.get? b=some o)
  (hc:∀b∈ch,H b=none/\b≠X.env.locals/\X.s₀.heap.objs.size<=b/\(∀x c,X.env.cells.lookup x=some c->c≠b)/\∀p∈X.pn++pins,p.1≠b):Inv X pins σ H { s with heap:=h' }:=by
 have nit:∀b u,H b=some u->b∉ch:=fun b u e z=>by rw[(hc b z).1]at e;cases e
 refine I.step (g':=s.gens) (d':=s.drawn) (t':=s.toks) (ch:=ch) (fun b hb=>⟨.inr (hc b hb).2.2.1,(hc b hb).2.1,(hc b hb).2.2.2.1,(hc b hb).2.2.2.2⟩) (fun b o _ _ hb e _=>k b o hb e) (fun b o _ _ hb e _=>⟨o.slots,k b o hb e⟩) (fun _ _ _ _ n=>n)
  (fun b o hb e=>⟨o,k b o hb e⟩) (fun _ _ e=>e) (fun _ _ _ e=>e) (fun b ps e=>⟨#[],by rw[e];simp⟩) (fun m hm=>?_) (fun b u e=>?_) I.bare
 ·obtain⟨o,es,ep,ho,r⟩:=hm;exact⟨o,es,ep,k _ o (fun z=>(hc _ z).2.1 rfl) ho,r⟩
 ·refine(I.hok b u e).stay (fun c v hc' q=>k c v ?_ q) (fun _ q=>q) fun _ _ q=>q;rcases hc' with rfl|z
  ·exact nit _ _ e
  ·exact nit _ _ z
def lA{a b:Nat}(h:a<b):a≠b:=Qy h
def pR{a b:Nat}(h:b<a):a≠b:=Nat.ne_of_gt h
abbrev lN(a b:Nat):Prop:=a<b
end
def qA(n:Nat)(ks:List (Int×Int)):Prop:=n<64\/n=200/\ks.Pairwise fun p q=>ltP q p=false
open Classical in
def sf(z:O)(k:Nat)(co cb:CE):CE:=fun ρ S=>(co ρ S).bind fun r=>match r.1 with
 |.ref l=>match r.2[l]? with
  |some (.dic kus)=>(mM kus).bind fun ns=>if ∃j:Nat,r.2[j]?=some z then(ρ[k]?).join.bind fun su=>(w6 cb su ns r.2).bind fun t=>if qA ns.length t.1 then some (.ref t.2.length,t.2++[.lst ((k8 t.1 ns).map U.int)])else none else none
  |_=>none
 |_=>none
theorem yw{prog:Qv}{w:Qe}{A:Qa}{E:Q2->Q3->Prop}{s:Q3}{a kS:Addr}{vs:List Q2}{keys:Array Q2}{n1 n2:Nat}{R:PySem.Fin->Q3->Prop}{ks:List (Int×Int)}(gk:s.heap.get? kS=some (seqObj "list" keys n2))(ga:s.heap.get? a=some (seqObj "list" #[] n1))(hka:kS≠a)(hp:fL s.heap keys.toList ks)(hl:ks.length=vs.length)(h64:qA vs.length ks)
  (q:∀(h':Heap) (c:Nat),(∀b o,b≠a->b≠kS->s.heap.get? b=some o->h'.get? b=some o)->h'.objs.size=s.heap.objs.size->h'.get? a=some (seqObj "list" ((nB ks).map fun i=>vs.getD i Value.none).toArray c)->R (.done (.ret .none)) { s with heap:=h' }) :
  wpAny (Qj prog w) A (ksk_end a false vs.toArray n1 (.ref kS) keys) R E s:=by
 rcases h64 with h|⟨h1,h2⟩
 ·exact Cb gk ga hka hp hl h q
 ·exact yx gk ga hka hp hl h1 h2 q
section
variable{X:Cx}{body:PySem.Expr}{cb:CE}{scope:Zq}{params:Arguments}{x pa qual:Str}{k kr:Nat}{cx:Addr}
theorem vM{A:Qa}{pins:List (Addr×Obj)}{σ:L2.St}{ρ:Rho}{H:Hp}{s:Q3}{m:List Addr}{S Sn:Sto}{f c a kS:Addr}{pm ctv:Q2}{su:U}{E:Q2->Q3->Prop}{vs:List Q2}{ns:List Int}{ks:List (Int×Int)}{e1:Nat}{oc:Obj}{R:PySem.Fin->Q3->Prop}(L:CN X body cb scope params x pa qual k kr cx)
  (hE:∀s H,qC X.prog X.w X.K X.mg X.base X.A X.stack s H->qC X.prog X.w X.K X.mg X.base A X.stack s H) (hr:dG (kr+1) A) (I:Inv X ((f,kla_obj "<lambda>" qual params body scope [(x,cx)] pm c ctv)::(a,seqObj "list" #[] e1)::pins) σ H s) (hc:H c=some (.frz oc (.own 0))) (hcd:s.heap.CodeRec (.ref c) qual)
  (sr:Sr X.K m S H) (lr:Lr X.K m H ρ σ) (hk:ρ[k]?=some (some su)) (h:w6 cb su ns S=some (ks,Sn)) (hI:IntsAre vs ns) (h64:qA vs.length ks) (hvl:vs.length<=200) (gk:s.heap.get? kS=some (seqObj "list" #[] 0)) (nk:H kS=none) (hka:kS≠a) (h0:X.s₀.heap.objs.size<=kS) (hL:kS≠X.env.locals) (hce:∀y d,X.env.cells.lookup y=some d->d≠kS) (hp:∀q∈X.pn++pins,q.1≠kS) (hf:f≠kS)
  (q:∀m' H' s' h' c',Inv X ((f,kla_obj "<lambda>" qual params body scope [(x,cx)] pm c ctv)::(a,seqObj "list" #[] e1)::pins) σ H' s'->Ext X.K m H m' H'->Sr X.K m' Sn H'->H' kS=none->(∀b o,b≠a->b≠kS->s'.heap.get? b=some o->h'.get? b=some o)->h'.objs.size=s'.heap.objs.size->h'.get? a=some (seqObj "list" ((nB ks).map fun i=>vs.getD i Value.none).toArray c')->R (.done (.ret .none)) { s' with heap:=h' }) :
  wpAny (Qj X.prog X.w) A (ksk_rest a (.ref f) false vs.toArray e1 (.ref kS)) R E s:=by
 have lk:=jT h;have lv:=hI.length;dsimp only at lk;unfold ksk_rest;refine Q5 (wpAny_rule ?_);rw[List.forIn_toArray];refine Q5 (ksk_fold (fun i s'=>∃m' S' H' kA e,Inv X ((f,kla_obj "<lambda>" qual params body scope [(x,cx)] pm c ctv)::(a,seqObj "list" #[] e1)::pins) σ H' s'/\Ext X.K m H m' H'/\Sr X.K m' S' H'/\w6 cb su (ns.drop i) S'=some (ks.drop i,Sn)/\s'.heap.get? kS=some (seqObj "list" kA e)/\H' kS=none/\Paired (FT X.K H') kA.toList (ks.take i)) vs 0 s
  ⟨m,S,H,#[],0,I,.refl,sr,h,gk,nk,.nil⟩ ?_ ?_)
 ·rintro j v s' hv ⟨m',S',H',kA,e,I',ex,sr',run,gk',nk',pr⟩;simp only[Nat.zero_add]at run pr ⊢;have hj:j<vs.length:=(Q6.mp hv).1;have hjn:j<ns.length:=by omega
  obtain⟨t,ht⟩:=hI.get j ns[j] (Q4 hjn);rw[hv]at ht;cases ht;rw[List.drop_eq_getElem_cons hjn]at run;unfold w6 at run;obtain⟨⟨u,S1⟩,r1,run⟩:=Q0.mp run;dsimp only at run;split at run<;>try cases run
  rename_i y z;obtain⟨t2,r2,r3⟩:=Q0.mp run;have hjk:j<ks.length:=by omega
  rw[List.drop_eq_getElem_cons hjk]at r3;injection r3 with r3;obtain⟨e2,e3⟩:=Prod.mk.inj r3;obtain⟨e4,e5⟩:=List.cons.inj e2;have gc:=(I'.hok c _ (ex.keep.c _ _ hc)).1;have hcd':s'.heap.CodeRec (.ref c) qual:=by
   obtain⟨c2,o2,vs2,t3,z1,z2,z3⟩:=hcd;cases z1;rw[(I.hok c _ hc).1]at z2;cases z2;exact⟨c,oc,vs2,t3,rfl,gc,z3⟩
  have pf:=I'.pin _ (QR _ (QZ));refine Q5 (wpAny_attempt (ZX (yv (E:=fun _ _=>False) L (hE _ _ I'.env0) hr (I'.pins_of (pins':=(kS,seqObj "list" kA e)::(f,kla_obj "<lambda>" qual params body scope [(x,cx)] pm c ctv)::(a,seqObj "list" #[] e1)::pins) fun p hp'=>?_) pf.1 hcd' sr' (lr.mono ex) hk r1 (R:=fun u' s2=>∃v m2 H2,Inv X ((kS,seqObj "list" kA e)::(f,kla_obj "<lambda>" qual params body scope [(x,cx)] pm c ctv)::(a,seqObj "list" #[] e1)::pins) σ H2 s2/\bR v u'/\Ext X.K m' H' m2 H2/\Sr X.K m2 S1 H2/\Is X.K m2 H2 v (.tup [.int y,.int z])) fun v u' m2 H2 s2 a1 a2 a3 a4 a5=>⟨v,m2,H2,a1,a2,a3,a4,a5⟩) (fun u' s2 hq=>?_) fun _ _ z=>z.elim))
  ·rcases QM.mp hp' with z|hp'
   ·subst z;exact⟨gk',nk',hL,fun w=>by
     obtain⟨_,o,ho,_⟩:=I.ok.funs.mem w;exact absurd (Qq (QK ho) h0) (ZC _),fun w z=>nomatch z⟩
   ·exact I'.pin p (QR _ hp')
  ·obtain⟨v,m2,H2,I2,rv,ex2,sr2,iv⟩:=hq;obtain⟨b,xs,rfl,sq,il⟩:=iv.of_tup;obtain rfl:u'=.ref b:=rv;have hxs:xs=[.int y,.int z]:=(il.ints (ns:=[y,z]));subst hxs;obtain⟨gk2,nk2,_⟩:=I2.pin _ (QR _ (QZ));have zk:kA.size<=vs.length:=by
    have:=pr.length;rw[Qh,List.length_take]at this;omega
   have u1:=Heap.SameBut.update s2.heap kS (Obj.mapSeq (·.push (.ref b)));dsimp only;refine Q5 (listUpdate_at gk2 rfl (QL ⟨rfl,m2,S1,H2,kA.push (.ref b),_,?_,ex.trans ex2,sr2,?_,get?_update_seq gk2 (·.push (.ref b)),nk2,?_⟩) (by unfold QD;omega) (Qb (Nat.le_of_eq (Array.size_push ..)) (by unfold QD;omega)))
   ·have I3:Inv X ((f,kla_obj "<lambda>" qual params body scope [(x,cx)] pm c ctv)::(a,seqObj "list" #[] e1)::pins) σ H2 s2:=I2.pins_of fun p hp'=>I2.pin p (QR _ (QQ _ hp'));refine I3.turned (t':=s2.toks) (it:=kS) (fun b o nb e=>(u1.2 b nb).trans e) nk2 hL (.inr h0) hce fun p hp'=>?_;rcases Qw.mp hp' with w|w
    ·exact hp p (ZZ _ w)
    ·rcases QM.mp w with w|w
     ·rw[w];exact hf
     ·rcases QM.mp w with w|w
      ·rw[w];exact Ne.symm hka
      ·exact hp p (QR _ w)
   ·rw[<-e5,<-e3];exact r2
   ·rw[List.take_add_one,Q4 hjk,<-e4];simp only[Option.toList_some,Array.toList_push];exact j9 (Paired.mapP pr fun v p ⟨b,z1,z2⟩=>⟨b,z1,ex2.keep.t _ _ z2⟩) ⟨b,rfl,sq⟩
 ·rintro s' ⟨m',S',H',kA,e,I',ex,sr',run,gk',nk',pr⟩;simp only[Nat.zero_add]at run pr;rw[show ns.drop vs.length=[]from List.drop_eq_nil_of_le (by omega),show ks.drop vs.length=[]from List.drop_eq_nil_of_le (by omega)]at run;unfold w6 at run;injection run with run;obtain⟨_,e3⟩:=Prod.mk.inj run;subst e3;rw[List.take_of_length_le (by omega)]at pr;have pa':=I'.pin _ (QR _ (QQ _ (QZ)));refine Q5 (listItems_at gk' rfl (yw gk' pa'.1 hka (lW I' pr) (by omega) h64 fun h' c' k1 k2 k3=>q m' H' s' h' c' I' ex sr' nk' k1 k2 k3))
theorem Bt{o:PySem.Expr}{co:CE}{c p:Addr}{p1 lpos kpos pos:Pos}(L:CN X body cb scope params x pa (X.env.qual++"<lambda>") k kr cx)(hr:dG (kr+3) X.A)(hcm:X.calm=true)(hg:Gl X "sorted")(hm:X.mg "sorted"=none)(hv:Z7 "sorted"=some (.builtin "sorted"))(ho:QE X o co)
  (hcode:X.env.code=.ref c) (C:codeHdIn X.K c p=true) (B:wY X.mg X.base) (hcl:closureFor scope X.env=pure [(x,cx)]) (hdef:defaultsOf params X.env=([],[]))
  (he:QJ [o] X.env=(false,eval o X.env)::QJ [] X.env:=by rfl) (hpl:(ZQ pos (QJ [o] X.env)).any (·.1)=false:=by rfl) :
  QE X (.Call (.Name "sorted" p1) [o] [⟨some "key",.Lambda params body scope lpos,kpos⟩] pos) (sf (.cod p lpos (X.env.qual++"<lambda>")) k co cb):=⟨fun pins s σ H Q I hz=>jO hz fun m ρ S u S' sr lr hc post=>by
 obtain⟨⟨w,S1⟩,h1,hc⟩:=Q0.mp hc;dsimp only at hc;split at hc<;>try cases hc
 rename_i l;split at hc<;>try cases hc
 rename_i kus hS;obtain⟨ns,hn,hc⟩:=Q0.mp hc;split at hc<;>try cases hc
 rename_i cond;obtain⟨j,hj⟩:=cond;obtain⟨su,hk,hc⟩:=Q0.mp hc;obtain⟨⟨ks,Sn⟩,run,hc⟩:=Q0.mp hc;dsimp only at hc;have h64:qA ns.length ks:=Classical.byContradiction fun z=>by rw[if_neg z]at hc;cases hc
 have hvl:ns.length<=200:=by rcases h64 with z|z<;>omega
 rw[if_pos h64]at hc;injection hc with hc;obtain⟨rfl,rfl⟩:=Prod.mk.inj hc;have hk':ρ[k]?=some (some su):=Option.join_eq_some_iff.mp hk;refine wpAny_Call_Name_kw (kq I hg hm hv (callWith_kw (thn ((ae ho ax he).h.h pos pins s σ H (fun vs H1=>∃m1,Ext X.K m H m1 H1/\Sr X.K m1 S1 H1/\IsL X.K m1 H1 vs [.ref l]) I ⟨m,ρ,S,[.ref l],S1,sr,lr,?_,fun m1 vs H1 e sr1 i1=>⟨m1,e,sr1,i1⟩⟩) fun us s1 hu=>?_) (by rw[he];rfl) hpl))
 ·simp[ag,aG,h1]
 obtain⟨vs,H1,I1,rv,m1,e1,sr1,il⟩:=hu;obtain⟨v,rfl,iv⟩:=il.one;obtain⟨ad,had,rfl⟩:=iv.of_ref;obtain⟨uv,rfl,ru⟩:=k7 rv;obtain rfl:uv=.ref ad:=ru;obtain⟨aj,haj,rfl,ps,hps,htr,hit⟩:=sr1.get hj;have kI:X.K.In X.base:=I.mod.kin;refine kws_cons (kla_eval hdef (yu I1 hcode (codeHd_of_K kI C) B hps htr hcl hit fun f c' pm ctv ps' H2 s2 I2 hsz nf gf hcd keep hp2 ht2 hit2 rest hnc=>kws_nil ?_));obtain⟨oc,vsc,tc,ha1,ha2,ha3,ha4⟩:=hit2;have st:Ext X.K m1 H1 m1 H2/\Sr X.K m1 S1 H2:=by
  rcases hnc with hnc|rfl
  ·have ncp:c'≠aj:=fun z=>by rw[z,hps]at hnc;cases hnc
   have eH:H2=upd (upd H1 c' (.frz oc (.own 0))) aj (.tbl ps'):=by
    funext b;by_cases b1:b=aj
    ·subst b1;rw[aA];exact hp2
    ·rw[aB b1];by_cases b2:b=c'
     ·subst b2;rw[aA];exact ha2
     ·rw[aB b2];exact rest b b1 b2
   have sA:=ft (o:=.frz oc (.own 0)) hnc;have srA:=sr1.same sA;have srB:=srA.put (ho:=.tbl ps') (o:=.cod aj lpos (X.env.qual++"<lambda>")) haj ⟨rfl,ps',aA,ht2,.inr ⟨c',oc,vsc,tc,ha1,by rw[aB ncp,aA],ha3,ha4⟩⟩;have eS:S1.set j (.cod aj lpos (X.env.qual++"<lambda>"))=S1:=by
    obtain⟨hlt,e⟩:=Q6.mp hj;rw[<-e];exact List.set_getElem_self hlt
   rw[eS]at srB;rw[eH];exact⟨Ext.trans (.of (cu sA)) (.of (srA.keep haj _)),srB⟩
  ·exact⟨.refl,sr1⟩
 obtain⟨e2,sr2⟩:=st;obtain⟨ad',had',kvs,hD,ip⟩:=sr2.get hS;rw[had]at had';cases had';obtain⟨z,hd,vd,rel,dd⟩:=wy I2.hok hD;obtain⟨ep,da⟩:=dd.dictAt;have hkk:kvs.map (·.1)=ns.map Sum.inl:=by rw[ip.1,mL hn]
 have lkv:kvs.length=ns.length:=by have:=congrArg List.length hkk;simpa using this
 have lv:vd.length=ns.length:=by rw[<-Paired.length rel];exact lkv
 have kd:vd.map (·.1)=ns.map Sum.inl:=by rw[<-hkk];exact pX rel
 show wpAny (Qj X.prog X.w) X.A (call (.builtin "sorted") [.ref ad] [(Str.ofString "key",.ref f)]) _ _ s2;refine call_function_entry_kw kind_sorted plain_sorted entry_sorted (ksk_s1 _ _) ?_;unfold Builtin.«sorted»;refine Q5 (m:=checkCount "sorted" 1 1 _) (QL (Q5 (PySem.W.kdu_collect (PySem.W.kdl_dict (kvs:=vd) (ep:=ep) hd) (show X.A.in1.handled=none from I.ok.hd hcm) da (by rw[lv,<-lkv];exact z) fun h1' tk acc up hac=>?_)));have hI:=y0 kd hac.1 hac.2;have hla:acc.toList.length=ns.length:=hI.length;have I3:Inv X pins σ H2 { s2 with heap:=h1',toks:=tk }:=I2.kept up;refine Q5 (wpAny_newList ?_ (by rw[hla,<-lkv];exact z));have gL:(h1'.push { cls:=.type "list",data:=.seq acc.toList.toArray }).get? h1'.objs.size=some (seqObj "list" acc.toList.toArray 0):=Qx _ rfl;refine Q5 (wpAny_holding (wpAny_call_entry_kw slot_list_sort ⟨_,gL,rfl⟩ entry_list_sort ?_ (ksk_l1 _ _)));rw[ksk_t1];generalize ea:h1'.objs.size=a at *;have zl:acc.toList.length<=QD:=by unfold QD;omega
 unfold ksk_tree;obtain⟨n1,g1⟩:∃n1,((h1'.push { cls:=.type "list",data:=.seq acc.toList.toArray }).update a (Obj.mapSeq fun _=>#[])).get? a=some (seqObj "list" #[] n1):=⟨_,get?_update_seq gL fun _=>#[]⟩;refine Q5 (listItems_at gL rfl (Q5 (listUpdate_at gL rfl (Q5 (seqEpoch_at g1 rfl (Q5 (wpAny_newTuple (Q5 (wpAny_newList (wpAny_holding ?_) (Z6 _))) (by simpa using zl))))) (by simpa using zl) (Z6 _))));have sz:((h1'.push { cls:=.type "list",data:=.seq acc.toList.toArray }).update a (Obj.mapSeq fun _=>(#[]:Array Q2))).objs.size=a+1:=by rw[Heap.size_update,Zy,ea]
 generalize eh:(((h1'.push { cls:=.type "list",data:=.seq acc.toList.toArray }).update a (Obj.mapSeq fun _=>(#[]:Array Q2))))=h2 at *;have keep2:∀b o,h1'.get? b=some o->h2.get? b=some o:=fun b o e=>by
  have lt:=QK e;rw[<-eh,Heap.get?_update_ne _ _ _ _ (lA (by rw[<-ea];exact lt))];exact Q7 _ e
 have keep4:∀b o,h1'.get? b=some o->((h2.push (seqObj "tuple" acc.toList.toArray 0)).push (seqObj "list" #[] 0)).get? b=some o:=fun b o e=>Q7 _ (Q7 _ (keep2 b o e));have szk:(h2.push (seqObj "tuple" acc.toList.toArray 0)).objs.size=a+2:=by rw[Zy,sz]
 have I4:Inv X pins σ H2 { s2 with heap:=(h2.push (seqObj "tuple" acc.toList.toArray 0)).push (seqObj "list" #[] 0),toks:=tk }:=I3.kept keep4;have loc:lN X.env.locals a:=by have:=I3.lt;rw[<-ea];exact this
 have s0:@LE.le Nat _ X.s₀.heap.objs.size a:=by have:=I3.sz;rw[<-ea];exact this
 have cel:∀y d,X.env.cells.lookup y=some d->lN d a:=fun y d e=>by
  obtain⟨v,o,ho,_⟩:=I3.cell y d e;rw[<-ea];exact QK ho
 have pnl:∀q∈X.pn++pins,lN q.1 a:=fun q hq=>by rw[<-ea];exact QK (I3.pin q hq).1
 have frl:∀b:Nat,@LE.le Nat _ a b->b∉X.fs:=fun b hb w=>by
  obtain⟨_,o,ho,_⟩:=I.ok.funs.mem w;exact absurd (Qq (QK ho) (Qb s0 hb)) (ZC _)
 have fa:lN f a:=by rw[<-ea];exact QK (up _ _ gf)
 have ff:f∉X.fs:=fun w=>by
  obtain⟨_,o,ho,_⟩:=I.ok.funs.mem w;exact absurd (Qq (QK ho) (Qb I1.sz hsz)) (ZC _)
 have fl:f≠X.env.locals:=pR (Qq I1.lt hsz);have I5:=I4.pins_of (pins':=(f,kla_obj "<lambda>" (X.env.qual++"<lambda>") params body scope [(x,cx)] pm c' ctv)::(a,seqObj "list" #[] n1)::pins) fun q hq=>by
  rcases QM.mp hq with w|hq
  ·subst w;exact⟨keep4 _ _ (up _ _ gf),nf,fl,ff,fun v z=>nomatch z⟩
  ·rcases QM.mp hq with w|hq
   ·subst w;exact⟨Q7 _ (Q7 _ g1),I3.hok.fresh (by rw[ea];exact Q8 _),pR loc,frl a (Q8 _),fun v z=>nomatch z⟩
   ·exact I4.pin q (QR _ hq)
 have hcd4:((h2.push (seqObj "tuple" acc.toList.toArray 0)).push (seqObj "list" #[] 0)).CodeRec (.ref c') (X.env.qual++"<lambda>"):=⟨c',oc,vsc,tc,rfl,keep4 _ _ (up _ _ (I2.hok c' _ ha2).1),ha3,ha4⟩;refine vM (E:=X.xe) (s:={ s2 with heap:=(h2.push (seqObj "tuple" acc.toList.toArray 0)).push (seqObj "list" #[] 0),toks:=tk }) L (fun s H e=>e.in1.in1) hr.in1.in1 I5 ha2 hcd4 sr2 ((lr.mono e1).mono e2) hk' run hI (hla.symm▸h64) (by omega) (kS:=(h2.push (seqObj "tuple" acc.toList.toArray 0)).objs.size) (Qx _ rfl) (I3.hok.fresh (show @LE.le Nat _ h1'.objs.size _ by rw[ea,szk];omega)) (pR (by rw[szk];omega)) (show @LE.le Nat _ _ _ by rw[szk];omega) (pR (by rw[szk];omega)) (fun y d e=>lA (by rw[szk];have:=cel y d e;omega)) (fun q hq=>lA (by rw[szk];have:=pnl q hq;omega)) (lA (by rw[szk];omega)) fun m3 H3 s3 h3 c3 I6 e3 sr3 nk3 k1 k2 k3=>?_;refine⟨_,rfl,QL ⟨_,rfl,?_⟩⟩;have pa':=I6.pin (a,seqObj "list" #[] n1) (QR _ (QQ _ QZ));have I7:Inv X pins σ H3 s3:=I6.pins_of fun q hq=>I6.pin q (QR _ (QQ _ (QQ _ hq)));have I8:Inv X pins σ H3 { s3 with heap:=h3 }:=Inv.turnedC [a,(h2.push (seqObj "tuple" acc.toList.toArray 0)).objs.size] I7 (fun b o hb e=>k1 b o (fun z=>hb (by simp[z])) (fun z=>hb (by simp[z])) e) fun b hb=>by
  rcases QM.mp hb with w|hb
  ·subst w;exact⟨pa'.2.1,pR loc,s0,fun y d e=>lA (cel y d e),fun q hq=>lA (pnl q hq)⟩
  ·rw[QB.mp hb,szk];exact⟨by rw[<-szk];exact nk3,pR (by omega),show @LE.le Nat _ _ _ by omega,fun y d e=>lA (by have:=cel y d e;omega),fun q hq=>lA (by have:=pnl q hq;omega)⟩
 have lo:∀i∈nB ks,i<ns.length:=fun i hi=>by
  have:=ZY.mp ((d6 ks).mem_iff.mp hi);rw[jT run]at this;exact this
 have vl:bD ((k8 ks ns).map V.int) ((nB ks).map fun i=>acc.toList.getD i Value.none):=by
  unfold k8;generalize nB ks=is at lo;induction is with
  |nil=>exact .nil
  |cons i r ih=>
   refine .cons ?_ (ih fun b hb=>lo b (QQ _ hb));have hi:=lo i QZ;obtain⟨t,ht⟩:=hI.get i ns[i] (Q4 hi);dsimp only;rw[QH,QH,ht,Q4 hi];exact⟨t,rfl⟩
 have lz:((k8 ks ns).map V.int).length<=QD:=by
  have:=(d6 ks).length_eq;rw[List.length_range,jT run]at this;rw[QV];unfold k8;rw[QV,this];unfold QD;omega
 have I9:=I8.adopt (c:=a) (u:=.lst ((k8 ks ns).map V.int)) ⟨lz,_,c3,vl,k3⟩ pa'.2.1 s0 (pR loc) (fun y d e=>lA (cel y d e)) (fun q hq=>lA (pnl q hq));exact⟨.ref a,_,I9,rfl,cV sr3 (jX _) (post.mono (((e1.trans e2).trans e3))) pa'.2.1⟩⟩
end
end OP
namespace L2
open PySem PySem.Spec PyProof.Rows OG
def y9(p:Addr)(H:Hp):Prop:=H p=some (.tbl #[])/\∀b,b≠p->H b=none\/∃o xs,H b=some (.frz o (.lst xs))
theorem vH{P:Qv}{w:Qe}{K:Q1}{mg mb:Str->Option Q2}{k:Nat}{fa a p:Addr}{fd:ZN}{x:Str}{sp:Sp}{s₁:Q3}{vs:List Q2}{ns:List Int}
  (KX:K.In s₁.heap) (hns:s₁.heap.Ns mainGlobals mg) (hb:s₁.heap.Ns builtinsNs mb) (hbb:∀x:Str,x≠"__name__"->mb x=Z7 x) (hlim:s₁.heap.NoLimit) (hg:s₁.gens=#[]) (hbm:wY mg s₁.heap)
  (hp:s₁.heap.get? p=some (PySem.W.tabObj #[])) (hpK:K.lookup p=none) (hpc:isCodeTable s₁.heap p)
  (ha:s₁.heap.get? a=some { cls:=.type "list",data:=.seq vs.toArray }) (hi:IntsAre vs ns) (hl:ns.length<=QD) (hr:dG k callerA)
  (F:∀base:Heap,K.In base->base.Ns mainGlobals mg->wY mg base->jx P w K mg base CX0 k fa fd [x] sp) (hbind:∀(s:Q3) (u:Q2),BindsTo s fd ⟨[u],[]⟩ [(x,u)])
  (hsp:∀H:Hp,y9 p H->SqL K H a (ns.map V.int)->sp [.ref a] H (fun v _=>v=.bl true) fun _ _ _=>False) :
  codeAny (Qj P w) callerA (.call (.ref fa) ⟨[.ref a],[]⟩) (fun r s'=>r=.ok (.ret (.bool true))/\OldK s₁.heap s'.heap/\s'.os=s₁.os/\AllBare s'.gens) s₁:=by
 have rv:=fR hi;have lenV:=hi.length;have nap:a≠p:=fun z=>by rw[z,hp]at ha;cases ha
 have core:∀H:Hp,y9 p H->SqL K H a (ns.map V.int)->HOk P w H s₁.heap->(∀b,H b≠none->b=a\/b=p)->(H a≠none->K.lookup a=none)->
   codeAny (Qj P w) callerA (.call (.ref fa) ⟨[.ref a],[]⟩) (fun r s'=>r=.ok (.ret (.bool true))/\OldK s₁.heap s'.heap/\s'.os=s₁.os/\AllBare s'.gens) s₁:=by
  intro H hO hS hok hA hK;have noA:∀{b:Addr} {o:Obj},s₁.heap.get? b=some o->(∀its n,o.data≠.seq its n)->(∀vs,o.data≠.fields vs)->H b=none:=fun{b o} e d1 d2=>by
   cases q:H b with
   |none=>rfl
   |some u=>
    rcases hA b (by rw[q];simp)with z|z
    ·subst z;rw[ha]at e;cases e;exact absurd rfl (d1 _ _)
    ·subst z;rw[hp]at e;cases e;exact absurd rfl (d2 _)
  have nsK:∀{b:Addr} {m:Str->Option Q2},s₁.heap.Ns b m->(yD s₁.heap H).Ns b m:=fun{b m} ⟨o,es,ep,e,d,r⟩=>⟨o,es,ep,mR e (noA e (by rw[d];intro _ _ z;cases z) (by rw[d];intro _ z;cases z)),d,r⟩;have hKb:K.In (yD s₁.heap H):=fun b o e=>mR (KX b o e) (by
   cases q:H b with
   |none=>rfl
   |some u=>
    rcases hA b (by rw[q];simp)with z|z
    ·subst z;rw[hK (by rw[q];simp)]at e;cases e
    ·subst z;rw[hpK]at e;cases e)
  have hM:Mod K mg (yD s₁.heap H):=⟨hKb,nsK hns,⟨mb,nsK hb,hbb⟩,let ⟨mc,h1,h2⟩:=hlim;⟨mc,nsK h1,h2⟩⟩;have hB:wY mg (yD s₁.heap H):=by
   obtain⟨bm,ob,b1,b2,b3,b4,b5,b6⟩:=hbm;exact⟨bm,ob,b1,b2,mR b3 (noA b3 (by rw[b6];intro _ _ z;cases z) (by rw[b6];intro _ z;cases z)),b4,b5,b6⟩
  have e0:qC P w K mg (yD s₁.heap H) callerA [] s₁ H:=⟨rfl,hM,fun b o e=>B0 e,Nat.le_of_eq (vZ _ _),trivial,fun b hb=>absurd (show b∈([]:List Addr)from hb) (by simp),hok,.of_eq hg⟩;refine codeAny_mono ((F _ hKb (nsK hns) hB).run callerA [] s₁ H ⟨[.ref a],[]⟩ [.ref a] [.ref a] _ _ hr e0 (hbind s₁ (.ref a)) (.cons rfl .nil) (hsp H hO hS)) fun r s' h=>?_;cases r with
  |error e=>exact h.elim
  |ok fl=>
   cases fl with
   |next=>exact False.elim h
   |brk=>exact False.elim h
   |cont=>exact False.elim h
   |ret u=>
    obtain⟨v,H',os,bare,un,hok',r',q⟩:=h;have q':v=.bl true:=q;subst q';obtain rfl:u=Value.bool true:=r';have kp:∀b o,b≠p->s₁.heap.get? b=some o->s'.heap.get? b=some o:=fun b o nb e=>by
     cases q:H b with
     |none=>exact un.keep b o e q (by intro z;exact absurd (show b∈([]:List Addr)from z) (by simp)) (by simp)
     |some u=>
      rcases hO.2 b nb with z|⟨ob,xs,z⟩
      ·rw[q]at z;cases z
      ·have z2:=un.frzs b ob _ z;obtain⟨e1,_⟩:=hok b _ z;obtain⟨e2,_⟩:=hok' b _ z2;rw[e]at e1;cases e1;exact e2
    obtain⟨more,hm⟩:=un.tbls p _ hO.1;have gp:s'.heap.get? p=some { cls:=.none,data:=.fields (#[]++more) }:=hok' p _ hm;refine⟨rfl,⟨fun b o e=>?_,fun b o e=>?_⟩,os,bare⟩
    ·by_cases z:b=p
     ·subst z;rw[hp]at e;cases e;exact .inr (.inl ⟨hpc,rfl,#[],more,rfl,gp⟩)
     ·exact .inl (kp b o z e)
    ·by_cases z:b=p
     ·subst z;exact⟨_,gp⟩
     ·exact⟨o,kp b o z e⟩
 cases hk:K.lookup a with
 |some o=>
  have e:=KX a o hk;rw[ha]at e;cases e;refine core (upd (fun _=>none) p (.tbl #[])) ⟨aA,fun b nb=>.inl (by rw[aB nb])⟩ (.inr ⟨_,vs.toArray,_,hk,rfl,rfl,rfl,by rw[QF,lenV];exact hl,by simpa using rv⟩) (fun b u z=>?_) (fun b z=>?_) fun z=>absurd (by rw[aB nap]) z
  ·by_cases nb:b=p
   ·subst nb;rw[aA]at z;cases z;exact hp
   ·rw[aB nb]at z;cases z
  ·by_cases nb:b=p
   ·exact .inr nb
   ·exact absurd (by rw[aB nb]) z
 |none=>
  refine core (upd (upd (fun _=>none) a (.frz { cls:=.type "list",data:=.seq vs.toArray } (.lst (ns.map V.int)))) p (.tbl #[])) ⟨aA,fun b nb=>?_⟩ (.inl (.inr ⟨{ cls:=.type "list",data:=.seq vs.toArray },by rw[aB nap];exact aA⟩)) (fun b u z=>?_) (fun b z=>?_) fun _=>hk
  ·rw[aB nb];by_cases hb:b=a
   ·subst hb;exact .inr ⟨_,_,aA⟩
   ·exact .inl (by rw[aB hb])
  ·by_cases nb:b=p
   ·subst nb;rw[aA]at z;cases z;exact hp
   ·rw[aB nb]at z;by_cases hb:b=a
    ·subst hb;rw[aA]at z;cases z;exact⟨ha,by rw[QV];exact hl,vs,_,rv,ha⟩
    ·rw[aB hb]at z;cases z
  ·by_cases nb:b=p
   ·exact .inr nb
   ·rw[aB nb]at z;by_cases hb:b=a
    ·exact .inl hb
    ·exact absurd (by rw[aB hb]) z
theorem xB{l:PySem.W.OpenLaw}{n k:Nat}{q:Qv}{bZ:List Str}{XP:(Str->Option Q2)->Heap->Prop}{YP:Qe->Heap->Prop}{d:DefRec}{K:Params->Q1}{sp:Qe->Sp}{x:Str}{p:Addr}
  (hn:l.most=some n) (hn2:n<=QD) (hdf:d.params.defaults=[]) (hr:dG k callerA)
  (hY:∀(w:Qe) (h:Heap),YP w h->(K w.params).In h/\h.get? p=some (PySem.W.tabObj #[])) (hK:∀w:Qe,(K w.params).lookup p=none) (hC:∀w:Qe,∃c,PySem.W.codeHdIn (K w.params) c p=true)
  (F:∀(w:Qe) (mg:Str->Option Q2) (fa:Addr) (h:Heap),(K w.params).In h->h.Ns mainGlobals mg->mg d.name=some (.ref fa)->
   ∃fd:ZN,(∀(s:Q3) (u:Q2),BindsTo s fd ⟨[u],[]⟩ [(x,u)])/\
    ∀base:Heap,(K w.params).In base->base.Ns mainGlobals mg->wY mg base->jx l.prog w (K w.params) mg base CX0 k fa fd [x] (sp w))
  (hsp:∀(w:Qe) (H:Hp) (a:Addr) (ns:List Int),ns.length<=n->y9 p H->SqL (K w.params) H a (ns.map V.int)->sp w [.ref a] H (fun v _=>v=.bl true) fun _ _ _=>False) :
  PySem.W.WalkO q bZ XP YP l.row.toRowW d [] (fun f vs=>PySem.call f vs):=by
 refine Att.attach_call hn hdf fun w s₀ s₁ mg mb fa o pm cd doc a vs ns G Y ho hd hcd hmg hobj hints hlen hg=>?_;obtain⟨KX,hp⟩:=hY w _ Y;obtain⟨fd,hb,hF⟩:=F w mg fa _ KX G.T.g hmg;obtain⟨c,hc⟩:=hC w;have C:=PySem.W.codeHd_of_K KX hc;obtain⟨oc,vc,file,tf,flags,tg,inF,text,tt,c1,c2,c3,c4,_⟩:=C;exact vH KX G.T.g G.T.b G.T.builtins G.T.nolimit hg G.T.bmain hp (hK w) ⟨c,oc,vc,c1,c2,c3,c4⟩ hobj hints (Qb hlen hn2) hr hF hb fun H hO hS=>hsp w H a ns hlen hO hS
end L2
namespace OP
open PySem PySem.Spec PyProof PyProof.Rows L2 OG PySem.W
def qQ(p:Addr)(K:Q1):Sp:=fun vs H Q _=>∃(a:Addr) (ns:List Int),vs=[.ref a]/\KL K H a ns/\ns.length<=63/\H p=some (.tbl #[])/\∀H',Q (.bl true) H'
theorem E5{K:Q1}{H:Hp}{a p:Addr}{ns:List Int}(hO:y9 p H)(h:SqL K H a (ns.map V.int)):KL K H a ns:=by
 have no:∀xs,H a≠some (.lst xs):=fun xs e=>by
  by_cases z:a=p
  ·subst z;rw[hO.1]at e;cases e
  ·rcases hO.2 a z with q|⟨o,ys,q⟩
   ·rw[q]at e;cases e
   ·rw[q]at e;cases e
 rcases h with(h|h)|h
 ·exact absurd h (no _)
 ·exact .inl h
 ·exact .inr h
theorem yt{K:Q1}{H:Hp}{a p:Addr}{pos:Pos}{qual:Str}{ns:List Int}{c:CS}{r:Rho}{σ:L2.St}{Q:VK}{nx bk ct:L2.St->Hp->Prop}(h:KL K H a ns)(hp:H p=some (.tbl #[]))
  (ok:∃ρ' S',c (some (.kl ns)::r) [.cod p pos qual]=some (.rt (.bl true),ρ',S')) (q:∀H',Q (.bl true) H')
  (hr:r=QU r.length none:=by rfl) (hl:σ.length=r.length:=by rfl):tS K c { nx:=nx,rt:=Q,bk:=bk,ct:=ct } (some (.ref a)::σ) H:=by
 obtain⟨ρ',S',e⟩:=ok;refine⟨[p],_,_,_,ρ',S',⟨rfl,by simp,fun l ad o e1 e2=>?_⟩,⟨by simp[hl],fun i u e1=>?_⟩,e,fun m' v H' _ _ iv=>by rw[iv.of_bl];exact q H'⟩
 ·cases l with
  |zero=>
   simp at e1 e2;subst e1;subst e2;exact⟨rfl,#[],hp,trivial,.inl rfl⟩
  |succ l=>simp at e1
 cases i with
 |zero=>
  simp at e1;subst e1;exact⟨.ref a,rfl,.kl_ h⟩
 |succ i=>
  simp only[Zk]at e1;rw[hr,ZG]at e1;split at e1<;>cases e1
section
variable{P:Qv}{w:Qe}{K:Q1}{base:Heap}{mg:Str->Option Q2}{x q:Str}{st:Z0}{C c p:Addr}{ps N:List Str}{k:Nat}{cs:CS}{cl:Cl}
def CP(K:Q1)(C:Addr)(x:Str)(c p:Addr):Prop:=∃f o fd,PySem.W.findIn K (.ref C) x=some (some (.ref f))/\K.lookup f=some o/\o.data=.func fd/\fd.code=.ref c/\PySem.W.codeHdIn K c p=true
theorem MtD.pureC(d:MtD K cl.C x q st ps)(cd:CP K cl.C x c p)(S:aM N ps (aq st))
  (hb:∀(f:Addr) (A:Qa) (outer:List Env) (s:Q3) (H:Hp) (E:XK),dG k (A.deeper (envOfC q (aq st) s.heap.objs.size f (.ref c)))->WSs (oX CX0 P w K mg base N q (aq st) f (.ref c) A outer s H E).nox (cI st) (tS K cs)) :
  c6 P w K mg base cl x (k+1) ps (fnU N.length ps.length cs):=by
 obtain⟨fa,fd,F,b,m⟩:=d;obtain⟨oc,od,kV,doc,pm,an,cdv,ct,osl,rfl,lk,hcd⟩:=F.ex;obtain⟨f,o,fd2,z1,z2,z3,z4,z5⟩:=cd;have ef:f=fa:=by have:=m.at_;rw[z1]at this;cases this;rfl
 subst ef;rw[lk]at z2;cases z2;cases z3;have e:cdv=.ref c:=z4;subst e;refine⟨f,_,m,?_,b⟩;refine Fv lk hcd S (fun vs H Q E h=>my h) fun A outer s H vs Q E hr h=>⟨_,(hb f A outer s H E hr).h.nox,qe (X:=(oX CX0 P w K mg base N q (aq st) f (.ref c) A outer s H E).nox) (body:=[]) (ps:=ps) rfl h⟩
end
section
variable{X:Cx}
theorem mC{i₀:Nat}{x₀:Str}{pos₀ pos':Pos}{Nc capN tn:List Str}{scope:Zq}{cl:List (Str×Addr)}{n:Nat}{caps:List Nat}{tg iter elt:QC}{pos:Pos}{ci:CE}{g:CG}{ct:CT}{ce:CE}{c:PySem.Expr}
  (hc:X.calm=true) (hi:QE X iter ci) (hg:∀s3 H3 fp,WG (cxC X Nc scope cl s3 H3 fp) tg (tG X.K g)) (ht:∀s3 H3 fp,WT (cxC X Nc scope cl s3 H3 fp) c (tT X.K ct)) (he:∀s3 H3 fp,WE (cxC X Nc scope cl s3 H3 fp) elt (tE X.K ce))
  (hclos:closureFor scope X.env=pure cl) (hkind:scope.kind=.function) (hnl:∀x∈scope.names,x.2=.local->scope.names.lookup x.1=some .local) (hcell:∀x∈scope.names,x.2≠.cell)
  (hcl:sx X.env cl) (hhas:((relabel scope X.env).names.all fun p=>!(p.2 == .cell||p.2 == .free)||(cl.lookup p.1).isSome)=true)
  (hcap:Paired (Cap X scope cl) caps capN) (hN:Nc=tn++capN) (hn:tn.length=n)
  (hN0:X.N.Nodup) (hi0:X.N[i₀]?=some x₀) (hx0:X.env.scope.names.lookup x₀=some .local)
  (hsw:ZP (.ListComp elt [⟨tg,iter,[c],0⟩] scope pos) (some (.Name x₀ pos')) pos₀.line X.env=pure true)
  (hs:∀x,foldedSetIterable iter X.env x=pure x:=by intro _;rfl) :
  QS X (.Assign [.Name x₀ pos'] (.ListComp elt [⟨tg,iter,[c],0⟩] scope pos) pos₀) (eI i₀ (i6 ci g ct ce n caps)):=
 (tV (nD hc (pA hi) hg he ht hclos hkind hnl hcell hcl hhas hcap hN hn hN0 hi0 hx0 hsw hs)).imp fun D σ H hz=>sX hz fun m ρ S o ρ' S' sr lr hc post=>by
 obtain⟨⟨u,S1⟩,h1,h2⟩:=Q0.mp hc;cases h2;exact nH (G:=fun J H1 σ Q=>∀l,H1 l=none->∃W:Nat->Nat->L2.St->Hp->Prop,(∃m,W 0 m (OG.stC n caps σ) (upd H1 l (.lst [])))/\
  ∀i m σ' H2,W i m σ' H2->(J.stop i H2/\Q (.ref l) H2)\/(J.go i H2/\∃N:L2.St->Hp->Prop,(∀σ'' H',N σ'' H'->∃m',m'<m/\W (i+1) m' σ'' H')/\
  ∀x H3,J.yld i H2 x H3->tG X.K g x σ' H3 fun σ2 H4=>tT X.K ct σ2 H4 fun b H5=>match b with
   |true=>tE X.K ce σ2 H5 fun v H6=>∃ys,H6 l=some (.lst ys)/\ys.length<QD/\N σ2 (upd H6 l (.lst (ys++[v])))
   |false=>N σ2 H5)) (fun sr lr ito h2 post l hl=>kL sr lr ito hl h2 (post l hl))
  σ H (fun v H'=>D.nx (σ.set i₀ (some v)) H') ⟨m,ρ,S,u,_,sr,lr,h1,fun m1 v1 H1 e1 sr1 i1=>post m1 _ H1 e1 sr1 ((lr.mono e1).set i₀ i1)⟩
end
end OP
namespace OP
open PySem PySem.Spec PyProof PyProof.Rows L2 OG
section
variable{X:Cx}{e a b:QC}{pos:Pos}{ca cb cv:CE}{c:Cl}{f:Str}{i:Nat}{NS:List Str}
theorem qv(i:Nat){x:Str}(hN:X.N[i]?=some x:=by rfl)(hv:Vis X.env.scope x:=by first|exact Or.inl rfl|exact Or.inr (Or.inl rfl)|exact Or.inr (Or.inr rfl))(hd:(x == ("__debug__":Str))=false:=by decide)(hcd:(x == ("__classdict__":Str))=false:=by decide):QE X (.Name x pos) (ah i):=xO (wpv i hN hv hd hcd)
def qr(h:QE X e ca):QSs X [.Return (some e) pos] (eC ca):=a6 (zF h)
def qI{i:Int}{j}:QE X (.Constant (.int i) j pos) (cC (.int i)):=Hz A0
def qS{i:Str}{j}:QE X (.Constant (.str i) j pos) (cC (.str i)):=Hw AW
def qN{j}:QE X (.Constant .none j pos) (cC .non):=Hy AY
def qB{i:Bool}{j}:QE X (.Constant (.bool i) j pos) (cC (.bl i)):=JT DQ
theorem qx(hu:X.A.units+1<cLine)(ha:QE X a ca)(hb:QE X b cb)(hs:FN b:=by intro _ _;rfl):QE X (.Subscript a b pos) (cOp fIx ca cb):=Jc hu ha hb hs hs
theorem qf(T:TC X.K c NS)(h:NS[i]?=some f)(he:QE X e ca)(hb:attributeBase e f X.env (eval e X.env)=eval e X.env:=by rfl):QE X (.Attribute e f pos) (bE c i ca):=Bv T.cl (T.na i h) (T.ix h) he hb
theorem qsf{o:QC}{co:CE}{pos':Pos}(T:TC X.K c NS)(h:NS[i]?=some f)(ho:QE X o co)(hv:QE X e cv)(hs:ZP e (some (.Attribute o f pos')) pos.line X.env=pure false:=by rfl):QS X (.Assign [.Attribute o f pos'] e pos) (fk c i co cv):=Br T.cl (T.na i h) (T.ix h) ho hv hs
theorem qss(i:Nat){x:Str}{pos':Pos}(hN:X.N.Nodup)(he:QE X e ca)(hi:X.N[i]?=some x:=by rfl)(hx:Loc X.env.scope x:=by first|exact Or.inl rfl|exact Or.inr rfl)(hs:ZP e (some (.Name x pos')) pos.line X.env=pure false:=by rfl)(hf:X.fn x=true\/X.env.scope.names.lookup x=some .local:=by first|exact .inl rfl|exact .inr rfl|assumption) :
  QS X (.Assign [.Name x pos'] e pos) (eI i ca):=Ed hN hi hx he hs hf
theorem qm{mn:Str}{g:Fn}{k:Nat}{ps:List Str}{o:QC}{es:List QC}{co:CE}{cr:CA}{apos:Pos}{pl:Sem Bool}(T:TC X.K c NS)(F:c6 X.prog X.w X.K X.mg X.base c mn k ps g)(hr:dG k X.A)(ho:QE X o co)(ha:QA X (e::es) cr)(hmn:mn∉NS:=by decide +kernel)
  (hst:QJ (e::es) X.env=(false,eval e X.env)::QJ es X.env:=by rfl) (hpl:(ZQ pos (QJ es X.env)).any (·.1)=false:=by rfl) (ht:eval (.Call (.Attribute o mn apos) (e::es) [] pos) X.env=(do
   let ov <-eval o X.env
   standAt apos.atName
   let (f,first) <-holding [ov] (getMethod ov mn pl)
   callWith pos f first (ZQ pos (QJ (e::es) X.env)) (backToKw pos (keywordEach [] X.env))):=by rfl):QE X (.Call (.Attribute o mn apos) (e::es) [] pos) (bp c g co cr):=Eh T.cl F hr (T.nm hmn) ho ha hst hpl ht
theorem qm0{mn:Str}{g:Fn}{k:Nat}{ps:List Str}{o:QC}{co:CE}{apos:Pos}{pl:Sem Bool}(T:TC X.K c NS)(F:c6 X.prog X.w X.K X.mg X.base c mn k ps g)(hr:dG k X.A)(ho:QE X o co)(hmn:mn∉NS:=by decide +kernel)
  (ht:eval (.Call (.Attribute o mn apos) [] [] pos) X.env=(do
   let ov <-eval o X.env
   standAt apos.atName
   let (f,first) <-holding [ov] (getMethod ov mn pl)
   callWith pos f first (ZQ pos (QJ [] X.env)) (backToKw pos (keywordEach [] X.env))):=by rfl):QE X (.Call (.Attribute o mn apos) [] [] pos) (bp c g co aG):=uO T.cl F hr (T.nm hmn) ho ht
end
def Jr(N P:List Str)(sc:Zq):Bool:=decide (sc.kind=.function)&&!sc.isCoroutine&&!sc.isGenerator&&decide N.Nodup&&decide (N.take P.length=P)&&P.all (fun x=>decide (sc.names.lookup x=some .local)||decide (sc.names.lookup x=some .cell))&&sc.names.all fun y=>!decide (y.2=.free)
theorem fsc{N P:List Str}{sc:Zq}(h:Jr N P sc=true:=by decide +kernel):aM N P sc:=by
 unfold Jr at h;simp only[Zw,decide_eq_true_eq,Bool.not_eq_true',List.all_eq_true,Bool.or_eq_true,decide_eq_false_iff_not]at h;obtain⟨⟨⟨⟨⟨⟨h1,h2⟩,h3⟩,h4⟩,h5⟩,h6⟩,h7⟩:=h;exact⟨h1,h2,h3,h4,h5,h6,h7⟩
end OP
namespace OP
open PySem PySem.Spec PyProof PyProof.Rows L2 OG PySem.W
theorem Bw{X:Cx}{x:Str}{k:Nat}{ps:List Str}{f:Fn}{p pos:Pos}(F:Has X.prog X.w X.K X.mg X.base x k ps (wZ X.K f))(hr:dG k X.A)(hg:Gl X x)(hdb:(x == ("__debug__":Str))=false:=by decide):QE X (.Call (.Name x p) [] [] pos) (cCB f aG):=by
 obtain⟨g,fd,a,b,c,d⟩:=F;exact(show WE X _ _ from⟨ye a hr hg d c b .nil uZ hdb⟩).imp fun σ H Q hz=>jO hz fun m ρ S u S' sr lr hc post=>by
  obtain⟨⟨us,S1⟩,h1,h2⟩:=Q0.mp hc;cases h1;exact⟨m,[],S,u,S',.nil_,sr,h2,post⟩
end OP
namespace OQ
open PySem PySem.Spec PyProof.Rows L2 OG OP
def dS:CS:=
 (bq (eI 3 (cOp lJ (cOp l7 (cOp l7 (cOp l7 (cOp mY (ah 3) (ah 3)) (cOp mY (cC (.int 50021)) (ah 3))) (cOp mY (cC (.int 19)) (ah 5))) (cC (.int 7))) (cC (.int 2147483563))))
  (eI 4 (cOp l7 (cOp mY (ah 4) (cC (.int 2147483563))) (ah 3))))
def fE:CS:=
 (bq (eI 2 (cOp l7 (cOp mY (cC (.int 5)) (ah 1)) (cC (.int 3))))
  (bq (fg (aK (cOp fLt (ah 1) (cCB kG (ag (ah 0) aG)))) (eI 2 (cOp fIx (ah 0) (ah 1))) bX)
  (bq (fg (aK (cOp fEq (cOp lJ (ah 2) (cC (.int 2))) (cC (.int 0)))) (eC (kQ (ag (cOp zW (ah 2) (cC (.int 2))) aG))) bX)
  (bq (eI 3 (cOp lJ (cOp l7 (cOp l7 (cOp mY (ah 2) (cC (.int 30011))) (cOp mY (cC (.int 977)) (ah 1))) (cC (.int 41))) (cC (.int 2147483563))))
  (bq (eI 4 (cC (.int 0)))
  (bq (kR (bU (ag (cC (.int 60)) aG)) (gNm 5) (dS ))
  (eC (kQ (ag (ah 4) aG)))))))))
def jr:CS:=
 (bq (eI 2 (cOp lJ (cOp fIx (ah 0) (cC (.int 0))) (ah 1)))
  (bq (eB (ah 0) (cC (.int 0)) (cOp zW (cOp fIx (ah 0) (cC (.int 0))) (ah 1)))
  (eC (ah 2))))
def fc(cAttempt:Cl):CS:=
 (bq (fk cAttempt 0 (ah 0) (ah 1))
  (bq (fk cAttempt 1 (ah 0) lL)
  (bq (fk cAttempt 2 (ah 0) lL)
  (bq (fk cAttempt 3 (ah 0) (cC .non))
  (bq (fk cAttempt 4 (ah 0) (kQ aG))
  (fk cAttempt 5 (ah 0) (cC (.bl true))))))))
def fG(cKeeper:Cl):CS:=
 (bq (fk cKeeper 0 (ah 0) (cCB oj (ag (ah 2) aG)))
  (bq (fk cKeeper 1 (ah 0) (cOp wc (kQ (ag (cC (.int 0)) aG)) (cCB kG (ag (ah 2) aG))))
  (bq (fk cKeeper 2 (ah 0) lL)
  (bq (fk cKeeper 3 (ah 0) (cC (.int 0)))
  (bq (fk cKeeper 4 (ah 0) (kQ aG))
  (fk cKeeper 5 (ah 0) lL))))))
def gC(cKeeper cAttempt:Cl):CS:=
 (bq (eI 3 (cOp fIx (bE cKeeper 5 (ah 0)) (ah 1)))
  (bq (fk cAttempt 5 (ah 3) (cC (.bl false)))
  (fH (cBM fC (bE cKeeper 4 (ah 0)) (ag (kN (ag (ah 2) (ag (ah 1) aG))) aG)))))
def eY(cKeeper cAttempt:Cl):CS:=
 (bq (fg (cOr (aK (cOp (fIn true) (ah 1) (bE cKeeper 5 (ah 0)))) (Gk (aK (bE cAttempt 5 (cOp fIx (bE cKeeper 5 (ah 0)) (ah 1)))))) oE bX)
  (eC (cOp fIx (bE cKeeper 5 (ah 0)) (ah 1))))
def dE(aT:Fn)(cKeeper cAttempt:Cl):CS:=
 (bq (eI 2 (bp cKeeper aT (ah 0) (ag (ah 1) aG)))
  (bq (fg (aK (cOp yH (bE cAttempt 3 (ah 2)) (cC .non))) oE bX)
  (eC (ah 2))))
def eO(cKeeper:Cl):CS:=
 (eC (cCB yI (ag (nh (i7 (iTp (ah 2)) (gNm 0) (cOp fNe (qt (bE cKeeper 2 (ah 2)) (ah 0) (ah 1)) (ah 1)) 1 [1,0]) (gX (ah 2) (gNm 0) (cOp fNe (qt (bE cKeeper 2 (ah 2)) (ah 0) (ah 1)) (ah 1)) 1 [1,0])) aG)))
def cm(cKeeper cAttempt:Cl):CS:=
 (bq (eI 2 (cOp fIx (bE cKeeper 5 (ah 0)) (ah 1)))
  (eC (cCB yI (ag (gX (bE cAttempt 1 (ah 2)) (gNm 0) (cOp fGt (cOp fIx (bE cKeeper 1 (ah 2)) (ah 0)) (bE cAttempt 0 (ah 1))) 1 [2,0]) aG))))
def ba(aC aD:Fn)(cKeeper cAttempt:Cl):CS:=
 (bq (fg (aK (bp cKeeper aC (ah 0) (ag (ah 1) (ag (kQ (ag (ah 2) aG)) aG)))) (eC (cC (.bl true))) bX)
  (bq (fg (aK (cOp fLe (cOp fIx (bE cKeeper 1 (ah 0)) (ah 2)) (bE cAttempt 0 (cOp fIx (bE cKeeper 5 (ah 0)) (ah 1))))) (eC (cC (.bl false))) bX)
  (eC (Gj (bp cKeeper aC (ah 0) (ag (ah 1) (ag (bE cAttempt 1 (cOp fIx (bE cKeeper 5 (ah 0)) (ah 1))) aG))) (bp cKeeper aD (ah 0) (ag (ah 1) aG))))))
def bQ(cKeeper cAttempt:Cl):CS:=
 (bq (fg (aK (cOp fGt (cOp fIx (bE cKeeper 1 (ah 0)) (ah 2)) (bE cAttempt 0 (ah 1)))) (fk cAttempt 0 (ah 1) (bE cKeeper 3 (ah 0))) bX)
  (bq (eB (bE cAttempt 1 (ah 1)) (ah 2) (cC (.bl true)))
  (eC (cOp fIx (bE cKeeper 0 (ah 0)) (ah 2)))))
def fb(dw:Fn)(cKeeper cAttempt:Cl):CS:=
 (bq (fg (aK (cOp (fIn false) (ah 1) (bE cKeeper 5 (ah 0)))) oE bX)
  (bq (eB (bE cKeeper 5 (ah 0)) (ah 1) (cCB (kF cAttempt dw) (ag (bE cKeeper 3 (ah 0)) aG)))
  (fH (cBM fC (bE cKeeper 4 (ah 0)) (ag (kN (ag (cC (.str "begin")) (ag (ah 1) aG))) aG)))))
def cW(ay bK aH bP:Fn)(cKeeper cAttempt:Cl):CS:=
 (bq (eI 3 (bp cKeeper ay (ah 0) (ag (ah 1) aG)))
  (bq (fg (aK (cOp (fIn false) (ah 2) (bE cAttempt 2 (ah 3)))) (eI 4 (cOp fIx (bE cAttempt 2 (ah 3)) (ah 2))) (fg (aK (bp cKeeper bK (ah 0) (ag (ah 1) (ag (ah 2) aG)))) (bq (fH (bp cKeeper aH (ah 0) (ag (ah 1) (ag (cC (.str "fall")) aG))))
  (eC (kN (ag (cC (.str "falls")) aG)))) (eI 4 (bp cKeeper bP (ah 0) (ag (ah 3) (ag (ah 2) aG))))))
  (bq (fH (cBM fC (bE cKeeper 4 (ah 0)) (ag (kN (ag (cC (.str "look")) (ag (ah 1) (ag (ah 2) (ag (ah 4) aG))))) aG)))
  (eC (kN (ag (cC (.str "number")) (ag (ah 4) aG)))))))
def gx(ay:Fn)(cKeeper cAttempt:Cl):CS:=
 (bq (eI 4 (bp cKeeper ay (ah 0) (ag (ah 1) aG)))
  (bq (eB (bE cAttempt 2 (ah 4)) (ah 2) (ah 3))
  (fH (cBM fC (bE cKeeper 4 (ah 0)) (ag (kN (ag (cC (.str "put")) (ag (ah 1) (ag (ah 2) (ag (ah 3) aG))))) aG)))))
def cZ(ay aH aC aD:Fn)(cKeeper cAttempt:Cl):CS:=
 (eB (bE cKeeper 2 (ah 0)) (ah 3) (ah 1))
def fF(ay aH aC aD:Fn)(cKeeper cAttempt:Cl):CS:=
 (bq (eI 2 (bp cKeeper ay (ah 0) (ag (ah 1) aG)))
  (bq (fg (aK (cOp fEq (cCB kG (ag (bE cAttempt 2 (ah 2)) aG)) (cC (.int 0)))) (bq (fH (bp cKeeper aH (ah 0) (ag (ah 1) (ag (cC (.str "done")) aG))))
  (eC (cC (.str "done")))) bX)
  (bq (fg (cOr (aK (bp cKeeper aC (ah 0) (ag (ah 1) (ag (bE cAttempt 1 (ah 2)) aG)))) (cOr (aK (bp cKeeper aC (ah 0) (ag (ah 1) (ag (bE cAttempt 2 (ah 2)) aG)))) (aK (bp cKeeper aD (ah 0) (ag (ah 1) aG))))) (bq (fH (bp cKeeper aH (ah 0) (ag (ah 1) (ag (cC (.str "fall")) aG))))
  (eC (cC (.str "falls")))) bX)
  (bq (fk cKeeper 3 (ah 0) (cOp l7 (bE cKeeper 3 (ah 0)) (cC (.int 1))))
  (bq (fk cAttempt 3 (ah 2) (bE cKeeper 3 (ah 0)))
  (bq (fk cAttempt 4 (ah 2) (cCB d8 (ag (bE cAttempt 2 (ah 2)) aG)))
  (bq (kR (iTp (bE cAttempt 4 (ah 2))) (gNm 3) (cZ ay aH aC aD cKeeper cAttempt))
  (eC (cC (.str "taken"))))))))))
def dF(aT aH:Fn)(cKeeper cAttempt:Cl):CS:=
 (fH (wK (bE cKeeper 2 (ah 0)) (ah 4)))
def eX(aT aH:Fn)(cKeeper cAttempt:Cl):CS:=
 (bq (eI 2 (bp cKeeper aT (ah 0) (ag (ah 1) aG)))
  (bq (fg (aK (cOp Co (bE cAttempt 3 (ah 2)) (cC .non))) oE bX)
  (bq (eI 3 (cBM l0 (bE cAttempt 4 (ah 2)) (ag (cC (.int 0)) aG)))
  (bq (eB (bE cKeeper 0 (ah 0)) (ah 3) (cOp fIx (bE cAttempt 2 (ah 2)) (ah 3)))
  (bq (eB (bE cKeeper 1 (ah 0)) (ah 3) (bE cAttempt 3 (ah 2)))
  (bq (fg (aK (cOp fGt (cCB kG (ag (bE cAttempt 4 (ah 2)) aG)) (cC (.int 0)))) (eC (cC (.str "written"))) bX)
  (bq (oF (bE cAttempt 2 (ah 2)) (gNm 4) (dF aT aH cKeeper cAttempt))
  (bq (fH (bp cKeeper aH (ah 0) (ag (ah 1) (ag (cC (.str "done")) aG))))
  (eC (cC (.str "done")))))))))))
def gy(cKeeper:Cl):CS:=
 (eC (cCB jK (ag (bE cKeeper 0 (ah 0)) aG)))
def b8(cAttempt:Cl):CS:=
 (bq (fg (aK (cOp Co (bE cAttempt 3 (ah 0)) (cC .non))) (eC (kN (ag (bE cAttempt 0 (ah 0)) (ag (cC (.int 1)) aG)))) bX)
  (eC (kN (ag (bE cAttempt 3 (ah 0)) (ag (cC (.int 0)) aG)))))
def gB(cKeeper:Cl):CS:=
 (eC (cCB oj (ag (bE cKeeper 4 (ah 0)) aG)))
def eZ(cKeeper:Cl):CS:=
 (eC (bE cKeeper 3 (ah 0)))
end OQ
namespace OL
open PySem PySem.Spec PyProof.Rows L2 OG OP OQ
def top(i:Nat):Z0:=PySem.Challenge.pw_oneglance_k35_moments_of_many_attempts.main.body.getD i (.Pass ⟨0,0,0,0⟩)
abbrev eW:Z0:=bJ (top 6) 0
abbrev dg:Z0:=bJ (top 6) 1
abbrev fA:Z0:=bJ (top 7) 0
abbrev eV:Z0:=bJ (top 7) 1
abbrev fz:Z0:=bJ (top 7) 2
abbrev cD:Z0:=bJ (top 7) 3
abbrev cT:Z0:=bJ (top 7) 4
abbrev fZ:Z0:=bJ (top 7) 5
abbrev fu:Z0:=bJ (top 7) 6
abbrev eP:Z0:=bJ (top 7) 7
abbrev eR:Z0:=bJ (top 7) 9
abbrev dC:Z0:=bJ (top 7) 10
abbrev gb:Z0:=bJ (top 7) 11
abbrev cU:Z0:=bJ (top 7) 12
abbrev cf:Z0:=bJ (top 7) 13
abbrev f9:Z0:=bJ (top 7) 15
abbrev eQ:Z0:=bJ (top 7) 16
abbrev f7:Z0:=bJ (top 7) 17
abbrev eU:Z0:=bJ (top 7) 18
abbrev hR:Z0:=top 9
abbrev jh:Z0:=top 10
abbrev fY:Z0:=top 11
abbrev hU:Z0:=top 12
abbrev hJ:Z0:=top 13
abbrev hV:Z0:=top 14
abbrev de:Z0:=top 15
abbrev dc:Z0:=top 16
abbrev Bn:Z0:=top 17
section
variable{P:Qv}{w:Qe}{K:Q1}{mg:Str->Option Q2}{base:Heap}
abbrev nK:List Str:=["boxes","marks","holders","ticks","events","known"]
abbrev nA:List Str:=["glance","looked","puts","stamp","unwritten","is_open"]
def fX:aM ["self","glance"] ["self","glance"] (aq eW):=fsc
theorem lH{k:Nat}{cAttempt:Cl}(d:MkD K mg cAttempt.C "Attempt" "Attempt.__init__" eW ["self","glance"])(B:Blt mg)(TAttempt:TC K cAttempt nA):CMk P w K mg base cAttempt "Attempt" (k+1) ["self","glance"] (fnU 2 2 (fc cAttempt)):=
 d.pure TAttempt fX fun f cdv A outer s H E hr=>(by
  have hu:=c7 hr;have nd:=fX.nd;exact(ak (qsf TAttempt rfl (qv 0) (qv 1))
   (ak (qsf TAttempt rfl (qv 0) jG)
   (ak (qsf TAttempt rfl (qv 0) jG)
   (ak (qsf TAttempt rfl (qv 0) qN)
   (ak (qsf TAttempt rfl (qv 0) (iS ax))
   (a6 (qsf TAttempt rfl (qv 0) qB))))))))
def eM:aM ["self"] ["self"] (aq dg):=fsc
theorem jo{k:Nat}{cAttempt:Cl}(d:MtD K cAttempt.C "instant" "Attempt.instant" dg ["self"])(B:Blt mg)(TAttempt:TC K cAttempt nA):c6 P w K mg base cAttempt "instant" (k+1) ["self"] (fnU 1 1 (b8 cAttempt)):=
 d.pure eM fun f cdv A outer s H E hr=>(by
  have hu:=c7 hr;have nd:=eM.nd;exact(ak (cg (bu vk BS (qf TAttempt rfl (qv 0)) qN (aX _)) (qr (fQ (ae (qf TAttempt rfl (qv 0)) (ae qI ax)))) bC)
   (qr (fQ (ae (qf TAttempt rfl (qv 0)) (ae qI ax))))))
def gW:aM ["self","world","state"] ["self","world","state"] (aq fA):=fsc
theorem mV{k:Nat}{cKeeper:Cl}(d:MkD K mg cKeeper.C "Keeper" "Keeper.__init__" fA ["self","world","state"])(B:Blt mg)(TKeeper:TC K cKeeper nK):CMk P w K mg base cKeeper "Keeper" (k+1) ["self","world","state"] (fnU 3 3 (fG cKeeper)):=
 d.pure TKeeper gW fun f cdv A outer s H E hr=>(by
  have hu:=c7 hr;have nd:=gW.nd;exact(ak (qsf TKeeper rfl (qv 0) (dP gv va rfl B.list OG.i8 (ae (qv 2) ax)))
   (ak (qsf TKeeper rfl (qv 0) (iR EV EL (iS (ae qI ax)) (bS lu lh rfl B.len PySem.boot_len (ae (qv 2) ax))))
   (ak (qsf TKeeper rfl (qv 0) jG)
   (ak (qsf TKeeper rfl (qv 0) qI)
   (ak (qsf TKeeper rfl (qv 0) (iS ax))
   (a6 (qsf TKeeper rfl (qv 0) jG))))))))
def iQ:aM ["self","a","word","attempt"] ["self","a","word"] (aq gb):=fsc
theorem oh{k:Nat}{cKeeper cAttempt:Cl}(d:MtD K cKeeper.C "end" "Keeper.end" gb ["self","a","word"])(B:Blt mg)(TKeeper:TC K cKeeper nK)(TAttempt:TC K cAttempt nA):c6 P w K mg base cKeeper "end" (k+1) ["self","a","word"] (fnU 4 3 (gC cKeeper cAttempt)):=
 d.pure iQ fun f cdv A outer s H E hr=>(by
  have hu:=c7 hr;have nd:=iQ.nd;exact(ak (qss 3 nd (qx hu (qf TKeeper rfl (qv 0)) (qv 1)))
   (ak (qsf TAttempt rfl (qv 3) qB)
   (a6 (cE (jV (qf TKeeper rfl (qv 0)) (ae (fQ (ae (qv 2) (ae (qv 1) ax))) ax)))))))
def fU:aM ["self","a"] ["self","a"] (aq eR):=fsc
theorem lE{k:Nat}{cKeeper cAttempt:Cl}(d:MtD K cKeeper.C "found" "Keeper.found" eR ["self","a"])(B:Blt mg)(TKeeper:TC K cKeeper nK)(TAttempt:TC K cAttempt nA):c6 P w K mg base cKeeper "found" (k+1) ["self","a"] (fnU 2 2 (eY cKeeper cAttempt)):=
 d.pure fU fun f cdv A outer s H E hr=>(by
  have hu:=c7 hr;have nd:=fU.nd;exact(ak (cg (w8 (Ef (xP hu (qv 1) (qf TKeeper rfl (qv 0)) (by with_unfolding_all rfl)) (xQ (zH (jF (qf TAttempt rfl (qx hu (qf TKeeper rfl (qv 0)) (qv 1)))))))) (a6 jU) bC)
   (qr (qx hu (qf TKeeper rfl (qv 0)) (qv 1)))))
def fh:aM ["self","a","attempt"] ["self","a"] (aq dC):=fsc
theorem jN{k:Nat}{aT:Fn}{cKeeper cAttempt:Cl}(d:MtD K cKeeper.C "untaken" "Keeper.untaken" dC ["self","a"])(B:Blt mg)(TKeeper:TC K cKeeper nK)(TAttempt:TC K cAttempt nA)(M_Keeper_found:c6 P w K mg base cKeeper "found" (k) ["self","a"] aT):c6 P w K mg base cKeeper "untaken" (k+1) ["self","a"] (fnU 3 2 (dE aT cKeeper cAttempt)):=
 d.pure fh fun f cdv A outer s H E hr=>(by
  have hu:=c7 hr;have nd:=fh.nd;exact(ak (qss 2 nd (qm TKeeper M_Keeper_found hr (qv 0) (ae (qv 1) ax)))
   (ak (cg (bu BW EK (qf TAttempt rfl (qv 2)) qN (aX _)) (a6 jU) bC)
   (qr (qv 2)))))
def dZ:aM ["self","a","boxes"] ["self","a","boxes"] (aq cU):=fsc
theorem iY{k:Nat}{cKeeper:Cl}(d:MtD K cKeeper.C "is_barred" "Keeper.is_barred" cU ["self","a","boxes"])(B:Blt mg)(TKeeper:TC K cKeeper nK):c6 P w K mg base cKeeper "is_barred" (k+1) ["self","a","boxes"] (fnU 3 3 (eO cKeeper)):=
 d.pure dZ fun f cdv A outer s H E hr=>(by
  have hu:=c7 hr;have nd:=dZ.nd;exact(qr (bS (se rfl) EO rfl B.any OG.sg (ae (xR (zI (Nc:=["b","a","self"]) (tn:=["b"]) (capN:=["a","self"]) (caps:=[1,0]) rfl (jE (qv 2)) (fun _ _ _=>(bH (aU (i:=0) (show(["b","a","self"]:List Str).Nodup by decide +kernel) rfl (by trivial)))) (fun _ _ _=>(mD yl F7 (uQ hu (qf TKeeper rfl (qv 2)) (qv 0) (qv 1) ⟨rfl,rfl,rfl,rfl⟩) (qv 1) (aX _))) rfl rfl (by decide +kernel) (by decide +kernel) ⟨rfl,rfl,trivial⟩ rfl (.cons ⟨rfl,rfl,rfl,_,rfl⟩ (.cons ⟨rfl,rfl,rfl,_,rfl⟩ .nil)) rfl rfl) (uS (Nc:=["b","a","self"]) (tn:=["b"]) (capN:=["a","self"]) (caps:=[1,0]) rfl (qv 2) (fun _ _ _=>(bH (aU (i:=0) (show(["b","a","self"]:List Str).Nodup by decide +kernel) rfl (by trivial)))) (fun _ _ _=>(mD yl F7 (uQ hu (qf TKeeper rfl (qv 2)) (qv 0) (qv 1) ⟨rfl,rfl,rfl,rfl⟩) (qv 1) (aX _))) rfl rfl (by decide +kernel) (by decide +kernel) ⟨rfl,rfl,trivial⟩ rfl (.cons ⟨rfl,rfl,rfl,_,rfl⟩ (.cons ⟨rfl,rfl,rfl,_,rfl⟩ .nil)) rfl rfl)) ax))))
def dA:aM ["self","a","attempt"] ["self","a"] (aq cf):=fsc
theorem gQ{k:Nat}{cKeeper cAttempt:Cl}(d:MtD K cKeeper.C "has_changed" "Keeper.has_changed" cf ["self","a"])(B:Blt mg)(TKeeper:TC K cKeeper nK)(TAttempt:TC K cAttempt nA):c6 P w K mg base cKeeper "has_changed" (k+1) ["self","a"] (fnU 3 2 (cm cKeeper cAttempt)):=
 d.pure dA fun f cdv A outer s H E hr=>(by
  have hu:=c7 hr;have nd:=dA.nd;exact(ak (qss 2 nd (qx hu (qf TKeeper rfl (qv 0)) (qv 1)))
   (qr (bS (se rfl) EO rfl B.any OG.sg (ae (uS (Nc:=["b","attempt","self"]) (tn:=["b"]) (capN:=["attempt","self"]) (caps:=[2,0]) rfl (qf TAttempt rfl (qv 2)) (fun _ _ _=>(bH (aU (i:=0) (show(["b","attempt","self"]:List Str).Nodup by decide +kernel) rfl (by trivial)))) (fun _ _ _=>(mD BX HN (qx hu (qf TKeeper rfl (qv 2)) (qv 0)) (qf TAttempt rfl (qv 1)) (aX _))) rfl rfl (by decide +kernel) (by decide +kernel) ⟨rfl,rfl,trivial⟩ rfl (.cons ⟨rfl,rfl,rfl,_,rfl⟩ (.cons ⟨rfl,rfl,rfl,_,rfl⟩ .nil)) rfl rfl) ax)))))
def dH:aM ["self","a","b"] ["self","a","b"] (aq cD):=fsc
theorem ie{k:Nat}{aC aD:Fn}{cKeeper cAttempt:Cl}(d:MtD K cKeeper.C "would_fall" "Keeper.would_fall" cD ["self","a","b"])(B:Blt mg)(TKeeper:TC K cKeeper nK)(TAttempt:TC K cAttempt nA)(M_Keeper_is_barred:c6 P w K mg base cKeeper "is_barred" (k) ["self","a","boxes"] aC)(M_Keeper_has_changed:c6 P w K mg base cKeeper "has_changed" (k) ["self","a"] aD):c6 P w K mg base cKeeper "would_fall" (k+1) ["self","a","b"] (fnU 3 3 (ba aC aD cKeeper cAttempt)):=
 d.pure dH fun f cdv A outer s H E hr=>(by
  have hu:=c7 hr;have nd:=dH.nd;exact(ak (cg (jF (qm TKeeper M_Keeper_is_barred hr (qv 0) (ae (qv 1) (ae (iS (ae (qv 2) ax)) ax)))) (qr qB) bC)
   (ak (cg (bu HP JU (qx hu (qf TKeeper rfl (qv 0)) (qv 2)) (qf TAttempt rfl (qx hu (qf TKeeper rfl (qv 0)) (qv 1))) (aX _)) (qr qB) bC)
   (qr (Hx (qm TKeeper M_Keeper_is_barred hr (qv 0) (ae (qv 1) (ae (qf TAttempt rfl (qx hu (qf TKeeper rfl (qv 0)) (qv 1))) ax))) (Eg (qm TKeeper M_Keeper_has_changed hr (qv 0) (ae (qv 1) ax))))))))
def dY:aM ["self","attempt","b"] ["self","attempt","b"] (aq cT):=fsc
theorem iX{k:Nat}{cKeeper cAttempt:Cl}(d:MtD K cKeeper.C "look_anew" "Keeper.look_anew" cT ["self","attempt","b"])(B:Blt mg)(TKeeper:TC K cKeeper nK)(TAttempt:TC K cAttempt nA):c6 P w K mg base cKeeper "look_anew" (k+1) ["self","attempt","b"] (fnU 3 3 (bQ cKeeper cAttempt)):=
 d.pure dY fun f cdv A outer s H E hr=>(by
  have hu:=c7 hr;have nd:=dY.nd;exact(ak (cg (bu BX HN (qx hu (qf TKeeper rfl (qv 0)) (qv 2)) (qf TAttempt rfl (qv 1)) (aX _)) (a6 (qsf TAttempt rfl (qv 1) (qf TKeeper rfl (qv 0)))) bC)
   (ak (bY hu (qf TAttempt rfl (qv 1)) (qv 2) qB)
   (qr (qx hu (qf TKeeper rfl (qv 0)) (qv 2))))))
def fW:aM ["self","a"] ["self","a"] (aq eV):=fsc
theorem lG{k:Nat}{dw:Fn}{cKeeper cAttempt:Cl}(d:MtD K cKeeper.C "begin" "Keeper.begin" eV ["self","a"])(B:Blt mg)(TKeeper:TC K cKeeper nK)(TAttempt:TC K cAttempt nA)(M_Attempt:CMk P w K mg base cAttempt "Attempt" k ["self","glance"] dw):c6 P w K mg base cKeeper "begin" (k+1+1) ["self","a"] (fnU 2 2 (fb dw cKeeper cAttempt)):=
 d.pure fW fun f cdv A outer s H E hr=>(by
  have hu:=c7 hr;have nd:=fW.nd;exact(ak (cg (uN hu (qv 1) (qf TKeeper rfl (qv 0)) (by with_unfolding_all rfl)) (a6 jU) bC)
   (ak (bY hu (qf TKeeper rfl (qv 0)) (qv 1) (uP M_Attempt hr rfl (ae (qf TKeeper rfl (qv 0)) ax)))
   (a6 (cE (jV (qf TKeeper rfl (qv 0)) (ae (fQ (ae qS (ae (qv 1) ax))) ax)))))))
def gU:aM ["self","a","b","attempt","number"] ["self","a","b"] (aq fz):=fsc
theorem mU{k:Nat}{ay bK aH bP:Fn}{cKeeper cAttempt:Cl}(d:MtD K cKeeper.C "look" "Keeper.look" fz ["self","a","b"])(B:Blt mg)(TKeeper:TC K cKeeper nK)(TAttempt:TC K cAttempt nA)(M_Keeper_untaken:c6 P w K mg base cKeeper "untaken" (k) ["self","a"] ay)(M_Keeper_would_fall:c6 P w K mg base cKeeper "would_fall" (k) ["self","a","b"] bK)(M_Keeper_end:c6 P w K mg base cKeeper "end" (k) ["self","a","word"] aH)(M_Keeper_look_anew:c6 P w K mg base cKeeper "look_anew" (k) ["self","attempt","b"] bP):c6 P w K mg base cKeeper "look" (k+1) ["self","a","b"] (fnU 5 3 (cW ay bK aH bP cKeeper cAttempt)):=
 d.pure gU fun f cdv A outer s H E hr=>(by
  have hu:=c7 hr;have nd:=gU.nd;exact(ak (qss 3 nd (qm TKeeper M_Keeper_untaken hr (qv 0) (ae (qv 1) ax)))
   (ak (cg (uN hu (qv 2) (qf TAttempt rfl (qv 3)) (by with_unfolding_all rfl)) (a6 (qss 4 nd (qx hu (qf TAttempt rfl (qv 3)) (qv 2)))) (a6 (cg (jF (qm TKeeper M_Keeper_would_fall hr (qv 0) (ae (qv 1) (ae (qv 2) ax)))) (ak (cE (qm TKeeper M_Keeper_end hr (qv 0) (ae (qv 1) (ae qS ax))))
   (qr (fQ (ae qS ax)))) (a6 (qss 4 nd (qm TKeeper M_Keeper_look_anew hr (qv 0) (ae (qv 3) (ae (qv 2) ax))))))))
   (ak (cE (jV (qf TKeeper rfl (qv 0)) (ae (fQ (ae qS (ae (qv 1) (ae (qv 2) (ae (qv 4) ax))))) ax)))
   (qr (fQ (ae qS (ae (qv 4) ax))))))))
def iN:aM ["self","a","b","v","attempt"] ["self","a","b","v"] (aq fZ):=fsc
theorem oa{k:Nat}{ay:Fn}{cKeeper cAttempt:Cl}(d:MtD K cKeeper.C "put" "Keeper.put" fZ ["self","a","b","v"])(B:Blt mg)(TKeeper:TC K cKeeper nK)(TAttempt:TC K cAttempt nA)(M_Keeper_untaken:c6 P w K mg base cKeeper "untaken" (k) ["self","a"] ay):c6 P w K mg base cKeeper "put" (k+1) ["self","a","b","v"] (fnU 5 4 (gx ay cKeeper cAttempt)):=
 d.pure iN fun f cdv A outer s H E hr=>(by
  have hu:=c7 hr;have nd:=iN.nd;exact(ak (qss 4 nd (qm TKeeper M_Keeper_untaken hr (qv 0) (ae (qv 1) ax)))
   (ak (bY hu (qf TAttempt rfl (qv 4)) (qv 2) (qv 3))
   (a6 (cE (jV (qf TKeeper rfl (qv 0)) (ae (fQ (ae qS (ae (qv 1) (ae (qv 2) (ae (qv 3) ax))))) ax)))))))
def gT:aM ["self","a","attempt","b"] ["self","a"] (aq fu):=fsc
theorem mS{k:Nat}{ay aH aC aD:Fn}{cKeeper cAttempt:Cl}(d:MtD K cKeeper.C "take" "Keeper.take" fu ["self","a"])(B:Blt mg)(TKeeper:TC K cKeeper nK)(TAttempt:TC K cAttempt nA)(M_Keeper_untaken:c6 P w K mg base cKeeper "untaken" (k) ["self","a"] ay)(M_Keeper_end:c6 P w K mg base cKeeper "end" (k) ["self","a","word"] aH)(M_Keeper_is_barred:c6 P w K mg base cKeeper "is_barred" (k) ["self","a","boxes"] aC)(M_Keeper_has_changed:c6 P w K mg base cKeeper "has_changed" (k) ["self","a"] aD):c6 P w K mg base cKeeper "take" (k+1) ["self","a"] (fnU 4 2 (fF ay aH aC aD cKeeper cAttempt)):=
 d.pure gT fun f cdv A outer s H E hr=>(by
  have hu:=c7 hr;have nd:=gT.nd;exact(ak (qss 2 nd (qm TKeeper M_Keeper_untaken hr (qv 0) (ae (qv 1) ax)))
   (ak (cg (bu hX pQ (bS lu lh rfl B.len PySem.boot_len (ae (qf TAttempt rfl (qv 2)) ax)) qI (aX _)) (ak (cE (qm TKeeper M_Keeper_end hr (qv 0) (ae (qv 1) (ae qS ax))))
   (qr qS)) bC)
   (ak (cg (w8 (Ef (jF (qm TKeeper M_Keeper_is_barred hr (qv 0) (ae (qv 1) (ae (qf TAttempt rfl (qv 2)) ax)))) (Ef (jF (qm TKeeper M_Keeper_is_barred hr (qv 0) (ae (qv 1) (ae (qf TAttempt rfl (qv 2)) ax)))) (xQ (jF (qm TKeeper M_Keeper_has_changed hr (qv 0) (ae (qv 1) ax))))))) (ak (cE (qm TKeeper M_Keeper_end hr (qv 0) (ae (qv 1) (ae qS ax))))
   (qr qS)) bC)
   (ak (qsf TKeeper rfl (qv 0) (iR ke kb (qf TKeeper rfl (qv 0)) qI))
   (ak (qsf TAttempt rfl (qv 2) (qf TKeeper rfl (qv 0)))
   (ak (qsf TAttempt rfl (qv 2) (bS (mJ rfl) mH rfl B.sorted OG.fK (ae (qf TAttempt rfl (qv 2)) ax)))
   (ak (gm PassesOwn.never rfl (jE (qf TAttempt rfl (qv 2))) (bH (aU (i:=3) nd rfl (by trivial))) (a6 (bY hu (qf TKeeper rfl (qv 0)) (qv 3) (qv 1))))
   (qr qS)))))))))
def fT:aM ["self","a","attempt","b","held"] ["self","a"] (aq eP):=fsc
theorem lC{k:Nat}{aT aH:Fn}{cKeeper cAttempt:Cl}(d:MtD K cKeeper.C "write" "Keeper.write" eP ["self","a"])(B:Blt mg)(TKeeper:TC K cKeeper nK)(TAttempt:TC K cAttempt nA)(M_Keeper_found:c6 P w K mg base cKeeper "found" (k) ["self","a"] aT)(M_Keeper_end:c6 P w K mg base cKeeper "end" (k) ["self","a","word"] aH):c6 P w K mg base cKeeper "write" (k+1) ["self","a"] (fnU 5 2 (eX aT aH cKeeper cAttempt)):=
 d.pure fT fun f cdv A outer s H E hr=>(by
  have hu:=c7 hr;have nd:=fT.nd;exact(ak (qss 2 nd (qm TKeeper M_Keeper_found hr (qv 0) (ae (qv 1) ax)))
   (ak (cg (bu vk BS (qf TAttempt rfl (qv 2)) qN (aX _)) (a6 jU) bC)
   (ak (qss 3 nd (Bu (qf TAttempt rfl (qv 2)) (ae qI ax)))
   (ak (bY hu (qf TKeeper rfl (qv 0)) (qv 3) (qx hu (qf TAttempt rfl (qv 2)) (qv 3)))
   (ak (bY hu (qf TKeeper rfl (qv 0)) (qv 3) (qf TAttempt rfl (qv 2)))
   (ak (cg (bu BX HN (bS lu lh rfl B.len PySem.boot_len (ae (qf TAttempt rfl (qv 2)) ax)) qI (aX _)) (qr qS) bC)
   (ak (uL PassesOwn.never rfl (qf TAttempt rfl (qv 2)) (bH (aU (i:=4) nd rfl (by trivial))) (a6 (cE (Ei (qf TKeeper rfl (qv 0)) (qv 4) ⟨rfl,rfl,rfl,rfl⟩))))
   (ak (cE (qm TKeeper M_Keeper_end hr (qv 0) (ae (qv 1) (ae qS ax))))
   (qr qS))))))))))
def iP:aM ["self"] ["self"] (aq f9):=fsc
theorem og{k:Nat}{cKeeper:Cl}(d:MtD K cKeeper.C "log" "Keeper.log" f9 ["self"])(B:Blt mg)(TKeeper:TC K cKeeper nK):c6 P w K mg base cKeeper "log" (k+1) ["self"] (fnU 1 1 (gB cKeeper)):=
 d.pure iP fun f cdv A outer s H E hr=>(by
  have hu:=c7 hr;have nd:=iP.nd;exact(qr (dP gv va rfl B.list OG.i8 (ae (qf TKeeper rfl (qv 0)) ax))))
def j4:aM ["self"] ["self"] (aq eQ):=fsc
abbrev zOf(p:Addr):O:=.cod p ⟨135,38,135,71⟩ ("Keeper.order"++".<locals>."++"<lambda>")
def d9(b7:Fn)(cKeeper cAttempt:Cl)(zO:O):CS:=
 eC (sf zO 0 (bE cKeeper 5 (ah 0)) (bp cAttempt b7 (cOp fIx (bE cKeeper 5 (ah 1)) (ah 0)) aG))
theorem lD{k:Nat}{b7:Fn}{cKeeper cAttempt:Cl}{cO pO:Addr}(d:MtD K cKeeper.C "order" "Keeper.order" eQ ["self"])(cd:CP K cKeeper.C "order" cO pO)(bm:wY mg base)(B:Blt mg)(TKeeper:TC K cKeeper nK)(TAttempt:TC K cAttempt nA)(M_Attempt_instant:c6 P w K mg base cAttempt "instant" k ["self"] b7):c6 P w K mg base cKeeper "order" (k+3+1) ["self"] (fnU 1 1 (d9 b7 cKeeper cAttempt (zOf pO))):=by
 have hC:=cd;obtain⟨_,_,_,_,_,_,_,hC⟩:=hC;exact d.pureC cd j4 fun f A outer s H E hr=>a6 (zF (Bt (x:="self") (pa:="a") (k:=0) (kr:=k) (cx:=s.heap.objs.size+1) ⟨rfl,rfl,rfl,rfl,rfl,rfl,rfl,by decide,fun _ _ _ _ _=>rfl,fun f' cd' A' s' H' hr'=>uO TAttempt.cl M_Attempt_instant hr' (TAttempt.nm (by decide +kernel)) (Jc (c7 hr') (Bv TKeeper.cl (TKeeper.na 5 rfl) (TKeeper.ix rfl) (xO (wpv 1))) (xO (wpv 0)) (fun _ _=>rfl) (fun _ _=>rfl))⟩ hr rfl rfl B.sorted OG.fK (Bv TKeeper.cl (TKeeper.na 5 rfl) (TKeeper.ix rfl) (xO (wpv 0))) rfl hC bm rfl rfl))
def iO:aM ["self"] ["self"] (aq f7):=fsc
theorem oe{k:Nat}{cKeeper:Cl}(d:MtD K cKeeper.C "now" "Keeper.now" f7 ["self"])(B:Blt mg)(TKeeper:TC K cKeeper nK):c6 P w K mg base cKeeper "now" (k+1) ["self"] (fnU 1 1 (gy cKeeper)):=
 d.pure iO fun f cdv A outer s H E hr=>(by
  have hu:=c7 hr;have nd:=iO.nd;exact(qr (dP fD pM rfl B.tuple OG.jt (ae (qf TKeeper rfl (qv 0)) ax))))
def fV:aM ["self"] ["self"] (aq eU):=fsc
theorem lF{k:Nat}{cKeeper:Cl}(d:MtD K cKeeper.C "clock" "Keeper.clock" eU ["self"])(B:Blt mg)(TKeeper:TC K cKeeper nK):c6 P w K mg base cKeeper "clock" (k+1) ["self"] (fnU 1 1 (eZ cKeeper)):=
 d.pure fV fun f cdv A outer s H E hr=>(by
  have hu:=c7 hr;have nd:=fV.nd;exact(qr (qf TKeeper rfl (qv 0))))
def jB:aM ["script","k","number","stir","found","turn"] ["script","k"] (aq hR):=fsc
theorem qb{k:Nat}(d:Def K mg "_law_well" hR ["script","k"])(B:Blt mg):mq P w K mg base "_law_well" (k+1) ["script","k"] (fnU 6 2 (fE )):=
 d.pure jB fun f cdv A outer s H E hr=>(by
  have hu:=c7 hr;have nd:=jB.nd;exact(ak (qss 2 nd (iR ke kb (iR jH pN qI (qv 1)) qI))
   (ak (cg (bu vj EM (qv 1) (bS lu lh rfl B.len PySem.boot_len (ae (qv 0) ax)) (aX _)) (a6 (qss 2 nd (qx hu (qv 0) (qv 1)))) bC)
   (ak (cg (bu hX pQ (iR jI nV (qv 2) qI) qI (aX _)) (qr (iS (ae (iR rk EN (qv 2) qI) ax))) bC)
   (ak (qss 3 nd (iR jI nV (iR ke kb (iR ke kb (iR jH pN (qv 2) qI) (iR jH pN qI (qv 1))) qI) qI))
   (ak (qss 4 nd qI)
   (ak (gm PassesOwn.never rfl (fj rfl B.range (ae qI ax)) (bH (aU (i:=5) nd rfl (by trivial))) (ak (qss 3 nd (iR jI nV (iR ke kb (iR ke kb (iR ke kb (iR jH pN (qv 3) (qv 3)) (iR jH pN qI (qv 3))) (iR jH pN qI (qv 5))) qI) qI))
   (a6 (qss 4 nd (iR ke kb (iR jH pN (qv 4) qI) (qv 3))))))
   (qr (iS (ae (qv 4) ax))))))))))
def j3:aM ["well","many","digit"] ["well","many"] (aq jh):=fsc
theorem sU{k:Nat}(d:Def K mg "_law_sip" jh ["well","many"])(B:Blt mg):mq P w K mg base "_law_sip" (k+1) ["well","many"] (fnU 3 2 (jr )):=
 d.pure j3 fun f cdv A outer s H E hr=>(by
  have hu:=c7 hr;have nd:=j3.nd;exact(ak (qss 2 nd (iR jI nV (qx hu (qv 0) qI) (qv 1)))
   (ak (bY hu (qv 0) qI (iR rk EN (qx hu (qv 0) qI) (qv 1)))
   (qr (qv 2)))))
def iM:aM ["well","n","w"] ["well"] (aq fY):=fsc
def gw(aL:Fn):CS:=
 (bq (eI 1 (cOp l7 (cC (.int 1)) (cCB aL (ag (ah 0) (ag (cOp fIx (kQ (ag (cC (.int 2)) (ag (cC (.int 3)) (ag (cC (.int 6)) aG)))) (cCB aL (ag (ah 0) (ag (cC (.int 3)) aG)))) aG)))))
  (bq (eI 2 (cOp fIx (kQ (ag (cC (.int 2)) (ag (cC (.int 3)) (ag (cC (.int 7)) (ag (cC (.int 1000)) aG))))) (cCB aL (ag (ah 0) (ag (cC (.int 4)) aG)))))
  (eC (kN (ag (kN (ag (ah 1) (ag (ah 2) aG))) (ag (cCB jK (ag (i7 (bU (ag (ah 1) aG)) (gNm 0) (cCB aL (ag (ah 1) (ag (ah 2) aG))) 1 [0,2]) aG)) aG))))))
theorem n9{k:Nat}{aL:Fn}(d:Def K mg "_law_world" fY ["well"])(B:Blt mg)(bb:mq P w K mg base "_law_sip" (k) ["well","many"] aL):mq P w K mg base "_law_world" (k+1) ["well"] (fnU 3 1 (gw aL)):=
 d.pure iM fun f cdv A outer s H E hr=>(by
  have hu:=c7 hr;have nd:=iM.nd;exact(ak (qss 1 nd (iR ke kb qI (dJ bb hr rfl (ae (qv 0) (ae (qx hu (iS (ae qI (ae qI (ae qI ax)))) (dJ bb hr rfl (ae (qv 0) (ae qI ax)))) ax)))))
   (ak (qss 2 nd (qx hu (iS (ae qI (ae qI (ae qI (ae qI ax))))) (dJ bb hr rfl (ae (qv 0) (ae qI ax)))))
   (qr (fQ (ae (fQ (ae (qv 1) (ae (qv 2) ax))) (ae (dP fD pM rfl B.tuple OG.jt (ae (zI (Nc:=["box","well","w"]) (tn:=["box"]) (capN:=["well","w"]) (caps:=[0,2]) rfl (fj rfl B.range (ae (qv 1) ax)) (fun _ _ _=>(bH (aU (i:=0) (show(["box","well","w"]:List Str).Nodup by decide +kernel) rfl (by trivial)))) (fun _ _ _=>(dJ bb hr rfl (ae (qv 1) (ae (qv 2) ax)))) rfl rfl (by decide +kernel) (by decide +kernel) ⟨rfl,rfl,trivial⟩ rfl (.cons ⟨rfl,rfl,rfl,_,rfl⟩ (.cons ⟨rfl,rfl,rfl,_,rfl⟩ .nil)) rfl rfl) ax)) ax)))))))
def jC:aM ["well","world","keeper","a","phase","box","way"] ["well","world","keeper","a","phase"] (aq hU):=fsc
def iC(aL aS a9 bo a8:Fn)(cKeeper:Cl):CS:=
 (bq (fg (aK (cOp fEq (ah 4) (cC (.str "taken")))) (eC (cOp fIx (kQ (ag (cC (.str "taken")) (ag (cC (.str "off")) aG))) (cCB wj (ag (cOp fEq (bp cKeeper aS (ah 2) (ag (ah 3) aG)) (cC (.str "done"))) aG)))) bX)
  (bq (eI 5 (cCB aL (ag (ah 0) (ag (cOp fIx (ah 1) (cC (.int 0))) aG))))
  (bq (eI 6 (cCB aL (ag (ah 0) (ag (cC (.int 14)) aG))))
  (bq (fg (aK (cOp fLt (ah 6) (cC (.int 7)))) (eC (cOp fIx (kQ (ag (cC (.str "on")) (ag (cC (.str "off")) aG))) (cCB wj (ag (cOp (iq false) (bp cKeeper a9 (ah 2) (ag (ah 3) (ag (ah 5) aG))) (kN (ag (cC (.str "falls")) aG))) aG)))) bX)
  (bq (fg (aK (cOp fLt (ah 6) (cC (.int 11)))) (bq (fH (bp cKeeper bo (ah 2) (ag (ah 3) (ag (ah 5) (ag (cCB aL (ag (ah 0) (ag (cOp fIx (ah 1) (cC (.int 1))) aG))) aG)))))
  (eC (cC (.str "on")))) bX)
  (eC (cOp fIx (kQ (ag (cC (.str "off")) (ag (cC (.str "taken")) aG))) (cCB wj (ag (cOp fEq (bp cKeeper a8 (ah 2) (ag (ah 3) aG)) (cC (.str "taken"))) aG)))))))))
theorem qc{k:Nat}{aL aS a9 bo a8:Fn}{cKeeper:Cl}(d:Def K mg "_law_step" hU ["well","world","keeper","a","phase"])(B:Blt mg)(TKeeper:TC K cKeeper nK)(bb:mq P w K mg base "_law_sip" (k) ["well","many"] aL)(M_Keeper_write:c6 P w K mg base cKeeper "write" (k) ["self","a"] aS)(M_Keeper_look:c6 P w K mg base cKeeper "look" (k) ["self","a","b"] a9)(M_Keeper_put:c6 P w K mg base cKeeper "put" (k) ["self","a","b","v"] bo)(M_Keeper_take:c6 P w K mg base cKeeper "take" (k) ["self","a"] a8):mq P w K mg base "_law_step" (k+1) ["well","world","keeper","a","phase"] (fnU 7 5 (iC aL aS a9 bo a8 cKeeper)):=
 d.pure jC fun f cdv A outer s H E hr=>(by
  have hu:=c7 hr;have nd:=jC.nd;exact(ak (cg (bu hX pQ (qv 4) qS (aX _)) (qr (qx hu (iS (ae qS (ae qS ax))) (dP kM BU rfl B.int OG.nq (ae (mD hX pQ (qm TKeeper M_Keeper_write hr (qv 2) (ae (qv 3) ax)) qS (aX _)) ax)))) bC)
   (ak (qss 5 nd (dJ bb hr rfl (ae (qv 0) (ae (qx hu (qv 1) qI) ax))))
   (ak (qss 6 nd (dJ bb hr rfl (ae (qv 0) (ae qI ax))))
   (ak (cg (bu vj EM (qv 6) qI (aX _)) (qr (qx hu (iS (ae qS (ae qS ax))) (dP kM BU rfl B.int OG.nq (ae (mD (nX hr.units) mI (qm TKeeper M_Keeper_look hr (qv 2) (ae (qv 3) (ae (qv 5) ax))) (fQ (ae qS ax)) (aX _)) ax)))) bC)
   (ak (cg (bu vj EM (qv 6) qI (aX _)) (ak (cE (qm TKeeper M_Keeper_put hr (qv 2) (ae (qv 3) (ae (qv 5) (ae (dJ bb hr rfl (ae (qv 0) (ae (qx hu (qv 1) qI) ax))) ax)))))
   (qr qS)) bC)
   (qr (qx hu (iS (ae qS (ae qS ax))) (dP kM BU rfl B.int OG.nq (ae (mD hX pQ (qm TKeeper M_Keeper_take hr (qv 2) (ae (qv 3) ax)) qS (aX _)) ax))))))))))
theorem jA:aM ["well","world","state","most","many","keeper","phase","turn","going","a"] ["well","world","state","most","many"] (aq hJ):=fsc
def dR(aL dh aN aR:Fn)(cKeeper:Cl):CS:=
 (bq (eI 8 (i6 (ah 6) (gNm 0) (aK (cOp fNe (cOp fIx (ah 1) (ah 0)) (cC (.str "off")))) (ah 0) 1 [6]))
  (fg (tF (aK (cOp fLt (cCB kG (ag (ah 6) aG)) (ah 3))) (cOr (aK (cOp (iq false) (ah 8) (kQ aG))) (aK (cOp fEq (cCB aL (ag (ah 0) (ag (cC (.int 5)) aG))) (cC (.int 0)))))) (bq (fH (bp cKeeper aN (ah 5) (ag (cCB kG (ag (ah 6) aG)) aG)))
  (eB (ah 6) (cCB kG (ag (ah 6) aG)) (cC (.str "on")))) (fg (aK (cOp (iq true) (ah 8) (kQ aG))) (bq (eI 9 (cOp fIx (ah 8) (cCB aL (ag (ah 0) (ag (cCB kG (ag (ah 8) aG)) aG)))))
  (eB (ah 6) (ah 9) (cCB dh (ag (ah 0) (ag (ah 1) (ag (ah 5) (ag (ah 9) (ag (cOp fIx (ah 6) (ah 9)) aG)))))))) bX)))
def iB(aL dh aN aR:Fn)(cKeeper:Cl):CS:=
 (bq (eI 5 (cCB (kF cKeeper aR) (ag (ah 1) (ag (ah 2) aG))))
  (bq (eI 6 lL)
  (bq (kR (bU (ag (ah 4) aG)) (gNm 7) (dR aL dh aN aR cKeeper))
  (eC (ah 5)))))
theorem p8{k:Nat}{aL dh aN aR:Fn}{cKeeper:Cl}(d:Def K mg "_law_wild" hJ ["well","world","state","most","many"])(B:Blt mg)(TKeeper:TC K cKeeper nK)(bb:mq P w K mg base "_law_sip" (k+1) ["well","many"] aL)(iI:mq P w K mg base "_law_step" (k+1) ["well","world","keeper","a","phase"] dh)(M_Keeper_begin:c6 P w K mg base cKeeper "begin" (k+1) ["self","a"] aN)(M_Keeper:CMk P w K mg base cKeeper "Keeper" k ["self","world","state"] aR):mq P w K mg base "_law_wild" (k+1+1) ["well","world","state","most","many"] (fnU 10 5 (iB aL dh aN aR cKeeper)):=
 d.pure jA fun f cdv A outer s H E hr=>(by
  have hu:=c7 hr;have nd:=jA.nd;exact(ak (qss 5 nd (uP M_Keeper hr rfl (ae (qv 1) (ae (qv 2) ax))))
   (ak (qss 6 nd jG)
   (ak (gm PassesOwn.never rfl (fj rfl B.range (ae (qv 4) ax)) (bH (aU (i:=7) nd rfl (by trivial))) (ak (mC (Nc:=["a","phase"]) (tn:=["a"]) (capN:=["phase"]) (caps:=[6]) rfl (qv 6) (fun _ _ _=>(bH (aU (i:=0) (show(["a","phase"]:List Str).Nodup by decide +kernel) rfl (by trivial)))) (fun _ _ _=>(bu yl F7 (qx hu (qv 1) (qv 0)) qS (aX _))) (fun _ _ _=>(qv 0)) rfl rfl (by decide +kernel) (by decide +kernel) ⟨rfl,trivial⟩ rfl (.cons ⟨rfl,rfl,rfl,_,rfl⟩ .nil) rfl rfl nd rfl rfl rfl)
   (a6 (cg (w8 (sJ (bu vj EM (bS lu lh rfl B.len PySem.boot_len (ae (qv 6) ax)) (qv 3) (aX _)) (lS (w8 (Ef (bu (nX hr.units) mI (qv 8) (iS ax) (aX _)) (xQ (bu hX pQ (dJ bb hr rfl (ae (qv 0) (ae qI ax))) qI (aX _)))))))) (ak (cE (qm TKeeper M_Keeper_begin hr (qv 5) (ae (bS lu lh rfl B.len PySem.boot_len (ae (qv 6) ax)) ax)))
   (a6 (bY hu (qv 6) (bS lu lh rfl B.len PySem.boot_len (ae (qv 6) ax)) qS))) (a6 (cg (bu (rj hr.units) mI (qv 8) (iS ax) (aX _)) (ak (qss 9 nd (qx hu (qv 8) (dJ bb hr rfl (ae (qv 0) (ae (bS lu lh rfl B.len PySem.boot_len (ae (qv 8) ax)) ax)))))
   (a6 (bY hu (qv 6) (qv 9) (dJ iI hr rfl (ae (qv 0) (ae (qv 1) (ae (qv 5) (ae (qv 9) (ae (qx hu (qv 6) (qv 9)) ax))))))))) bC))))))
   (qr (qv 5))))))
theorem jD:aM ["state","log","order","boxes","a","own","done","event","box","number"] ["state","log","order"] (aq hV):=fsc
def cY:CS:=
 (fg (tF (aK (cOp (fIn false) (cOp fIx (ah 7) (cC (.int 0))) (kN (ag (cC (.str "look")) (ag (cC (.str "put")) aG))))) (aK (cOp fEq (cOp fIx (ah 7) (cC (.int 1))) (ah 4)))) (bq (FJ (Ag (ah 7) (some (cC (.int 2))) none) (gTp [8,9]))
  (bq (fg (tF (aK (cOp fEq (cOp fIx (ah 7) (cC (.int 0))) (cC (.str "look")))) (aK (cOp fNe (ah 9) (qt (ah 5) (ah 8) (cOp fIx (ah 3) (ah 8)))))) (eC (cC .non)) bX)
  (fg (aK (cOp fEq (cOp fIx (ah 7) (cC (.int 0))) (cC (.str "put")))) (eB (ah 5) (ah 8) (ah 9)) bX))) bX)
def cX:CS:=
 (eB (ah 3) (ah 8) (cOp fIx (ah 5) (ah 8)))
def dU:CS:=
 (bq (eI 5 lL)
  (bq (eI 6 (cOp (CY false) (kN (ag (cC (.str "done")) (ag (ah 4) aG))) (ah 1)))
  (bq (kR (iTp (ah 1)) (gNm 7) (cY ))
  (fg (aK (ah 6)) (oF (ah 5) (gNm 8) (cX )) bX))))
def iD:CS:=
 (bq (eI 3 (cCB oj (ag (ah 0) aG)))
  (bq (kR (iTp (ah 2)) (gNm 4) (dU ))
  (eC (cCB jK (ag (ah 3) aG)))))
theorem qd{k:Nat}(d:Def K mg "_law_sees" hV ["state","log","order"])(B:Blt mg):mq P w K mg base "_law_sees" (k+1) ["state","log","order"] (fnU 10 3 (iD )):=
 d.pure jD fun f cdv A outer s H E hr=>(by
  have hu:=c7 hr;have nd:=jD.nd;exact(ak (qss 3 nd (dP gv va rfl B.list OG.i8 (ae (qv 0) ax)))
   (ak (gm PassesOwn.never rfl (jE (qv 2)) (bH (aU (i:=4) nd rfl (by trivial))) (ak (qss 5 nd jG)
   (ak (qss 6 nd (mD (ES hr.units) HM (fQ (ae qS (ae (qv 4) ax))) (qv 1) (by with_unfolding_all rfl)))
   (ak (gm PassesOwn.never rfl (jE (qv 1)) (bH (aU (i:=7) nd rfl (by trivial))) (a6 (cg (w8 (sJ (uN hu (qx hu (qv 7) qI) (fQ (ae qS (ae qS ax))) (by with_unfolding_all rfl)) (lS (bu hX pQ (qx hu (qv 7) qI) (qv 4) (aX _))))) (ak (zG (Ee (qv 7) (pI qI) pJ) (uM rfl (gK (aU (i:=8) nd rfl (by trivial)) (gK (aU (i:=9) nd rfl (by trivial)) pK))))
   (ak (cg (w8 (sJ (bu hX pQ (qx hu (qv 7) qI) qS (aX _)) (lS (bu yl F7 (qv 9) (uQ hu (qv 5) (qv 8) (qx hu (qv 3) (qv 8)) ⟨rfl,rfl,rfl,rfl⟩) (aX _))))) (qr qN) bC)
   (a6 (cg (bu hX pQ (qx hu (qv 7) qI) qS (aX _)) (a6 (bY hu (qv 5) (qv 8) (qv 9))) bC)))) bC)))
   (a6 (cg (jF (qv 6)) (a6 (uL PassesOwn.never rfl (qv 5) (bH (aU (i:=8) nd rfl (by trivial))) (a6 (bY hu (qv 3) (qv 8) (qx hu (qv 5) (qv 8)))))) bC))))))
   (qr (dP fD pM rfl B.tuple OG.jt (ae (qv 3) ax))))))
def eL:aM ["log","order","first","last","at","event","k","other"] ["log","order"] (aq de):=fsc
def bN:CS:=
 (bq (fg (aK (cOp fEq (cOp fIx (ah 5) (cC (.int 0))) (cC (.str "begin")))) (eB (ah 2) (cOp fIx (ah 5) (cC (.int 1))) (ah 4)) bX)
  (fg (aK (cOp (fIn false) (cOp fIx (ah 5) (cC (.int 0))) (kN (ag (cC (.str "done")) (ag (cC (.str "fall")) aG))))) (eB (ah 3) (cOp fIx (ah 5) (cC (.int 1))) (ah 4)) bX))
def cN:CS:=
 (fg (tF (aK (cOp (fIn false) (ah 7) (ah 3))) (aK (cOp fLt (cOp fIx (ah 3) (ah 7)) (cOp fIx (ah 2) (cOp fIx (ah 1) (ah 6)))))) (eC (cC (.bl false))) bX)
def cM:CS:=
 (kR (iTp (cSl (ah 1) (some (cOp l7 (ah 6) (cC (.int 1)))) none)) (gNm 7) (cN ))
def dk:CS:=
 (bq (eI 2 lL)
  (bq (eI 3 lL)
  (bq (kR (yC (ah 0)) (gTp [4,5]) (bN ))
  (bq (kR (bU (ag (cCB kG (ag (ah 1) aG)) aG)) (gNm 6) (cM ))
  (eC (cC (.bl true)))))))
theorem jn{k:Nat}(d:Def K mg "_law_keeps_time" de ["log","order"])(B:Blt mg):mq P w K mg base "_law_keeps_time" (k+1) ["log","order"] (fnU 8 2 (dk )):=
 d.pure eL fun f cdv A outer s H E hr=>(by
  have hu:=c7 hr;have nd:=eL.nd;exact(ak (qss 2 nd jG)
   (ak (qss 3 nd jG)
   (ak (gm PassesOwn.never rfl (Bs rfl B.enumerate (qv 0)) (uM rfl (gK (aU (i:=4) nd rfl (by trivial)) (gK (aU (i:=5) nd rfl (by trivial)) pK))) (ak (cg (bu hX pQ (qx hu (qv 5) qI) qS (aX _)) (a6 (bY hu (qv 2) (qx hu (qv 5) qI) (qv 4))) bC)
   (a6 (cg (uN hu (qx hu (qv 5) qI) (fQ (ae qS (ae qS ax))) (by with_unfolding_all rfl)) (a6 (bY hu (qv 3) (qx hu (qv 5) qI) (qv 4))) bC))))
   (ak (gm PassesOwn.never rfl (fj rfl B.range (ae (bS lu lh rfl B.len PySem.boot_len (ae (qv 1) ax)) ax)) (bH (aU (i:=6) nd rfl (by trivial))) (a6 (gm PassesOwn.never rfl (jE (JS (qv 1) (pI (iR ke kb (qv 6) qI)) pJ)) (bH (aU (i:=7) nd rfl (by trivial))) (a6 (cg (w8 (sJ (uN hu (qv 7) (qv 3) (by with_unfolding_all rfl)) (lS (bu vj EM (qx hu (qv 3) (qv 7)) (qx hu (qv 2) (qx hu (qv 1) (qv 6))) (aX _))))) (qr qB) bC)))))
   (qr qB))))))
def eJ:aM ["keeper","a"] [] (aq dc):=fsc
def cL(aW aN a9 bo a8 aS aF aQ aP aR:Fn)(cKeeper:Cl):CS:=
 (bq (fH (bp cKeeper aN (ah 0) (ag (ah 1) aG)))
  (bq (fH (bp cKeeper a9 (ah 0) (ag (ah 1) (ag (cOp lJ (ah 1) (cC (.int 2))) aG))))
  (bq (fg (aK (cOp fEq (cOp lJ (ah 1) (cC (.int 3))) (cC (.int 0)))) (fH (bp cKeeper bo (ah 0) (ag (ah 1) (ag (cOp lJ (ah 1) (cC (.int 2))) (ag (cOp lJ (ah 1) (cC (.int 5))) aG))))) bX)
  (fg (aK (cOp fEq (bp cKeeper a8 (ah 0) (ag (ah 1) aG)) (cC (.str "taken")))) (fH (bp cKeeper aS (ah 0) (ag (ah 1) aG))) bX))))
def dj(aW aN a9 bo a8 aS aF aQ aP aR:Fn)(cKeeper:Cl):CS:=
 (bq (eI 0 (cCB (kF cKeeper aR) (ag (kN (ag (cC (.int 2)) (ag (cC (.int 5)) aG))) (ag (kN (ag (cC (.int 0)) (ag (cC (.int 0)) aG))) aG))))
  (bq (kR (bU (ag (cC (.int 200)) aG)) (gNm 1) (cL aW aN a9 bo a8 aS aF aQ aP aR cKeeper))
  (eC (yT (cOp (iq false) (bp cKeeper aF (ah 0) aG) (gO (ag (cC (.int 200)) aG))) (cOp (iq false) (cCB aW (ag (kN (ag (cC (.int 0)) (ag (cC (.int 0)) aG))) (ag (bp cKeeper aQ (ah 0) aG) (ag (bp cKeeper aF (ah 0) aG) aG)))) (bp cKeeper aP (ah 0) aG))))))
theorem jm{k:Nat}{aW aN a9 bo a8 aS aF aQ aP aR:Fn}{cKeeper:Cl}(d:Def K mg "_law_long_right" dc [])(B:Blt mg)(TKeeper:TC K cKeeper nK)(dq:mq P w K mg base "_law_sees" (k+1) ["state","log","order"] aW)(M_Keeper_begin:c6 P w K mg base cKeeper "begin" (k+1) ["self","a"] aN)(M_Keeper_look:c6 P w K mg base cKeeper "look" (k+1) ["self","a","b"] a9)(M_Keeper_put:c6 P w K mg base cKeeper "put" (k+1) ["self","a","b","v"] bo)(M_Keeper_take:c6 P w K mg base cKeeper "take" (k+1) ["self","a"] a8)(M_Keeper_write:c6 P w K mg base cKeeper "write" (k+1) ["self","a"] aS)(M_Keeper_order:c6 P w K mg base cKeeper "order" (k+1) ["self"] aF)(M_Keeper_log:c6 P w K mg base cKeeper "log" (k+1) ["self"] aQ)(M_Keeper_now:c6 P w K mg base cKeeper "now" (k+1) ["self"] aP)(M_Keeper:CMk P w K mg base cKeeper "Keeper" k ["self","world","state"] aR):mq P w K mg base "_law_long_right" (k+1+1) [] (fnU 2 0 (dj aW aN a9 bo a8 aS aF aQ aP aR cKeeper)):=
 d.pure eJ fun f cdv A outer s H E hr=>(by
  have hu:=c7 hr;have nd:=eJ.nd;exact(ak (qss 0 nd (uP M_Keeper hr rfl (ae (fQ (ae qI (ae qI ax))) (ae (fQ (ae qI (ae qI ax))) ax))))
   (ak (gm PassesOwn.never rfl (fj rfl B.range (ae qI ax)) (bH (aU (i:=1) nd rfl (by trivial))) (ak (cE (qm TKeeper M_Keeper_begin hr (qv 0) (ae (qv 1) ax)))
   (ak (cE (qm TKeeper M_Keeper_look hr (qv 0) (ae (qv 1) (ae (iR jI nV (qv 1) qI) ax))))
   (ak (cg (bu hX pQ (iR jI nV (qv 1) qI) qI (aX _)) (a6 (cE (qm TKeeper M_Keeper_put hr (qv 0) (ae (qv 1) (ae (iR jI nV (qv 1) qI) (ae (iR jI nV (qv 1) qI) ax)))))) bC)
   (a6 (cg (bu hX pQ (qm TKeeper M_Keeper_take hr (qv 0) (ae (qv 1) ax)) qS (aX _)) (a6 (cE (qm TKeeper M_Keeper_write hr (qv 0) (ae (qv 1) ax)))) bC))))))
   (qr (Ej (mD (nX hr.units) mI (qm0 TKeeper M_Keeper_order hr (qv 0)) (pL rfl rfl B.list rfl B.range (ae qI ax) rfl rfl) (aX _)) (Eg (mD (nX hr.units) mI (dJ dq hr rfl (ae (fQ (ae qI (ae qI ax))) (ae (qm0 TKeeper M_Keeper_log hr (qv 0)) (ae (qm0 TKeeper M_Keeper_order hr (qv 0)) ax)))) (qm0 TKeeper M_Keeper_now hr (qv 0)) (aX _))))))))
theorem zB:aM ["script","k","well","world","state","keeper","log","order","last","took","event"] ["script"] (aq Bn):=fsc
def qy(bW bF bV aW aZ aY aQ aF bB aP:Fn)(cKeeper:Cl):CS:=
 (fg (tF (aK (cOp fEq (cOp fIx (ah 10) (cC (.int 0))) (cC (.str "done")))) (aK (cOp (iq true) (fJ (iTp (ah 6)) (gNm 0) (aK (cOp (iq false) (Ag (ah 0) none (some (cC (.int 2)))) (kN (ag (cC (.str "put")) (ag (cOp fIx (ah 1) (cC (.int 1))) aG))))) (ah 0) 1 [10]) (kQ aG)))) (eI 9 (cOp l7 (ah 9) (cC (.int 1)))) bX)
def qw(bW bF bV aW aZ aY aQ aF bB aP:Fn)(cKeeper:Cl):CS:=
 (bq (eI 2 (cCB bW (ag (ah 0) (ag (ah 1) aG))))
  (bq (FJ (cCB bF (ag (ah 2) aG)) (gTp [3,4]))
  (bq (eI 5 (cCB bV (ag (ah 2) (ag (ah 3) (ag (ah 4) (ag (cC (.int 20)) (ag (cC (.int 120)) aG)))))))
  (bq (eI 6 (bp cKeeper aQ (ah 5) aG))
  (bq (eI 7 (bp cKeeper aF (ah 5) aG))
  (bq (fg (aK (cOp (iq true) (cCB d8 (ag (ah 7) aG)) (cCB d8 (ag (fJ (iTp (ah 6)) (gNm 0) (aK (cOp fEq (cOp fIx (ah 0) (cC (.int 0))) (cC (.str "begin")))) (cOp fIx (ah 0) (cC (.int 1))) 1 []) aG)))) (eC (cC (.bl false))) bX)
  (bq (eI 8 (cCB aW (ag (ah 4) (ag (ah 6) (ag (ah 7) aG)))))
  (bq (fg (cOr (aK (cOp Co (ah 8) (cC .non))) (Gk (aK (cCB aZ (ag (ah 6) (ag (ah 7) aG)))))) (eC (cC (.bl false))) bX)
  (bq (eI 9 (cC (.int 0)))
  (bq (kR (iTp (ah 6)) (gNm 10) (qy bW bF bV aW aZ aY aQ aF bB aP cKeeper))
  (fg (tF (aK (cOp fEq (ah 9) (bp cKeeper bB (ah 5) aG))) (aK (cOp (iq true) (ah 8) (bp cKeeper aP (ah 5) aG)))) (eC (cC (.bl false))) bX)))))))))))
def CB(bW bF bV aW aZ aY aQ aF bB aP:Fn)(cKeeper:Cl):CS:=
 (bq (kR (bU (ag (cCB Gh (ag (cC (.int 2)) (ag (cCB Gg (ag (cC (.int 4)) (ag (cCB kG (ag (ah 0) aG)) aG))) aG))) aG)) (gNm 1) (qw bW bF bV aW aZ aY aQ aF bB aP cKeeper))
  (eC (cCB aY aG)))
theorem Im{k:Nat}{bW bF bV aW aZ aY aQ aF bB aP:Fn}{cKeeper:Cl}{fa pO:Addr}{fd:ZN}(F:Fun K "law" "law" Bn fa fd)(B:Blt mg)(TKeeper:TC K cKeeper nK)(iH:mq P w K mg base "_law_well" (k) ["script","k"] bW)(gI:mq P w K mg base "_law_world" (k) ["well"] bF)(iG:mq P w K mg base "_law_wild" (k) ["well","world","state","most","many"] bV)(dq:mq P w K mg base "_law_sees" (k) ["state","log","order"] aW)(du:mq P w K mg base "_law_keeps_time" (k) ["log","order"] aZ)(dr:mq P w K mg base "_law_long_right" (k) [] aY)(M_Keeper_log:c6 P w K mg base cKeeper "log" (k) ["self"] aQ)(M_Keeper_order:c6 P w K mg base cKeeper "order" (k) ["self"] aF)(M_Keeper_clock:c6 P w K mg base cKeeper "clock" (k) ["self"] bB)(M_Keeper_now:c6 P w K mg base cKeeper "now" (k) ["self"] aP)
  (ok:∀(ns:List Int),ns.length<=63->∃ρ' S',CB bW bF bV aW aZ aY aQ aF bB aP cKeeper [some (.kl ns),none,none,none,none,none,none,none,none,none,none] [zOf pO]=some (.rt (.bl true),ρ',S')):jx P w K mg base CX0 (k+1) fa fd ["script"] (qQ pO K):=by
 refine Fun.okW F zB (fun vs H Q E h=>(by obtain⟨a,ns,rfl,_⟩:=h;rfl)) fun cdv A outer s H vs Q E hr h=>?_;obtain⟨a,ns,rfl,hS,hlen,hpO,q⟩:=h;have hu:=c7 hr;have nd:=zB.nd;exact⟨_,(ak (gm PassesOwn.never rfl (fj rfl B.range (ae (bS (wI rfl) HL rfl B.max OG.yW (ae qI (ae (bS (wH rfl) HK rfl B.min OG.yV (ae qI (ae (bS lu lh rfl B.len PySem.boot_len (ae (qv 0) ax)) ax))) ax))) ax)) (bH (aU (i:=1) nd rfl (by trivial))) (ak (qss 2 nd (dJ iH hr rfl (ae (qv 0) (ae (qv 1) ax))))
   (ak (zG (dJ gI hr rfl (ae (qv 2) ax)) (uM rfl (gK (aU (i:=3) nd rfl (by trivial)) (gK (aU (i:=4) nd rfl (by trivial)) pK))))
   (ak (qss 5 nd (dJ iG hr rfl (ae (qv 2) (ae (qv 3) (ae (qv 4) (ae qI (ae qI ax)))))))
   (ak (qss 6 nd (qm0 TKeeper M_Keeper_log hr (qv 5)))
   (ak (qss 7 nd (qm0 TKeeper M_Keeper_order hr (qv 5)))
   (ak (cg (bu (rj hr.units) mI (bS (mJ rfl) mH rfl B.sorted OG.fK (ae (qv 7) ax)) (bS (mJ rfl) mH rfl B.sorted OG.fK (ae (qW (Nc:=["event"]) (tn:=["event"]) (capN:=[]) (caps:=[]) rfl (jE (qv 6)) (fun _ _ _=>(bH (aU (i:=0) (show(["event"]:List Str).Nodup by decide +kernel) rfl (by trivial)))) (fun _ _ _=>(bu hX pQ (qx hu (qv 0) qI) qS (aX _))) (fun _ _ _=>(qx hu (qv 0) qI)) rfl rfl (by decide +kernel) (by decide +kernel) trivial rfl .nil rfl rfl) ax)) (aX _)) (qr qB) bC)
   (ak (qss 8 nd (dJ dq hr rfl (ae (qv 4) (ae (qv 6) (ae (qv 7) ax)))))
   (ak (cg (w8 (Ef (bu vk BS (qv 8) qN (aX _)) (xQ (zH (jF (dJ du hr rfl (ae (qv 6) (ae (qv 7) ax)))))))) (qr qB) bC)
   (ak (qss 9 nd qI)
   (ak (gm PassesOwn.never rfl (jE (qv 6)) (bH (aU (i:=10) nd rfl (by trivial))) (a6 (cg (w8 (sJ (bu hX pQ (qx hu (qv 10) qI) qS (aX _)) (lS (bu (rj hr.units) mI (qW (Nc:=["one","event"]) (tn:=["one"]) (capN:=["event"]) (caps:=[10]) rfl (jE (qv 6)) (fun _ _ _=>(bH (aU (i:=0) (show(["one","event"]:List Str).Nodup by decide +kernel) rfl (by trivial)))) (fun _ _ _=>(bu (nX hr.units) mI (Ee (qv 0) pJ (pI qI)) (fQ (ae qS (ae (qx hu (qv 1) qI) ax))) (aX _))) (fun _ _ _=>(qv 0)) rfl rfl (by decide +kernel) (by decide +kernel) ⟨rfl,trivial⟩ rfl (.cons ⟨rfl,rfl,rfl,_,rfl⟩ .nil) rfl rfl) (iS ax) (aX _))))) (a6 (qss 9 nd (iR ke kb (qv 9) qI))) bC)))
   (a6 (cg (w8 (sJ (bu hX pQ (qv 9) (qm0 TKeeper M_Keeper_clock hr (qv 5)) (aX _)) (lS (bu (rj hr.units) mI (qv 8) (qm0 TKeeper M_Keeper_now hr (qv 5)) (aX _))))) (qr qB) bC)))))))))))))
   (qr (Bw dr hr rfl))),yt hS hpO (ok ns hlen) q⟩
end
end OL
local macro_rules
 | `(tactic| rwa $s:rwRuleSeq) => do
  let ts : Array (Lean.TSyntax `term) := s.raw[1].getSepArgs.map fun r => ⟨r[1]⟩
  let us : Array (Lean.TSyntax `term) := (("Ak tJ x_c GF Ap Ao tK oZ Hn DH DG JF GD GC GH Di DD AH AG GB Dh Dg Aq tR px pq Gq C7 GN Dk Hh AF ze tM qD De Dd Dc Dw AA GA Df pj tQ tP JH GY GX Am tL Hl DC DB G0 GZ DJ DI Jz Gw Gv Gu Gs GP GQ GR GU Gr C8 C9 Dp Dq Dr Dm AI GL JG JI JJ Ha GJ G6 GI Hb GK G4 G3 at0 at1 at2 at3 ix0 ix1 ix2 Option.bind_some List.getElem?_cons_zero List.getElem?_cons_succ List.set_cons_zero List.set_cons_succ List.length_cons List.length_nil List.map_cons List.map_nil decide_true decide_false Bool.not_true Bool.not_false G5 zi zh JA Gz Gy Gx Dj Au As Ar Av GV GW GO Ds JL Hk Hj Hi Hm JK Hg Hf He Hd Hc Dx JE x_p JD JC JB Dz AE AD C4 C5 C6 Aw Ax Ay Dv ga ga0 gs gs0 Option.join_some Nat.add_zero List.cons_append List.nil_append List.append_assoc" : String).splitOn " ").toArray.map fun x => ⟨(Lean.mkIdent ((x.splitOn ".").foldl Lean.Name.str Lean.Name.anonymous)).raw⟩
  let vs:=ts++us
  `(tactic| simp only [$[$vs:term],*])
namespace OQ
open PySem PySem.Spec PyProof.Rows L2 OG OP
def l9{m:Int}(h0:0<=m)(h:m<2^60):m.natAbs.log2<9000:=vE h0 h
def jP(lk:List Int)(b:Int):List Int:=if b∈lk then lk else lk++[b]
def CZ(lk:List Int):List (Key×U):=lk.map fun b=>(.inl b,.bl true)
theorem xS(b:Int)(lk:List Int):cQ (CZ lk) (.inl b) (.bl true)=CZ (jP lk b):=by
 have ha:((CZ lk).any fun kv=>decide (kv.1=Sum.inl b))=decide (b∈lk):=by
  unfold CZ;induction lk with
  |nil=>rfl
  |cons k r ih=>
   simp only[QN,ZH,ih];by_cases e:k=b
   ·subst e;simp
   ·rw[decide_eq_false (fun z:(Sum.inl k:Key)=Sum.inl b=>e (Sum.inl.inj z))];simp[Ne.symm e]
 unfold cQ jP;rw[ha];by_cases c:b∈lk
 ·rw[if_pos (decide_eq_true c),if_pos c];unfold CZ;rw[Qo];refine Ql fun p _=>?_;simp only[Function.comp];split<;>rfl
 ·rw[if_neg (by simpa using c),if_neg c];simp[CZ]
def vx{α:Type}{l:List α}{k:Nat}{x:α}(h:l[k]?=some x):k<l.length:=(Q6.mp h).1
def av{α:Type}{l r:List α}{k:Nat}{x:α}(h:l[k]?=some x):(l++r)[k]?=some x:=by rw[Qt (vx h)];exact h
theorem pC(b v j:Int)(ps:List (Int×Int)):aJ (cQ ps b v) j=if j=b then some v else aJ ps j:=by
 have e1:∀ps:List (Int×Int),aJ ps j=(gP (ps.map fun p=>(p.1,V.int p.2)) j).map fun x=>match x with|.int i=>i|_=>0:=fun ps=>by
  unfold aJ gP;induction ps with
  |nil=>rfl
  |cons p r ih=>
   simp only[QN,Qd];by_cases e:p.1=j
   ·simp[e]
   ·rw[decide_eq_false e];exact ih
 have e2:(cQ ps b v).map (fun p=>(p.1,V.int p.2))=nz (ps.map fun p=>(p.1,V.int p.2)) b (.int v):=by
  unfold cQ nz;have:(ps.map fun p=>(p.1,V.int p.2)).any (fun kv=>decide (kv.1=b))=ps.any fun kv=>decide (kv.1=b):=by rw[List.any_map];rfl
  rw[this];split
  ·rw[Qo,Qo];refine Ql fun p _=>?_;simp only[Function.comp];split<;>rfl
  ·simp
 rw[e1,e2,xC];split
 ·rfl
 ·exact(e1 ps).symm
def Az{x:U}{S:Sto}:Co x .non S=some (.bl (pZ x),S):=rfl
def GG{x:U}{S:Sto}:yH x .non S=some (.bl (!pZ x),S):=rfl
def zR:pZ .non=true:=rfl
def zS{i:Int}:pZ (.int i)=false:=rfl
theorem mf{ok:Sto->Prop}{g:CG}{ct:CT}{ce:CE}{l:Nat}{ρ:Rho}{S:Sto}(h:ok S):bL ok g ct ce l [] ρ S=some S:=by rw[bL,if_pos h]
theorem oz{ok:Sto->Prop}{g:CG}{ct:CT}{ce:CE}{l:Nat}{ρ ρ0:Rho}{S S0 S1:Sto}{u:U}{us:List U}(h:ok S)(hg:g u ρ S=some (ρ0,S0))(ht:ct ρ0 S0=some (false,S1)):bL ok g ct ce l (u::us) ρ S=bL ok g ct ce l us ρ0 S1:=by
 rw[bL,if_pos h,hg,QX,ht,QX,if_neg Q9]
theorem me{ok:Sto->Prop}{g:CG}{ct:CT}{ce:CE}{l:Nat}{ρ ρ0:Rho}{S S0 S1 S2:Sto}{u x:U}{us ys:List U}(h:ok S)(hg:g u ρ S=some (ρ0,S0))(ht:ct ρ0 S0=some (true,S1))(he:ce ρ0 S1=some (x,S2))(hl:S2[l]?=some (.lst ys))(hn:ys.length<LIM) :
  bL ok g ct ce l (u::us) ρ S=bL ok g ct ce l us ρ0 (S2.set l (.lst (ys++[x]))):=by
 rw[bL,if_pos h,hg,QX,ht,QX,if_pos rfl,he,QX];simp only[hl,hn,if_true]
def Lay(k:Nat)(S:Sto)(u:U):Prop:=∃d,Dt S u d/\d.canLay0=true/\d.depth<=k
def gE(k:Nat)(S:Sto)(u v:U):Prop:=∃d,Dt S u d/\Dt S v d/\d.canLay0=true/\d.depth<=k
def gD(k:Nat)(S:Sto)(us vs:List U):Prop:=∃ds,DtL S us ds/\DtL S vs ds/\PyData.canLayAll0 ds=true/\PyData.depthAll ds<=k
section
variable{k:Nat}{S:Sto}{u v:U}{us vs:List U}
def Lay.int{i:Int}:Lay k S (.int i):=⟨_,.int i,rfl,Z6 _⟩
def gE.refl(h:Lay k S u):gE k S u u:=by obtain⟨d,a,b,c⟩:=h;exact⟨d,a,a,b,c⟩
def gD.nil:gD k S [] []:=⟨[],.nil,.nil,rfl,Z6 _⟩
theorem gD.cons(h:gE k S u v)(t:gD k S us vs):gD k S (u::us) (v::vs):=by
 obtain⟨d,a,b,c,e⟩:=h;obtain⟨ds,a',b',c',e'⟩:=t;refine⟨d::ds,.cons a a',.cons b b',by unfold PyData.canLayAll0;rw[c,c'];rfl,?_⟩;unfold PyData.depthAll;exact Nat.max_le.mpr ⟨e,e'⟩
theorem gD.all:∀{us:List U},(∀u∈us,Lay k S u)->gD k S us us
 |[],_=>.nil
 |u::us,h=>.cons (.refl (h u QZ)) (gD.all fun x hx=>h x (QQ _ hx))
theorem gE.tup(h:gD k S us vs):gE (k+1) S (.tup us) (.tup vs):=by
 obtain⟨ds,a,b,c,e⟩:=h;refine⟨.tuple ds,.tup a,.tup b,by unfold PyData.canLay0;exact c,?_⟩;unfold PyData.depth;omega
theorem gE.lst{l l':Nat}(h1:S[l]?=some (.lst us))(h2:S[l']?=some (.lst vs))(h:gD k S us vs):gE (k+1) S (.ref l) (.ref l'):=by
 obtain⟨ds,a,b,c,e⟩:=h;refine⟨.list ds,.lst h1 a,.lst h2 b,by unfold PyData.canLay0;exact c,?_⟩;unfold PyData.depth;omega
theorem Lay.tup(h:∀u∈us,Lay k S u):Lay (k+1) S (.tup us):=by
 obtain⟨d,a,_,b,c⟩:=gE.tup (gD.all h);exact⟨d,a,b,c⟩
theorem gE.eq(h:gE k S u v)(hk:k<=60):iq false u v S=some (.bl true,S):=by
 obtain⟨d,a,b,c,e⟩:=h;exact ik false (.inl ⟨d,d,a,b,⟨c,Qb e hk⟩,⟨c,Qb e hk⟩,(SeqAt.eqv_refl d c).symm⟩)
theorem gE.ne(h:gE k S u v)(hk:k<=60):iq true u v S=some (.bl false,S):=by
 obtain⟨d,a,b,c,e⟩:=h;exact ik true (.inl ⟨d,d,a,b,⟨c,Qb e hk⟩,⟨c,Qb e hk⟩,(SeqAt.eqv_refl d c).symm⟩)
theorem Lay.ints{ns:List Int}:Lay 1 S (.tup (ns.map U.int)):=.tup fun u hu=>by
 obtain⟨i,_,rfl⟩:=Qi.mp hu;exact .int
end
section
variable{S:Sto}{l l':Nat}{us:List U}{u:U}{i:Int}
def rH(l:Nat)(i:Int)(S:Sto):Option O->Option (U×Sto)
 |some (.lst us)=>if 0<=i/\i<us.length/\us.length<=LIM then(us[i.toNat]?).bind fun u=>some (u,S.set l (.lst (us.eraseIdx i.toNat)))else none
 |_=>none
theorem An:l0 (.ref l) [.int i] S=rH l i S S[l]?:=by
 unfold l0 rH;rfl
theorem xh(h0:0<=i)(h1:i<us.length)(hL:us.length<=LIM)(hu:us[i.toNat]?=some u):rH l i S (some (.lst us))=some (u,S.set l (.lst (us.eraseIdx i.toNat))):=by
 simp only[rH];rw[if_pos ⟨h0,h1,hL⟩,hu,QX]
theorem EX(neg:Bool)(h:S[l]?=some (.lst us))(h':S[l']?=some (.lst [])):iq neg (.ref l) (.ref l') S=some (.bl (if neg then !decide (us=[])else decide (us=[])),S):=by
 by_cases e:us=[]
 ·subst e;have k:=(gE.lst (k:=0) h h' .nil);obtain⟨d,a,b,c,e⟩:=k;rw[decide_eq_true rfl];exact ik neg (.inl ⟨d,d,a,b,⟨c,Qb e (by omega)⟩,⟨c,Qb e (by omega)⟩,(SeqAt.eqv_refl d c).symm⟩)
 ·rw[decide_eq_false e];exact ik neg (.inr ⟨l,l',us,[],rfl,rfl,h,h',by simpa using e,rfl⟩)
end
theorem nR(n:Nat):fi 0 n=((Qz n).map fun i:Nat=>(i:Int)).map U.int:=by
 unfold fi;rw[Qo];refine Ql fun i _=>?_;simp
inductive Ev where
 |beg (a:Int)|look (a b x:Int)|put (a b x:Int)|fin (d:Bool) (a:Int)
structure Att where
 en:Option Bool
 lk:List (Int×Int)
 nd:List (Int×Int)
 ps:List (Int×Int)
 bf:List Int
abbrev St:=List (Int×Att)
theorem cq{κ α:Type}[DecidableEq κ]{ps:List (κ×α)}{k:κ}:aJ ps k=none↔k∉ps.map (·.1):=by
 unfold aJ;rw[Option.map_eq_none_iff,List.find?_eq_none];simp only[decide_eq_true_eq,Qi,not_exists,not_and]
theorem qY{κ α:Type}[DecidableEq κ]{ps:List (κ×α)}{k:κ}{v:α}(h:k∉ps.map (·.1)):cQ ps k v=ps++[(k,v)]:=by
 unfold cQ;rw[if_neg];simp only[List.any_eq_true,decide_eq_true_eq,not_exists,not_and];intro p hp e;exact h (Qi.mpr ⟨p,hp,e⟩)
section
variable{c:Cl}
theorem zj{i:Nat}{u:U}{fus:List (Option U)}{Z:Sto}{l:Nat}(h:Z[l]?=some (.ins c fus))(hu:fus[i]?=some (some u)):CW c i (.ref l,Z)=some (u,Z):=by
 rw[zi,h,zh,hu];rfl
end
theorem jq{α:Type}{ok:Sto->Prop}{gg:CG}{ct:CT}{ce:CE}{S:Sto}{f:α->U}{p:α->Bool}{v:α->U}{Rel:Rho->Prop}(hok:∀ys G,ok (S++(.lst ys::G))) :
  ∀(xs:List α) (ys:List U) (G:Sto) (ρ:Rho),Rel ρ->ys.length+xs.length<=9999->
  (∀x∈xs,∀ys G ρ,Rel ρ->∃ρ0 G1,Rel ρ0/\gg (f x) ρ (S++(.lst ys::G))=some (ρ0,S++(.lst ys::G))/\ct ρ0 (S++(.lst ys::G))=some (p x,S++(.lst ys::(G++G1)))/\
   (p x=true->∃G2,ce ρ0 (S++(.lst ys::(G++G1)))=some (v x,S++(.lst ys::(G++G1++G2)))))->
  ∃G',bL ok gg ct ce S.length (xs.map f) ρ (S++(.lst ys::G))=some (S++(.lst (ys++(xs.filter p).map v)::(G++G')))
 |[],ys,G,ρ,_,_,_=>⟨[],by simp only[ZU,List.filter_nil,Qc];exact mf (hok ys G)⟩
 |x::xs,ys,G,ρ,hr,hl,hb=>by
  rw[QY]at hl;obtain⟨ρ0,G1,r0,h1,h2,h3⟩:=hb x QZ ys G ρ hr;have hb':=fun x (hx:x∈xs)=>hb x (QQ _ hx);cases hp:p x with
  |false=>
   rw[hp]at h2;obtain⟨G',h⟩:=jq hok xs ys (G++G1) ρ0 r0 (by omega) hb';refine⟨G1++G',?_⟩;rw[QN,List.filter_cons_of_neg (by simp[hp])];refine(oz (hok ys G) h1 h2).trans ?_;rw[h,Qk]
  |true=>
   rw[hp]at h2;obtain⟨G2,h4⟩:=h3 hp;obtain⟨G',h⟩:=jq hok xs (ys++[v x]) (G++G1++G2) ρ0 r0 (by simp;omega) hb';refine⟨G1++(G2++G'),?_⟩;rw[QN,List.filter_cons_of_pos hp];refine(me (hok ys G) h1 h2 h4 (by rw[ga0];rfl) (by unfold LIM;omega)).trans ?_;rw[gs0];simp only[List.set_cons_zero];rw[h];simp only[QN,Qk,ZS,ZE]
theorem qT{Z:Sto}{r:Nat}{o o':O}(h:Z[r]?=some o):(Z.set r o').set r o=Z:=by
 rw[List.set_set];refine List.ext_getElem? fun i=>?_;rw[Z9];split
 ·subst i;obtain⟨h1,h2⟩:=Q6.mp h;simp[h1,h2]
 ·rfl
theorem rV:∀ns ms:List Int,PyData.eqv (.list (ns.map PyData.int)) (.list (ms.map PyData.int))=decide (ns=ms)
 |[],[]=>rfl
 |[],_::_=>rfl
 |_::_,[]=>rfl
 |n::ns,m::ms=>by
  have e:PyData.eqv (.list ((n::ns).map PyData.int)) (.list ((m::ms).map PyData.int))=((n == m)&&PyData.eqv (.list (ns.map PyData.int)) (.list (ms.map PyData.int))):=rfl;rw[e,rV ns ms,Zz];simp
theorem mZ{S:Sto}:∀ns:List Int,DtL S (ns.map U.int) (ns.map PyData.int)
 |[]=>.nil
 |n::ns=>.cons (.int n) (mZ ns)
theorem rD(ns:List Int):lM (.list (ns.map PyData.int)):=by
 have h:∀ns:List Int,PyData.canLayAll0 (ns.map PyData.int)=true/\PyData.depthAll (ns.map PyData.int)<=0:=fun ns=>by
  induction ns with
  |nil=>exact⟨rfl,Q8 _⟩
  |cons n r ih=>
   refine⟨by unfold PyData.canLayAll0;rw[QN];exact ih.1,?_⟩;rw[QN];unfold PyData.depthAll;exact Nat.max_le.mpr ⟨Q8 _,ih.2⟩
 refine⟨by unfold PyData.canLay0;exact(h ns).1,?_⟩;unfold PyData.depth;have:=(h ns).2;omega
theorem mQ(neg:Bool){S:Sto}{l l':Nat}{ns ms:List Int}(h:S[l]?=some (.lst (ns.map U.int)))(h':S[l']?=some (.lst (ms.map U.int))):iq neg (.ref l) (.ref l') S=some (.bl (if neg then !decide (ns=ms)else decide (ns=ms)),S):=
 ik neg (.inl ⟨_,_,.lst h (mZ ns),.lst h' (mZ ms),rD ns,rD ms,(rV ns ms).symm⟩)
section
variable{j:Nat}{S:Sto}
def i9:Fn:=fnU 3 2 jr
def oP:Fn:=fnU 6 2 fE
theorem nF{r0 r1 r2:Option U}:∀(ts:List Int) (a f:Int) (r5:Option U),0<=a->a<2147483563->∃a' f' r5',dD (fun _=>True) (gNm 5) dS (ts.map U.int) [r0,r1,r2,some (.int a),some (.int f),r5] S=some (.nx,[r0,r1,r2,some (.int a'),some (.int f'),r5'],S)
 |[],a,f,r5,_,_=>⟨a,f,r5,gM trivial⟩
 |t::ts,a,f,r5,h0,h1=>by
  obtain⟨a',f',r5',ih⟩:=nF (r0:=r0) (r1:=r1) (r2:=r2) ts ((a*a+50021*a+19*t+7) % 2147483563) (f*2147483563+(a*a+50021*a+19*t+7) % 2147483563) (some (.int t)) (Int.emod_nonneg _ (by decide)) (Int.emod_lt_of_pos _ (by decide));refine⟨a',f',r5',(ji trivial rfl ?_).trans ih⟩;have m1:mY (.int a) (.int a) S=some (.int (a*a),S):=pd (.inl ⟨by omega,by omega⟩);have m2:mY (.int 50021) (.int a) S=some (.int (50021*a),S):=pd (.inl (by decide));have m3:mY (.int 19) (.int t) S=some (.int (19*t),S):=pd (.inl (by decide));have m4:mY (.int f) (.int 2147483563) S=some (.int (f*2147483563),S):=pd (.inr (by decide));have m5:∀j:Int,lJ (.int j) (.int 2147483563) S=some (.int (j % 2147483563),S):=fun j=>tN (by decide);rwa[dS,m1,m2,m3,m4,m5]
theorem A6(ns:List Int){k:Int}(k0:0<=k):∃z,oP [.kl ns,.int k] S=some (.ref S.length,S++[.lst [.int z]]):=by
 unfold oP;rw[Ir];have m1:mY (.int 5) (.int k) S=some (.int (5*k),S):=pd (.inl (by decide));have m2:∀j:Int,lJ (.int j) (.int 2) S=some (.int (j % 2),S):=fun j=>tN (by decide);have m3:∀j:Int,zW (.int j) (.int 2) S=some (.int (j / 2),S):=fun j=>Dy ⟨by decide,by decide +kernel⟩;have m4:∀j:Int,mY (.int j) (.int 30011) S=some (.int (j*30011),S):=fun j=>pd (.inr (by decide));have m5:mY (.int 977) (.int k) S=some (.int (977*k),S):=pd (.inl (by decide));have m6:∀j:Int,lJ (.int j) (.int 2147483563) S=some (.int (j % 2147483563),S):=fun j=>tN (by decide);have r60:bU (ag (cC (.int 60)) aG)=fun ρ S=>some (fi 0 60,fun _=>True,S):=rfl;have er:fi 0 60=((Qz 60).map fun i:Nat=>(i:Int)).map U.int:=by rw[nR,Qo]
 have key:∀num:Int,∃z,((bq (fg (aK (cOp fEq (cOp lJ (ah 2) (cC (.int 2))) (cC (.int 0)))) (eC (kQ (ag (cOp zW (ah 2) (cC (.int 2))) aG))) bX)
  (bq (eI 3 (cOp lJ (cOp l7 (cOp l7 (cOp mY (ah 2) (cC (.int 30011))) (cOp mY (cC (.int 977)) (ah 1))) (cC (.int 41))) (cC (.int 2147483563))))
  (bq (eI 4 (cC (.int 0)))
  (bq (kR (bU (ag (cC (.int 60)) aG)) (gNm 5) dS)
  (eC (kQ (ag (ah 4) aG))))))) [some (.kl ns),some (.int k),some (.int num),none,none,none] S).bind kFn=some (.ref S.length,S++[.lst [.int z]]):=fun num=>by
  by_cases e:num % 2=0
  ·refine⟨num / 2,?_⟩;have e':decide (num % 2=0)=true:=decide_eq_true e;rwa[m2,m3,e']
  ·have e':decide (num % 2=0)=false:=decide_eq_false e;obtain⟨a',f',r5',h⟩:=nF (S:=S) (r0:=some (.kl ns)) (r1:=some (.int k)) (r2:=some (.int num)) ((Qz 60).map fun i:Nat=>(i:Int)) ((num*30011+977*k+41) % 2147483563) 0 none (Int.emod_nonneg _ (by decide)) (Int.emod_lt_of_pos _ (by decide));rw[<-er]at h;refine⟨f',?_⟩;rwa[m2,e',m4,m5,m6,kR,r60,h]
 by_cases hk:k<(ns.length:Int)
 ·have hk':decide (k<(ns.length:Int))=true:=decide_eq_true hk;have hi:k.toNat<ns.length:=by omega
  have ha:atI (ns.map U.int) k=some (.int ns[k.toNat]):=by
   have:=ju (xs:=ns.map U.int) (j:=k.toNat) (v:=.int ns[k.toNat]) (by rw[Qu,Q4 hi];rfl);rw[show((k.toNat:Nat):Int)=k from by omega]at this;exact this
  obtain⟨z,h⟩:=key ns[k.toNat];refine⟨z,?_⟩;rw[<-h];simp only[fE,m1,zg,GS,hk',ha,tM,qD,Am,tL,GF,Ap,Ao,Ak,tJ,x_c,AI,pj,tQ,tP,tK,oZ,GL,Hh,AF,tR,px,pq,Aq,QX,Zv,Zk,List.set_cons_zero,List.set_cons_succ,Option.join_some]
 ·have hk':decide (k<(ns.length:Int))=false:=decide_eq_false hk;obtain⟨z,h⟩:=key (5*k+3);refine⟨z,?_⟩;rw[<-h];simp only[fE,m1,zg,hk',tM,qD,Am,tL,GF,Ap,Ao,Ak,tJ,x_c,AI,pj,tQ,tP,tK,oZ,GL,Hh,AF,tR,px,pq,Aq,ze,QX,Zv,Zk,List.set_cons_zero,List.set_cons_succ,Option.join_some]
end
section
variable{S G:Sto}{x:List Int}
theorem ow{α:Type}{ok:Sto->Prop}{gg:CG}{ce:CE}{S:Sto}{f:α->U}{v:α->U}{Rel:Rho->Prop}(hok:∀ys G,ok (S++(.lst ys::G))) :
  ∀(xs:List α) (ys:List U) (G:Sto) (ρ:Rho),Rel ρ->ys.length+xs.length<=9999->
  (∀x∈xs,∀ys G ρ,Rel ρ->∃ρ0,Rel ρ0/\gg (f x) ρ (S++(.lst ys::G))=some (ρ0,S++(.lst ys::G))/\ce ρ0 (S++(.lst ys::G))=some (v x,S++(.lst ys::G)))->
  gu ok gg ce S.length (xs.map f) ρ (S++(.lst ys::G))=some (S++(.lst (ys++xs.map v)::G))
 |[],ys,G,ρ,_,_,_=>by simp only[ZU,Qc];exact m9 (hok ys G)
 |x::xs,ys,G,ρ,hr,hl,hb=>by
  rw[QY]at hl;obtain⟨ρ0,r0,h1,h2⟩:=hb x QZ ys G ρ hr;have h:=ow hok xs (ys++[v x]) G ρ0 r0 (by simp;omega) (fun x hx=>hb x (QQ _ hx));rw[QN];refine(kK (hok ys G) h1 h2 (by rw[ga0];rfl) (by unfold LIM;omega)).trans ?_;rw[gs0];simp only[List.set_cons_zero];rw[h];simp only[QN,Qk,ZS,ZE]
end
section
variable{κ κ' α β:Type}[DecidableEq κ][DecidableEq κ']
theorem xU(kf:κ->κ')(vf:α->β)(inj:∀a b,kf a=kf b->a=b)(ps:List (κ×α))(k:κ)(v:α):cQ (ps.map fun p=>(kf p.1,vf p.2)) (kf k) (vf v)=(cQ ps k v).map fun p=>(kf p.1,vf p.2):=by
 have hd:∀a,decide (kf a=kf k)=decide (a=k):=fun a=>by
  rw[Zz,decide_eq_true_eq,decide_eq_true_eq];exact⟨inj a k,fun h=>by rw[h]⟩
 have ha:((ps.map fun p=>(kf p.1,vf p.2)).any fun kv=>decide (kv.1=kf k))=ps.any fun kv=>decide (kv.1=k):=by
  rw[List.any_map];congr 1;funext p;exact hd p.1
 unfold cQ;rw[ha];by_cases h:(ps.any fun kv=>decide (kv.1=k))=true
 ·rw[if_pos h,if_pos h,Qo,Qo];refine Ql fun p _=>?_;show(if kf p.1=kf k then(kf p.1,vf v)else(kf p.1,vf p.2))=_;by_cases e:p.1=k
  ·simp[e]
  ·have e':¬kf p.1=kf k:=fun z=>e (inj _ _ z);simp[e,e']
 ·rw[if_neg h,if_neg h,List.map_append];rfl
theorem Bz{ps:List (κ×α)}{k:κ}{v:α}(h:(ps.map (·.1)).Nodup):((cQ ps k v).map (·.1)).Nodup:=by
 unfold cQ;by_cases e:(ps.any fun kv=>decide (kv.1=k))=true
 ·rw[if_pos e,Qo];have:((fun x:κ×α=>x.1) ∘ fun kv=>if kv.1=k then(kv.1,v)else kv)=fun x=>x.1:=by
   funext p;show(if p.1=k then(p.1,v)else p).1=p.1;split<;>rfl
  rw[this];exact h
 ·rw[if_neg e,List.map_append,ZT];refine⟨h,by simp,fun a ha b hb z=>?_⟩;rw[List.map_singleton,QB]at hb;obtain⟨p,hp,hp2⟩:=Qi.mp ha;exact e (List.any_eq_true.mpr ⟨p,hp,decide_eq_true (by rw[hp2,z,hb])⟩)
theorem xT{ps:List (κ×α)}{k:κ}{v:α}{q:κ×α}(h:q∈cQ ps k v):q.1=k\/∃p∈ps,p.1=q.1:=by
 unfold cQ at h;split at h
 ·obtain⟨p,hp,e⟩:=Qi.mp h;by_cases z:p.1=k
  ·rw[if_pos z]at e;rw[<-e];exact .inl z
  ·rw[if_neg z]at e;rw[<-e];exact .inr ⟨p,hp,rfl⟩
 ·rcases Qw.mp h with z|z
  ·exact .inr ⟨q,z,rfl⟩
  ·rw[QB.mp z];exact .inl rfl
end
def dz{ca cb:CS}{ρ ρ':Rho}{S S':Sto}(h:ca ρ S=some (.nx,ρ',S')):bq ca cb ρ S=cb ρ' S':=by rw[tM,h,QX,qD]
def Wp{α:Type}(x:Option α)(Q:α->Prop):Prop:=∃r,x=some r/\Q r
section
variable{α:Type}{x:Option α}{Q P:α->Prop}
def Wp.mono(h:Wp x P)(i:∀r,P r->Q r):Wp x Q:=let ⟨r,e,p⟩:=h;⟨r,e,i r p⟩
def Wp.of{r:α}(h:x=some r)(q:Q r):Wp x Q:=⟨r,h,q⟩
end
section
variable{α:Type}{ci:CI}{ca:CE}{gg:CG}{ct t:CT}{ce:CE}{cb:CS}{caps:List Nat}{ρ:Rho}{cs:Rho}{S S1:Sto}{ok:Sto->Prop}{xs:List α}{us:List U}{f v:α->U}{p:α->Bool}{Q:U×Sto->Prop}{R:Out×Rho×Sto->Prop}{l:Nat}
theorem p7(h:ca ρ S=some (.ref l,S1))(hl:S1[l]?=some (.lst us)):iTp ca ρ S=some (us,fun S=>S[l]?=some (.lst us),S1):=by
 unfold iTp;rw[h,QX];simp only[hl]
theorem kB{cr:CA}{n:Int}(h:cr ρ S=some ([.int n],S1))(n0:0<=n)(n1:n<=1000):bU cr ρ S=some (fi 0 n.toNat,fun _=>True,S1):=by
 have hb:-(2^62)<=n/\n<2^62:=by omega
 unfold bU;rw[h,QX];simp only[hb,and_self,if_true]
def lR(n:Nat):fi 0 n=(Qz n).map fun i:Nat=>U.int (i:Int):=by rw[nR,Qo];rfl
theorem uh(hi:ci ρ S=some (xs.map f,ok,S1))(hok:∀G,ok (S1++G))(hn:xs.length<=9000)(hr:pH 1 caps ρ=none::cs)
  (hb:∀x∈xs,∀G,Wp (ct (some (f x)::cs) (S1++G)) fun s=>s.1=p x/\∃G1,s.2=S1++G++G1/\(p x=true->Wp (ce (some (f x)::cs) (S1++G++G1)) fun t=>t.1=v x/\∃G2,t.2=S1++G++G1++G2))
  (hQ:∀G,Q (.ref S1.length,S1++(.lst ((xs.filter p).map v)::G))):Wp (fJ ci (gNm 0) ct ce 1 caps ρ S) Q:=by
 obtain⟨G,e⟩:=jq (S:=S1) (ok:=ok) (gg:=gNm 0) (ct:=ct) (ce:=ce) (f:=f) (p:=p) (v:=v) (Rel:=fun ρ=>∃r0,ρ=r0::cs) (fun ys G=>hok _) xs [] [] (none::cs) ⟨_,rfl⟩ (by simp;omega) (fun x hx ys G ρ hρ=>by
  obtain⟨r0,rfl⟩:=hρ;obtain⟨⟨b,S2⟩,e1,e2,G1,e3,h⟩:=hb x hx (.lst ys::G);dsimp only at e2 e3;subst e2 e3;refine⟨some (f x)::cs,G1,⟨_,rfl⟩,rfl,by rw[e1,Qk,ZS],fun hp=>?_⟩;obtain⟨⟨b,S2⟩,e4,e5,G2,e6⟩:=h hp;dsimp only at e5 e6;subst e5 e6;refine⟨G2,?_⟩;simp only[Qk,ZS]at e4 ⊢;exact e4)
 refine⟨_,?_,hQ G⟩;unfold fJ;rw[hi,QX,hr];dsimp only;rw[e];rfl
theorem zp(hi:ci ρ S=some (us,ok,S1))(h:Wp (dD ok gg cb us ρ S1) R):Wp (kR ci gg cb ρ S) R:=by
 unfold kR;rw[hi];exact h
theorem mv(I:List α->Rho->Sto->Prop)(h0:∀ρ S,I [] ρ S->ok S/\R (.nx,ρ,S))
  (h1:∀x xs ρ S,I (x::xs) ρ S->ok S/\Wp (gg (f x) ρ S) fun r=>Wp (cb r.1 r.2) fun s=>(s.1=.nx/\I xs s.2.1 s.2.2)\/∃v,s.1=.rt v/\R s) :
  ∀(xs:List α) (ρ:Rho) (S:Sto),I xs ρ S->Wp (dD ok gg cb (xs.map f) ρ S) R
 |[],ρ,S,h=>by
  obtain⟨a,b⟩:=h0 ρ S h;exact .of (gM a) b
 |x::xs,ρ,S,h=>by
  obtain⟨a,⟨ρ0,S0⟩,e1,⟨o,ρ1,S1⟩,e2,c⟩:=h1 x xs ρ S h;rcases c with⟨c,i⟩|⟨v,c,q⟩
  ·cases c;obtain⟨r,e3,q⟩:=mv I h0 h1 xs ρ1 S1 i;exact⟨r,(ji a e1 e2).trans e3,q⟩
  ·cases c;exact⟨_,B6 a e1 e2,q⟩
end
abbrev uR(l:Nat):Option U:=some (.ref l)
abbrev uI(i:Int):Option U:=some (.int i)
inductive Pl where
 |k (j f:Nat)|a (j:Nat) (a:Int) (f:Nat)|x (n i:Nat)
deriving DecidableEq
def aE(c:Pl->O)(s:Pl)(o:O):Pl->O:=fun s'=>if s'=s then o else c s'
def fe(pos:Pl->Option Nat)(s:Pl)(p:Nat):Pl->Option Nat:=fun s'=>if s'=s then some p else pos s'
structure Mm(pos:Pl->Option Nat)(c:Pl->O)(T:Sto):Prop where
 at_:∀s p,pos s=some p->T[p]?=some (c s)
 inj:∀s s' p,pos s=some p->pos s'=some p->s=s'
section
variable{pos:Pl->Option Nat}{c:Pl->O}{T:Sto}{s s':Pl}{p:Nat}{o:O}
def aV:aE c s o s=o:=if_pos rfl
def aw(h:s'≠s):aE c s o s'=c s':=if_neg h
def d5:fe pos s p s=some p:=if_pos rfl
def bT(h:s'≠s):fe pos s p s'=pos s':=if_neg h
def Mm.lt(M:Mm pos c T)(h:pos s=some p):p<T.length:=(Q6.mp (M.at_ s p h)).1
def Mm.get(M:Mm pos c T)(h:pos s=some p)(e:c s=o):T[p]?=some o:=by rw[M.at_ s p h,e]
theorem Mm.set(M:Mm pos c T)(h:pos s=some p)(o:O):Mm pos (aE c s o) (T.set p o):=by
 refine⟨fun s' q hq=>?_,M.inj⟩;by_cases e:s'=s
 ·subst e;rw[h]at hq;cases hq;rw[aV,Z9,if_pos rfl,if_pos (M.lt h)]
 ·rw[aw e,Qg (fun z=>by subst z;exact e (M.inj _ _ _ hq h))];exact M.at_ s' q hq
def Mm.app(M:Mm pos c T)(X:Sto):Mm pos c (T++X):=⟨fun s p h=>av (M.at_ s p h),M.inj⟩
theorem Mm.newP(M:Mm pos c T)(h:T[p]?=some o)(hp:∀s',pos s'≠some p)(s:Pl):Mm (fe pos s p) (aE c s o) T:=by
 refine⟨fun s' q hq=>?_,fun s1 s2 q h1 h2=>?_⟩
 ·by_cases e:s'=s
  ·subst e;rw[d5]at hq;cases hq;rw[aV];exact h
  ·rw[bT e]at hq;rw[aw e];exact M.at_ s' q hq
 ·by_cases e1:s1=s
  ·by_cases e2:s2=s
   ·rw[e1,e2]
   ·rw[e1,d5]at h1;rw[bT e2]at h2;cases h1;exact absurd h2 (hp s2)
  ·rw[bT e1]at h1;by_cases e2:s2=s
   ·rw[e2,d5]at h2;cases h2;exact absurd h1 (hp s1)
   ·rw[bT e2]at h2;exact M.inj s1 s2 q h1 h2
theorem Mm.new(M:Mm pos c T)(s:Pl)(o:O)(X:Sto):Mm (fe pos s T.length) (aE c s o) (T++(o::X)):=
 (M.app (o::X)).newP (by rw[ga0];rfl) (fun s' e=>absurd (M.lt e) (ZC _)) s
end
structure Ac where
 g:Int
 lk:List Int
 pu:List (Int×Int)
 st:Option Int
 un:List Int
 op:Bool
structure Kc where
 bx:List Int
 ma:List Int
 ho:List (Int×Int)
 tk:Int
 ev:List U
 ids:List Int
 A:Int->Ac
def dI(l:List (Int×Int)):List (Key×U):=l.map fun p=>(.inl p.1,.int p.2)
def dT(l:List Int):List (Key×U):=l.map fun b=>(.inl b,.bl true)
def stU:Option Int->U
 |none=>.non
 |some t=>.int t
def Kc.up(K:Kc)(a:Int)(v:Ac):Kc:={ K with A:=fun x=>if x=a then v else K.A x }
abbrev kO(cK:Cl)(p:Nat->Nat)(tk:Int):O:=.ins cK [uR (p 1),uR (p 2),uR (p 3),uI tk,uR (p 4),uR (p 5)]
abbrev aO(cA:Cl)(r:Nat->Nat)(g:Int)(s:U)(u:Nat)(o:Bool):O:=.ins cA [uI g,uR (r 1),uR (r 2),some s,uR u,some (.bl o)]
structure Kr(cK cA:Cl)(j:Nat)(pos:Pl->Option Nat)(c:Pl->O)(K:Kc)(p:Nat->Nat)(q:Int->Nat->Nat):Prop where
 pk:∀f,f<6->pos (.k j f)=some (p f)
 c0:c (.k j 0)=kO cK p K.tk
 c1:c (.k j 1)=.lst (K.bx.map U.int)
 c2:c (.k j 2)=.lst (K.ma.map U.int)
 c3:c (.k j 3)=.dic (dI K.ho)
 c4:c (.k j 4)=.lst K.ev
 c5:c (.k j 5)=.dic (K.ids.map fun a=>(.inl a,.ref (q a 0)))
 pa:∀a∈K.ids,∀f,f<4->pos (.a j a f)=some (q a f)
 a0:∀a∈K.ids,c (.a j a 0)=aO cA (q a) ((K.A a).g) (stU (K.A a).st) (q a 3) ((K.A a).op)
 a1:∀a∈K.ids,c (.a j a 1)=.dic (dT (K.A a).lk)
 a2:∀a∈K.ids,c (.a j a 2)=.dic (dI (K.A a).pu)
 a3:∀a∈K.ids,c (.a j a 3)=.lst ((K.A a).un.map U.int)
def own(j:Nat):Pl->Prop
 |.k i _=>i=j
 |.a i _ _=>i=j
 |.x _ _=>False
def Fm(j:Nat)(pos:Pl->Option Nat)(c:Pl->O)(pos':Pl->Option Nat)(c':Pl->O):Prop:=∀s,¬own j s->pos' s=pos s/\c' s=c s
section
variable{cK cA:Cl}{j:Nat}{pos pos' pos'':Pl->Option Nat}{c c' c'':Pl->O}{K:Kc}{p:Nat->Nat}{q:Int->Nat->Nat}{a b:Int}{o:O}{s:Pl}{n:Nat}
def Fm.refl:Fm j pos c pos c:=fun _ _=>⟨rfl,rfl⟩
theorem Fm.trans(h:Fm j pos c pos' c')(h':Fm j pos' c' pos'' c''):Fm j pos c pos'' c'':=fun s n=>⟨(h' s n).1.trans (h s n).1,(h' s n).2.trans (h s n).2⟩
theorem Fm.upd(h:Fm j pos c pos' c')(hs:own j s):Fm j pos c pos' (aE c' s o):=fun s' n'=>⟨(h s' n').1,by rw[aw (fun e=>n' (by rw[e];exact hs))];exact(h s' n').2⟩
theorem Fm.pn(h:Fm j pos c pos' c')(hs:own j s):Fm j pos c (fe pos' s n) c':=fun s' n'=>⟨by rw[bT (fun e=>n' (by rw[e];exact hs))];exact(h s' n').1,(h s' n').2⟩
def Fm.uk(h:Fm j pos c pos' c')(f:Nat):Fm j pos c pos' (aE c' (.k j f) o):=h.upd rfl
def Fm.ua(h:Fm j pos c pos' c')(a:Int)(f:Nat):Fm j pos c pos' (aE c' (.a j a f) o):=h.upd rfl
theorem Kr.ev(R:Kr cK cA j pos c K p q)(ev:List U):Kr cK cA j pos (aE c (.k j 4) (.lst ev)) { K with ev:=ev } p q:=
 ⟨R.pk,by simpa [aE,Kc.up] using R.c0,by simpa [aE,Kc.up] using R.c1,by simpa [aE,Kc.up] using R.c2,by simpa [aE,Kc.up] using R.c3,by simp[aE],by simpa [aE,Kc.up] using R.c5,R.pa,fun a h=>by simpa [aE] using R.a0 a h,fun a h=>by simpa [aE] using R.a1 a h,fun a h=>by simpa [aE] using R.a2 a h,fun a h=>by simpa [aE] using R.a3 a h⟩
theorem Kr.bx(R:Kr cK cA j pos c K p q)(bx:List Int):Kr cK cA j pos (aE c (.k j 1) (.lst (bx.map U.int))) { K with bx:=bx } p q:=
 ⟨R.pk,by simpa [aE,Kc.up] using R.c0,by simp[aE],by simpa [aE,Kc.up] using R.c2,by simpa [aE,Kc.up] using R.c3,by simpa [aE,Kc.up] using R.c4,by simpa [aE,Kc.up] using R.c5,R.pa,fun a h=>by simpa [aE] using R.a0 a h,fun a h=>by simpa [aE] using R.a1 a h,fun a h=>by simpa [aE] using R.a2 a h,fun a h=>by simpa [aE] using R.a3 a h⟩
theorem Kr.ma(R:Kr cK cA j pos c K p q)(ma:List Int):Kr cK cA j pos (aE c (.k j 2) (.lst (ma.map U.int))) { K with ma:=ma } p q:=
 ⟨R.pk,by simpa [aE,Kc.up] using R.c0,by simpa [aE,Kc.up] using R.c1,by simp[aE],by simpa [aE,Kc.up] using R.c3,by simpa [aE,Kc.up] using R.c4,by simpa [aE,Kc.up] using R.c5,R.pa,fun a h=>by simpa [aE] using R.a0 a h,fun a h=>by simpa [aE] using R.a1 a h,fun a h=>by simpa [aE] using R.a2 a h,fun a h=>by simpa [aE] using R.a3 a h⟩
theorem Kr.ho(R:Kr cK cA j pos c K p q)(ho:List (Int×Int)):Kr cK cA j pos (aE c (.k j 3) (.dic (dI ho))) { K with ho:=ho } p q:=
 ⟨R.pk,by simpa [aE,Kc.up] using R.c0,by simpa [aE,Kc.up] using R.c1,by simpa [aE,Kc.up] using R.c2,by simp[aE],by simpa [aE,Kc.up] using R.c4,by simpa [aE,Kc.up] using R.c5,R.pa,fun a h=>by simpa [aE] using R.a0 a h,fun a h=>by simpa [aE] using R.a1 a h,fun a h=>by simpa [aE] using R.a2 a h,fun a h=>by simpa [aE] using R.a3 a h⟩
theorem Kr.tk(R:Kr cK cA j pos c K p q)(tk:Int):Kr cK cA j pos (aE c (.k j 0) (kO cK p tk)) { K with tk:=tk } p q:=
 ⟨R.pk,by simp[aE],by simpa [aE,Kc.up] using R.c1,by simpa [aE,Kc.up] using R.c2,by simpa [aE,Kc.up] using R.c3,by simpa [aE,Kc.up] using R.c4,by simpa [aE,Kc.up] using R.c5,R.pa,fun a h=>by simpa [aE] using R.a0 a h,fun a h=>by simpa [aE] using R.a1 a h,fun a h=>by simpa [aE] using R.a2 a h,fun a h=>by simpa [aE] using R.a3 a h⟩
theorem Kr.ao(R:Kr cK cA j pos c K p q)(g:Int)(st:Option Int)(op:Bool) :
  Kr cK cA j pos (aE c (.a j a 0) (aO cA (q a) g (stU st) (q a 3) op)) (K.up a { K.A a with g:=g,st:=st,op:=op }) p q:=by
 refine⟨R.pk,by simpa [aE,Kc.up] using R.c0,by simpa [aE,Kc.up] using R.c1,by simpa [aE,Kc.up] using R.c2,by simpa [aE,Kc.up] using R.c3,by simpa [aE,Kc.up] using R.c4,by simpa [aE,Kc.up] using R.c5,R.pa,fun b h=>?_,fun b h=>?_,fun b h=>?_,fun b h=>?_⟩
 ·by_cases e:b=a
  ·subst e;simp[aE,Kc.up]
  ·have:=R.a0 b h;simpa [aE,Kc.up,e] using this
 ·have:=R.a1 b h;by_cases e:b=a
  ·subst e;simpa [aE,Kc.up] using this
  ·simpa [aE,Kc.up,e] using this
 ·have:=R.a2 b h;by_cases e:b=a
  ·subst e;simpa [aE,Kc.up] using this
  ·simpa [aE,Kc.up,e] using this
 ·have:=R.a3 b h;by_cases e:b=a
  ·subst e;simpa [aE,Kc.up] using this
  ·simpa [aE,Kc.up,e] using this
theorem Kr.al(R:Kr cK cA j pos c K p q)(lk:List Int):Kr cK cA j pos (aE c (.a j a 1) (.dic (dT lk))) (K.up a { K.A a with lk:=lk }) p q:=by
 refine⟨R.pk,by simpa [aE,Kc.up] using R.c0,by simpa [aE,Kc.up] using R.c1,by simpa [aE,Kc.up] using R.c2,by simpa [aE,Kc.up] using R.c3,by simpa [aE,Kc.up] using R.c4,by simpa [aE,Kc.up] using R.c5,R.pa,fun b h=>?_,fun b h=>?_,fun b h=>?_,fun b h=>?_⟩
 ·have:=R.a0 b h;by_cases e:b=a
  ·subst e;simpa [aE,Kc.up] using this
  ·simpa [aE,Kc.up,e] using this
 ·have:=R.a1 b h;by_cases e:b=a
  ·subst e;simp[aE,Kc.up]
  ·simpa [aE,Kc.up,e] using this
 ·have:=R.a2 b h;by_cases e:b=a
  ·subst e;simpa [aE,Kc.up] using this
  ·simpa [aE,Kc.up,e] using this
 ·have:=R.a3 b h;by_cases e:b=a
  ·subst e;simpa [aE,Kc.up] using this
  ·simpa [aE,Kc.up,e] using this
theorem Kr.ap(R:Kr cK cA j pos c K p q)(pu:List (Int×Int)):Kr cK cA j pos (aE c (.a j a 2) (.dic (dI pu))) (K.up a { K.A a with pu:=pu }) p q:=by
 refine⟨R.pk,by simpa [aE,Kc.up] using R.c0,by simpa [aE,Kc.up] using R.c1,by simpa [aE,Kc.up] using R.c2,by simpa [aE,Kc.up] using R.c3,by simpa [aE,Kc.up] using R.c4,by simpa [aE,Kc.up] using R.c5,R.pa,fun b h=>?_,fun b h=>?_,fun b h=>?_,fun b h=>?_⟩
 ·have:=R.a0 b h;by_cases e:b=a
  ·subst e;simpa [aE,Kc.up] using this
  ·simpa [aE,Kc.up,e] using this
 ·have:=R.a1 b h;by_cases e:b=a
  ·subst e;simpa [aE,Kc.up] using this
  ·simpa [aE,Kc.up,e] using this
 ·have:=R.a2 b h;by_cases e:b=a
  ·subst e;simp[aE,Kc.up]
  ·simpa [aE,Kc.up,e] using this
 ·have:=R.a3 b h;by_cases e:b=a
  ·subst e;simpa [aE,Kc.up] using this
  ·simpa [aE,Kc.up,e] using this
theorem Kr.au(R:Kr cK cA j pos c K p q)(un:List Int):Kr cK cA j pos (aE c (.a j a 3) (.lst (un.map U.int))) (K.up a { K.A a with un:=un }) p q:=by
 refine⟨R.pk,by simpa [aE,Kc.up] using R.c0,by simpa [aE,Kc.up] using R.c1,by simpa [aE,Kc.up] using R.c2,by simpa [aE,Kc.up] using R.c3,by simpa [aE,Kc.up] using R.c4,by simpa [aE,Kc.up] using R.c5,R.pa,fun b h=>?_,fun b h=>?_,fun b h=>?_,fun b h=>?_⟩
 ·have:=R.a0 b h;by_cases e:b=a
  ·subst e;simpa [aE,Kc.up] using this
  ·simpa [aE,Kc.up,e] using this
 ·have:=R.a1 b h;by_cases e:b=a
  ·subst e;simpa [aE,Kc.up] using this
  ·simpa [aE,Kc.up,e] using this
 ·have:=R.a2 b h;by_cases e:b=a
  ·subst e;simpa [aE,Kc.up] using this
  ·simpa [aE,Kc.up,e] using this
 ·have:=R.a3 b h;by_cases e:b=a
  ·subst e;simp[aE,Kc.up]
  ·simpa [aE,Kc.up,e] using this
end
theorem rZ{S:Sto}{ci:CE}{el:CE}{n:Nat}{caps:List Nat}{ρ:Rho}{ld:Nat}{kus:List (Key×U)}{v:Key×U->U}{r:Rho}(hi:ci ρ S=some (.ref ld,S))(hd:S[ld]?=some (.dic kus))(hr:pH 1 caps ρ=none::r)(hl:kus.length<=900)
  (he:∀ep ys,∀p∈kus,el (some (kU p.1)::r) (S.set ld (.fdc ep kus)++[.lst ys])=some (v p,S.set ld (.fdc ep kus)++[.lst ys])) :
  gX ci (gNm 0) el 1 caps ρ S=some (.ref S.length,S++[.lst (kus.map v)]):=by
 have lk:ld<S.length:=(Q6.mp hd).1;unfold gX oC;rw[hi,QX];simp only[hd];refine qO fun ep=>?_;have ek:∀X:Sto,(S.set ld (.fdc ep kus)++X)[ld]?=some (.fdc ep kus):=fun X=>av (by rw[Z9,if_pos rfl,if_pos lk]);have key:∀(ks:List (Key×U)) (ys:List U) (r0:Option U),(∀p∈ks,p∈kus)->ys.length+ks.length<=9999->gu (fun S'=>S'[ld]?=some (.fdc ep kus)) (gNm 0) el S.length (ks.map fun p=>kU p.1) (r0::r) (S.set ld (.fdc ep kus)++[.lst ys])=some (S.set ld (.fdc ep kus)++[.lst (ys++ks.map v)]):=by
  intro ks;induction ks with
  |nil=>intro ys r0 _ _;rw[ZU,ZU,Qc];exact m9 (ek _)
  |cons p ks ih=>
   intro ys r0 hm hn;rw[QY]at hn;rw[QN,QN];refine(kK (ρ0:=some (kU p.1)::r) (S0:=S.set ld (.fdc ep kus)++[.lst ys]) (S1:=S.set ld (.fdc ep kus)++[.lst ys]) (x:=v p) (ys:=ys) (ek _) rfl (he ep ys p (hm p QZ)) ?_ (by unfold LIM;omega)).trans ?_
   ·have:=ga0 (S:=S.set ld (.fdc ep kus)) (X:=[.lst ys]);rw[Z8]at this;rw[this];rfl
   ·have:=gs0 (S:=S.set ld (.fdc ep kus)) (X:=[.lst ys]) (o:=.lst (ys++[v p]));rw[Z8]at this;rw[this];show gu _ _ _ _ _ _ (S.set ld (.fdc ep kus)++[.lst (ys++[v p])])=_;rw[ih (ys++[v p]) _ (fun q hq=>hm q (QQ _ hq)) (by simp;omega),Qk];rfl
 rw[hr,key kus [] none (fun p h=>h) (by simp;omega),QX];have e2:(S.set ld (.fdc ep kus)++[O.lst ([]++kus.map v)]).set ld (.dic kus)=S++[.lst (kus.map v)]:=by
  rw[List.set_append_left _ _ (by rw[Z8];exact lk),qT hd,ZE]
 simp only[ek,e2]
section
variable{q:Int->Nat->Nat}{a b:Int}{ids:List Int}{l:List (Int×Int)}{xs:List Int}
theorem je:∀{ids:List Int},a∈ids->aJ (ids.map fun a=>((.inl a:Key),U.ref (q a 0))) (.inl a)=uR (q a 0)
 |x::r,h=>by
  unfold aJ;rw[QN,Qd];by_cases e:x=a
  ·subst e;simp
  ·have hd:decide ((.inl x:Key)=.inl a)=false:=decide_eq_false fun z=>e (Sum.inl.inj z);rw[hd];exact je (ids:=r) ((QM.mp h).resolve_left fun z=>e z.symm)
theorem lO:∀{ids:List Int},a∉ids->aJ (ids.map fun a=>((.inl a:Key),U.ref (q a 0))) (.inl a)=none
 |[],_=>rfl
 |x::r,h=>by
  unfold aJ;rw[QN,Qd];have hd:decide ((.inl x:Key)=.inl a)=false:=decide_eq_false fun z=>h (by rw[<-Sum.inl.inj z];exact QZ);rw[hd];exact lO (ids:=r) fun z=>h (QQ _ z)
theorem fS(b:Int):∀(l:List (Int×Int)),aJ (dI l) (.inl b)=(aJ l b).map U.int
 |[]=>rfl
 |(x,v)::r=>by
  have ih:=fS b r;unfold aJ dI at *;rw[QN,Qd,Qd];by_cases e:x=b
  ·subst e;simp
  ·have hd:decide ((.inl x:Key)=.inl b)=false:=decide_eq_false fun z=>e (Sum.inl.inj z);have hd':decide (x=b)=false:=decide_eq_false e;dsimp only;rw[hd,hd'];exact ih
theorem nS(l:List (Int×Int))(b v:Int):cQ (dI l) (.inl b) (.int v)=dI (cQ l b v):=xU (κ':=Key) Sum.inl U.int (fun _ _ h=>Sum.inl.inj h) l b v
def zJ(l:List Int)(b:Int):cQ (dT l) (.inl b) (.bl true)=dT (jP l b):=xS b l
theorem Ct(l:List (Int×Int))(b:Int):gR (dI l) (.inl b)=dI (gR l b):=by
 unfold gR dI;rw[List.filter_map];congr 1;refine List.filter_congr fun p _=>?_;simp
theorem CF(b0:0<=b)(b1:b<xs.length):atI (xs.map U.int) b=uI (xs.getD b.toNat 0):=by
 have hi:b.toNat<xs.length:=by omega
 have:=ju (xs:=xs.map U.int) (j:=b.toNat) (v:=.int xs[b.toNat]) (by rw[Qu,Q4 hi];rfl);rw[show((b.toNat:Nat):Int)=b from by omega]at this;rw[this,QH,Q4 hi];rfl
theorem Il(b0:0<=b)(b1:b<xs.length):ixN (xs.map U.int).length b=some b.toNat:=by
 unfold ixN;rw[if_pos b0,if_pos (by rw[QV];exact b1)]
end
def brd(K:Kc)(a:Int)(bs:List Int):Bool:=bs.any fun b=>!decide ((aJ K.ho b).getD a=a)
def w9(K:Kc)(a:Int):Bool:=(K.A a).lk.any fun b=>decide ((K.A a).g<K.ma.getD b.toNat 0)
def xA(K:Kc)(a b:Int):Bool:=brd K a [b]||(!decide (K.ma.getD b.toNat 0<=(K.A a).g)&&(brd K a (K.A a).lk||w9 K a))
structure Kw(K:Kc)(n:Nat):Prop where
 lb:K.bx.length=n
 lm:K.ma.length=n
 few:n<=900
 ids:K.ids.Nodup
 lk:∀a∈K.ids,(K.A a).lk.length<=900/\∀b∈(K.A a).lk,0<=b/\b<n
 pu:∀a∈K.ids,(K.A a).pu.length<64/\((K.A a).pu.map (·.1)).Nodup/\∀e∈(K.A a).pu,0<=e.1/\e.1<n
def Nx(cK cA:Cl)(j:Nat)(pos:Pl->Option Nat)(c:Pl->O)(p:Nat->Nat)(K':Kc)(T':Sto):Prop:=∃pos' c' q',Mm pos' c' T'/\Kr cK cA j pos' c' K' p q'/\Fm j pos c pos' c'
section
variable{cK cA:Cl}{j n:Nat}{pos:Pl->Option Nat}{c:Pl->O}{T:Sto}{K:Kc}{p:Nat->Nat}{q:Int->Nat->Nat}{a b:Int}
def Kc.end(K:Kc)(a:Int)(w:Str):Kc:={ K.up a { K.A a with op:=false } with ev:=K.ev++[.tup [.str w,.int a]] }
def jc(cK cA:Cl):Fn:=fnU 4 3 (gC cK cA)
theorem mO{w:Str}(M:Mm pos c T)(R:Kr cK cA j pos c K p q)(ha:a∈K.ids)(hl:K.ev.length<=9000):Wp (jc cK cA [.ref (p 0),.int a,.str w] T) fun r=>r.1=.non/\Nx cK cA j pos c p (K.end a w) r.2:=by
 have t0:=M.get (R.pk 0 (by decide)) R.c0;have t5:=M.get (R.pk 5 (by decide)) R.c5;have tr:=M.get (R.pa a ha 0 (by decide)) (R.a0 a ha);have v:=je (q:=q) ha;have M1:=M.set (R.pa a ha 0 (by decide)) (aO cA (q a) ((K.A a).g) (stU (K.A a).st) (q a 3) false);have R1:=R.ao (a:=a) (K.A a).g (K.A a).st false;have s0:=M1.get (R1.pk 0 (by decide)) R1.c0;have s4:=M1.get (R1.pk 4 (by decide)) R1.c4;have hL:K.ev.length<LIM:=by unfold LIM;omega
 refine⟨(.non,_),?_,rfl,pos,_,q,M1.set (R1.pk 4 (by decide)) (.lst (K.ev++[.tup [.str w,.int a]])),R1.ev _,(Fm.refl.ua a 0).uk 4⟩;unfold jc;rw[IA];rwa[gC,t0,t5,v,tr,s0,s4,Kc.up,nC hL]
def jw(cK cA:Cl):Fn:=fnU 2 2 (eY cK cA)
theorem rP(M:Mm pos c T)(R:Kr cK cA j pos c K p q)(ha:a∈K.ids)(op:(K.A a).op=true):jw cK cA [.ref (p 0),.int a] T=some (.ref (q a 0),T):=by
 have t0:=M.get (R.pk 0 (by decide)) R.c0;have t5:=M.get (R.pk 5 (by decide)) R.c5;have tr:=M.get (R.pa a ha 0 (by decide)) (R.a0 a ha);have v:=je (q:=q) ha;rw[op]at tr;unfold jw;rw[Cs];rwa[eY,t0,t5,v,tr,Zr,if_true]
def gH(cK cA:Cl):Fn:=fnU 3 2 (dE (jw cK cA) cK cA)
theorem mw(M:Mm pos c T)(R:Kr cK cA j pos c K p q)(ha:a∈K.ids)(op:(K.A a).op=true)(st:(K.A a).st=none):gH cK cA [.ref (p 0),.int a] T=some (.ref (q a 0),T):=by
 have t0:=M.get (R.pk 0 (by decide)) R.c0;have tr:=M.get (R.pa a ha 0 (by decide)) (R.a0 a ha);have f:=rP M R ha op;rw[st]at tr;unfold gH;rw[Cr];rwa[dE,t0,f,tr,stU,GG,zR]
def sj(cK:Cl):CE:=cOp fNe (qt (bE cK 2 (ah 2)) (ah 0) (ah 1)) (ah 1)
theorem wN{S:Sto}{k0 k3:Nat}{fs:List (Option U)}{ho:List (Int×Int)}(h0:S[k0]?=some (.ins cK fs))(hf:fs[2]?=some (uR k3))(h3:S[k3]?=some (.dic (dI ho))):sj cK [uI b,uI a,uR k0] S=some (.bl (!decide ((aJ ho b).getD a=a)),S):=by
 have F:CW cK 2 (.ref k0,S)=some (.ref k3,S):=zj h0 hf;have g:((aJ ho b).map U.int).getD (.int a)=.int ((aJ ho b).getD a):=by cases aJ ho b<;>rfl
 unfold sj;rwa[F,h3,fS,g]
def cy(cK:Cl):Fn:=fnU 3 3 (eO cK)
theorem any_map{α:Type}{l:Nat}{S:Sto}{xs:List α}{f:α->Bool}(h:S[l]?=some (.lst (xs.map fun x=>U.bl (f x)))):yI [.ref l] S=some (.bl (xs.any f),S):=by
 have em:(xs.map fun x=>U.bl (f x))=(xs.map f).map U.bl:=by rw[Qo];rfl
 simp only[yI,h,em,sh,QX,List.any_map];rfl
theorem CC{lb:Nat}{bs:List Int}(M:Mm pos c T)(R:Kr cK cA j pos c K p q)(hb:T[lb]?=some (.lst (bs.map U.int)))(hl:bs.length<=900):∃X,cy cK [.ref (p 0),.int a,.ref lb] T=some (.bl (brd K a bs),T++X):=by
 have t0:=M.get (R.pk 0 (by decide)) R.c0;have t3:=M.get (R.pk 3 (by decide)) R.c3;have key:=ow (S:=T) (ok:=fun S=>S[lb]?=some (.lst (bs.map U.int))) (gg:=gNm 0) (ce:=sj cK) (f:=U.int) (v:=fun b=>.bl (!decide ((aJ K.ho b).getD a=a))) (Rel:=fun ρ=>∃r0,ρ=[r0,uI a,uR (p 0)]) (fun ys G=>av hb) bs [] [] [none,uI a,uR (p 0)] ⟨_,rfl⟩ (by simp;omega) (fun b hb' ys G ρ hρ=>by
  obtain⟨r0,rfl⟩:=hρ;exact⟨[uI b,uI a,uR (p 0)],⟨_,rfl⟩,rfl,wN (av t0) rfl (av t3)⟩)
 simp only[ZE]at key;have hc:i7 (iTp (ah 2)) (gNm 0) (sj cK) 1 [1,0] [uR (p 0),uI a,uR lb] T=some (.ref T.length,T++[.lst (bs.map fun b=>.bl (!decide ((aJ K.ho b).getD a=a)))]):=by
  have hv:ah 2 [uR (p 0),uI a,uR lb] T=some (.ref lb,T):=rfl;unfold i7 iTp;rw[hv,QX];simp only[hb,QX,pH,QU,QN,ZU,Zv,Zk,Option.getD_some,ZS,ZE,key]
 have he:nh (i7 (iTp (ah 2)) (gNm 0) (sj cK) 1 [1,0]) (gX (ah 2) (gNm 0) (sj cK) 1 [1,0]) [uR (p 0),uI a,uR lb] T=some (.ref T.length,T++[.lst (bs.map fun b=>.bl (!decide ((aJ K.ho b).getD a=a)))]):=by
  unfold nh;rw[hc]
 have ha:=any_map (S:=T++[.lst (bs.map fun b=>.bl (!decide ((aJ K.ho b).getD a=a)))]) (l:=T.length) (xs:=bs) (by rw[ga0];rfl);refine⟨[.lst (bs.map fun b=>.bl (!decide ((aJ K.ho b).getD a=a)))],?_⟩;unfold cy;rw[wo];show((eC (cCB yI (ag (nh (i7 (iTp (ah 2)) (gNm 0) (sj cK) 1 [1,0]) (gX (ah 2) (gNm 0) (sj cK) 1 [1,0])) aG))) _ T).bind kFn=_;rwa[he,ha];rfl
theorem qu{s:Pl}{ld:Nat}{α:Type}{xs:List α}{kf:α->Int}{vf:α->U}(M:Mm pos c T)(R:Kr cK cA j pos c K p q)(hs:pos s=some ld)(hc:c s=.dic (xs.map fun x=>(.inl (kf x),vf x)))(s1:s≠.k j 0)(s2:s≠.k j 3)(hl:xs.length<=900):∃X,cy cK [.ref (p 0),.int a,.ref ld] T=some (.bl (brd K a (xs.map kf)),T++X):=by
 have td:=M.get hs hc;have hcd:=rZ (S:=T) (ci:=ah 2) (el:=sj cK) (n:=1) (caps:=[1,0]) (ρ:=[uR (p 0),uI a,uR ld]) (r:=[uI a,uR (p 0)]) (v:=fun e=>match e.1 with|.inl b=>.bl (!decide ((aJ K.ho b).getD a=a))|.inr _=>.non) rfl td rfl (by simpa using hl) (fun ep ys e he=>by
  obtain⟨x,hx,rfl⟩:=Qi.mp he;have M1:=M.set hs (.fdc ep (xs.map fun x=>(.inl (kf x),vf x)));have t0:=M1.get (R.pk 0 (by decide)) ((aw (Ne.symm s1)).trans R.c0);have t3:=M1.get (R.pk 3 (by decide)) ((aw (Ne.symm s2)).trans R.c3);exact wN (av t0) rfl (av t3))
 rw[Qo]at hcd;have he:nh (i7 (iTp (ah 2)) (gNm 0) (sj cK) 1 [1,0]) (gX (ah 2) (gNm 0) (sj cK) 1 [1,0]) [uR (p 0),uI a,uR ld] T=some (.ref T.length,T++[.lst (xs.map fun x=>.bl (!decide ((aJ K.ho (kf x)).getD a=a)))]):=by
  have h1:i7 (iTp (ah 2)) (gNm 0) (sj cK) 1 [1,0] [uR (p 0),uI a,uR ld] T=none:=by
   have hv:ah 2 [uR (p 0),uI a,uR ld] T=some (.ref ld,T):=rfl;unfold i7 iTp;rw[hv,QX];simp only[td];rfl
  unfold nh;rw[h1];exact hcd
 have ha:=any_map (S:=T++[.lst (xs.map fun x=>.bl (!decide ((aJ K.ho (kf x)).getD a=a)))]) (l:=T.length) (xs:=xs) (by rw[ga0];rfl);refine⟨[.lst (xs.map fun x=>.bl (!decide ((aJ K.ho (kf x)).getD a=a)))],?_⟩;have eb:brd K a (xs.map kf)=xs.any fun x=>!decide ((aJ K.ho (kf x)).getD a=a):=by unfold brd;rw[List.any_map];rfl
 rw[eb];unfold cy;rw[wo];show((eC (cCB yI (ag (nh (i7 (iTp (ah 2)) (gNm 0) (sj cK) 1 [1,0]) (gX (ah 2) (gNm 0) (sj cK) 1 [1,0])) aG))) _ T).bind kFn=_;rwa[he,ha]
def Gi(cK cA:Cl):CE:=cOp fGt (cOp fIx (bE cK 1 (ah 2)) (ah 0)) (bE cA 0 (ah 1))
def oT(cK cA:Cl):Fn:=fnU 3 2 (cm cK cA)
theorem Ae(M:Mm pos c T)(R:Kr cK cA j pos c K p q)(W:Kw K n)(ha:a∈K.ids):∃X,oT cK cA [.ref (p 0),.int a] T=some (.bl (w9 K a),T++X):=by
 have t0:=M.get (R.pk 0 (by decide)) R.c0;have t5:=M.get (R.pk 5 (by decide)) R.c5;have tr:=M.get (R.pa a ha 0 (by decide)) (R.a0 a ha);have tl:=M.get (R.pa a ha 1 (by decide)) (R.a1 a ha);have v:=je (q:=q) ha;obtain⟨l1,l2⟩:=W.lk a ha;have hi:bE cA 1 (ah 2) [uR (p 0),uI a,uR (q a 0)] T=some (.ref (q a 1),T):=by
  rwa[tr]
 have hcd:=rZ (S:=T) (ci:=bE cA 1 (ah 2)) (el:=Gi cK cA) (n:=1) (caps:=[2,0]) (ρ:=[uR (p 0),uI a,uR (q a 0)]) (r:=[uR (q a 0),uR (p 0)]) (v:=fun e=>match e.1 with|.inl b=>.bl (decide ((K.A a).g<K.ma.getD b.toNat 0))|.inr _=>.non) hi tl rfl (by unfold dT;simpa using l1) (fun ep ys e he=>by
  obtain⟨b,hb,rfl⟩:=Qi.mp he;obtain⟨b0,b1⟩:=l2 b hb;have M1:=M.set (R.pa a ha 1 (by decide)) (.fdc ep (dT (K.A a).lk));have s0:=av (r:=[O.lst ys]) (M1.get (R.pk 0 (by decide)) ((aw (by simp)).trans R.c0));have s2:=av (r:=[O.lst ys]) (M1.get (R.pk 2 (by decide)) ((aw (by simp)).trans R.c2));have sr:=av (r:=[O.lst ys]) (M1.get (R.pa a ha 0 (by decide)) ((aw (by simp)).trans (R.a0 a ha)));have am:=CF (xs:=K.ma) b0 (by rw[W.lm];exact b1);show Gi cK cA [uI b,uR (q a 0),uR (p 0)] _=_;unfold Gi;rwa[s0,s2,sr,am])
 have em:((dT (K.A a).lk).map fun e=>match e.1 with|.inl b=>U.bl (decide ((K.A a).g<K.ma.getD b.toNat 0))|.inr _=>.non)=(K.A a).lk.map fun b=>U.bl (decide ((K.A a).g<K.ma.getD b.toNat 0)):=by unfold dT;rw[Qo];rfl
 rw[em]at hcd;have hn:=any_map (S:=T++[.lst ((K.A a).lk.map fun b=>U.bl (decide ((K.A a).g<K.ma.getD b.toNat 0)))]) (l:=T.length) (xs:=(K.A a).lk) (by rw[ga0];rfl);refine⟨[.lst ((K.A a).lk.map fun b=>U.bl (decide ((K.A a).g<K.ma.getD b.toNat 0)))],?_⟩;unfold oT;rw[Cr];unfold cm;rw[dz (ρ':=[uR (p 0),uI a,uR (q a 0)]) (S':=T) (by rwa[t0,t5,v])];show((eC (cCB yI (ag (gX (bE cA 1 (ah 2)) (gNm 0) (Gi cK cA) 1 [2,0]) aG))) _ T).bind kFn=_;rwa[hcd,hn];rfl
def IL(cK cA:Cl):Fn:=fnU 3 3 (ba (cy cK) (oT cK cA) cK cA)
theorem Ho(M:Mm pos c T)(R:Kr cK cA j pos c K p q)(W:Kw K n)(ha:a∈K.ids)(b0:0<=b)(b1:b<n):∃X,IL cK cA [.ref (p 0),.int a,.int b] T=some (.bl (xA K a b),T++X):=by
 have t0:=M.get (R.pk 0 (by decide)) R.c0;have t2:=M.get (R.pk 2 (by decide)) R.c2;have t5:=M.get (R.pk 5 (by decide)) R.c5;have tr:=M.get (R.pa a ha 0 (by decide)) (R.a0 a ha);have v:=je (q:=q) ha;have am:=CF (xs:=K.ma) b0 (by rw[W.lm];exact b1);have g0:∀Y,(T++Y)[p 0]?=_:=fun Y=>av t0;have g2:∀Y,(T++Y)[p 2]?=_:=fun Y=>av t2;have g5:∀Y,(T++Y)[p 5]?=_:=fun Y=>av t5;have gr:∀Y,(T++Y)[q a 0]?=_:=fun Y=>av tr;obtain⟨X1,e1⟩:=CC (a:=a) (lb:=T.length) (bs:=[b]) (M.app [.lst [.int b]]) R (by rw[ga0];rfl) (by simp);rw[Qk]at e1;have M1:=M.app ([.lst [.int b]]++X1);obtain⟨X2,e2⟩:=qu (a:=a) (xs:=(K.A a).lk) (kf:=fun b=>b) (vf:=fun _=>.bl true) M1 R (R.pa a ha 1 (by decide)) (R.a1 a ha) (by simp) (by simp) (W.lk a ha).1;obtain⟨X3,e3⟩:=Ae (M1.app X2) R W ha;rw[List.map_id']at e2;simp only[Qk,ZS,ZE]at e1 e2 e3;unfold IL xA;rw[wo];cases h1:brd K a [b]with
 |true=>
  rw[h1]at e1;exact⟨.lst [.int b]::X1,by rwa[ba,t0,e1,Bool.true_or]⟩
 |false=>
  rw[h1]at e1;cases h2:decide (K.ma.getD b.toNat 0<=(K.A a).g)with
  |true=>exact⟨.lst [.int b]::X1,by rwa[ba,t0,e1,g0,g2,g5,v,gr,am,h2,Bool.not_true,Bool.false_and,Bool.or_false]⟩
  |false=>
   cases h3:brd K a (K.A a).lk with
   |true=>
    rw[h3]at e2;exact⟨.lst [.int b]::(X1++X2),by rwa[ba,t0,e1,g0,g2,g5,v,gr,am,h2,e2,Bool.not_false,Bool.true_and,Bool.true_or,Bool.false_or]⟩
   |false=>
    rw[h3]at e2;exact⟨.lst [.int b]::(X1++(X2++X3)),by rwa[ba,t0,e1,g0,g2,g5,v,gr,am,h2,e2,e3,Bool.not_false,Bool.true_and,Bool.false_or]⟩
def Kc.anew(K:Kc)(a b:Int):Kc:=K.up a { K.A a with g:=if (K.A a).g<K.ma.getD b.toNat 0 then K.tk else(K.A a).g,lk:=jP (K.A a).lk b }
def Kc.say(K:Kc)(e:U):Kc:={ K with ev:=K.ev++[e] }
theorem up2{v w:Ac}:(K.up a v).up a w=K.up a w:=by
 unfold Kc.up;congr 1;funext x;by_cases h:x=a<;>simp[h]
def gZ{v:Ac}:(K.up a v).A a=v:=if_pos rfl
def wV(cK cA:Cl):Fn:=fnU 3 3 (bQ cK cA)
theorem CJ(M:Mm pos c T)(R:Kr cK cA j pos c K p q)(W:Kw K n)(ha:a∈K.ids)(b0:0<=b)(b1:b<n):Wp (wV cK cA [.ref (p 0),.ref (q a 0),.int b] T) fun r=>r.1=.int (K.bx.getD b.toNat 0)/\∃c',Mm pos c' r.2/\Kr cK cA j pos c' (K.anew a b) p q/\Fm j pos c pos c':=by
 have t0:=M.get (R.pk 0 (by decide)) R.c0;have t1:=M.get (R.pk 1 (by decide)) R.c1;have t2:=M.get (R.pk 2 (by decide)) R.c2;have tr:=M.get (R.pa a ha 0 (by decide)) (R.a0 a ha);have tl:=M.get (R.pa a ha 1 (by decide)) (R.a1 a ha);have am:=CF (xs:=K.ma) b0 (by rw[W.lm];exact b1);have ab:=CF (xs:=K.bx) b0 (by rw[W.lb];exact b1);have hL:(dT (K.A a).lk).length<LIM:=by unfold LIM dT;rw[QV];have:=(W.lk a ha).1;omega
 unfold wV Kc.anew;rw[wo];by_cases h:(K.A a).g<K.ma.getD b.toNat 0
 ·have hd:decide ((K.A a).g<K.ma.getD b.toNat 0)=true:=decide_eq_true h;rw[if_pos h];have M1:=M.set (R.pa a ha 0 (by decide)) (aO cA (q a) K.tk (stU (K.A a).st) (q a 3) ((K.A a).op));have R1:=R.ao (a:=a) K.tk (K.A a).st (K.A a).op;have s0:=M1.get (R1.pk 0 (by decide)) R1.c0;have sr:=M1.get (R1.pa a ha 0 (by decide)) (R1.a0 a ha);have sl:=M1.get (R1.pa a ha 1 (by decide)) (R1.a1 a ha);rw[gZ]at sr sl;have M2:=M1.set (R1.pa a ha 1 (by decide)) (.dic (dT (jP (K.A a).lk b)));have R2:=R1.al (a:=a) (jP (K.A a).lk b);have w0:=M2.get (R2.pk 0 (by decide)) R2.c0;have w1:=M2.get (R2.pk 1 (by decide)) R2.c1;rw[gZ,up2]at R2;refine⟨(_,_),?_,rfl,_,M2,R2,(Fm.refl.ua a 0).ua a 1⟩;rwa[bQ,t0,t2,am,tr,hd,s0,sr,sl,hL,if_true,zJ,w0,w1,Kc.up,ab]
 ·have hd:decide ((K.A a).g<K.ma.getD b.toNat 0)=false:=decide_eq_false h;rw[if_neg h];have M2:=M.set (R.pa a ha 1 (by decide)) (.dic (dT (jP (K.A a).lk b)));have R2:=R.al (a:=a) (jP (K.A a).lk b);have w0:=M2.get (R2.pk 0 (by decide)) R2.c0;have w1:=M2.get (R2.pk 1 (by decide)) R2.c1;refine⟨(_,_),?_,rfl,_,M2,R2,Fm.refl.ua a 1⟩;rwa[bQ,t0,t2,am,tr,hd,tl,hL,if_true,zJ,w0,w1,Kc.up,ab]
def cH(K:Kc)(a b:Int):U×Kc:=match aJ (K.A a).pu b with
 |some v=>(.tup [.str "number",.int v],K.say (.tup [.str "look",.int a,.int b,.int v]))
 |none=>if xA K a b=true then(.tup [.str "falls"],K.end a "fall")else(.tup [.str "number",.int (K.bx.getD b.toNat 0)],(K.anew a b).say (.tup [.str "look",.int a,.int b,.int (K.bx.getD b.toNat 0)]))
def oS(cK cA:Cl):Fn:=fnU 5 3 (cW (gH cK cA) (IL cK cA) (jc cK cA) (wV cK cA) cK cA)
theorem vB(M:Mm pos c T)(R:Kr cK cA j pos c K p q)(W:Kw K n)(ha:a∈K.ids)(op:(K.A a).op=true)(st:(K.A a).st=none)(b0:0<=b)(b1:b<n)(hl:K.ev.length<=9000):Wp (oS cK cA [.ref (p 0),.int a,.int b] T) fun r=>r.1=(cH K a b).1/\Nx cK cA j pos c p (cH K a b).2 r.2:=by
 have t0:=M.get (R.pk 0 (by decide)) R.c0;have t4:=M.get (R.pk 4 (by decide)) R.c4;have tr:=M.get (R.pa a ha 0 (by decide)) (R.a0 a ha);have tp:=M.get (R.pa a ha 2 (by decide)) (R.a2 a ha);have u:=mw M R ha op st;have hL:K.ev.length<LIM:=by unfold LIM;omega
 unfold oS cH;rw[Iw];cases hv:aJ (K.A a).pu b with
 |some v=>
  refine⟨(_,_),?_,rfl,pos,_,q,M.set (R.pk 4 (by decide)) (.lst (K.ev++[.tup [.str "look",.int a,.int b,.int v]])),R.ev _,Fm.refl.uk 4⟩;rwa[cW,t0,u,tr,tp,fS,hv,ZV,Zr,Qs,if_false,t4,nC hL]
 |none=>
  obtain⟨X,e1⟩:=Ho M R W ha b0 b1;have M1:=M.app X;have g0:=M1.get (R.pk 0 (by decide)) R.c0;dsimp only;cases hw:xA K a b with
  |true=>
   rw[hw]at e1;rw[if_pos rfl];obtain⟨⟨u1,T1⟩,e2,rfl,pos',c',q',M2,R2,F2⟩:=mO (w:="fall") M1 R ha hl;refine⟨(_,_),?_,rfl,pos',c',q',M2,R2,F2⟩;rwa[cW,t0,u,tr,tp,fS,hv,Option.map_none,Option.isSome_none,Qs,if_false,e1,g0,e2]
  |false=>
   rw[hw]at e1;rw[if_neg Q9];obtain⟨⟨u1,T1⟩,e2,rfl,c',M2,R2,F2⟩:=CJ M1 R W ha b0 b1;have s0:=M2.get (R2.pk 0 (by decide)) R2.c0;have s4:=M2.get (R2.pk 4 (by decide)) R2.c4;refine⟨(_,_),?_,rfl,pos,_,q,M2.set (R2.pk 4 (by decide)) (.lst (K.ev++[.tup [.str "look",.int a,.int b,.int (K.bx.getD b.toNat 0)]])),R2.ev _,F2.uk 4⟩;rwa[cW,t0,u,tr,tp,fS,hv,Option.map_none,Option.isSome_none,Qs,if_false,e1,g0,e2,s0,s4,Kc.anew,Kc.up,nC hL]
def CV(K:Kc)(a b v:Int):Kc:=(K.up a { K.A a with pu:=cQ (K.A a).pu b v }).say (.tup [.str "put",.int a,.int b,.int v])
def mi(cK cA:Cl):Fn:=fnU 5 4 (gx (gH cK cA) cK cA)
theorem vI{v:Int}(M:Mm pos c T)(R:Kr cK cA j pos c K p q)(W:Kw K n)(ha:a∈K.ids)(op:(K.A a).op=true)(st:(K.A a).st=none)(hl:K.ev.length<=9000):Wp (mi cK cA [.ref (p 0),.int a,.int b,.int v] T) fun r=>r.1=.non/\Nx cK cA j pos c p (CV K a b v) r.2:=by
 have t0:=M.get (R.pk 0 (by decide)) R.c0;have tr:=M.get (R.pa a ha 0 (by decide)) (R.a0 a ha);have tp:=M.get (R.pa a ha 2 (by decide)) (R.a2 a ha);have u:=mw M R ha op st;have hL:K.ev.length<LIM:=by unfold LIM;omega
 have hP:(dI (K.A a).pu).length<LIM:=by unfold LIM dI;rw[QV];have:=(W.pu a ha).1;omega
 have M1:=M.set (R.pa a ha 2 (by decide)) (.dic (dI (cQ (K.A a).pu b v)));have R1:=R.ap (a:=a) (cQ (K.A a).pu b v);have s0:=M1.get (R1.pk 0 (by decide)) R1.c0;have s4:=M1.get (R1.pk 4 (by decide)) R1.c4;refine⟨(_,_),?_,rfl,pos,_,q,M1.set (R1.pk 4 (by decide)) (.lst (K.ev++[.tup [.str "put",.int a,.int b,.int v]])),R1.ev _,(Fm.refl.ua a 2).uk 4⟩;unfold mi;rw[Iu];rwa[gx,t0,u,tr,tp,hP,if_true,nS,s0,s4,Kc.up,nC hL]
end
theorem vL:∀l:List (Int×Int),mM (dI l)=some (l.map (·.1))
 |[]=>rfl
 |e::r=>by
  show(mM (dI r)).map (e.1::·)=_;rw[vL r];rfl
theorem qJ{l:List (Int×Int)}{b d:Int}(h:d≠b):aJ (gR l b) d=aJ l d:=by
 unfold aJ gR;induction l with
 |nil=>rfl
 |cons e r ih=>
  rw[ZO];by_cases z:e.1=b
  ·rw[if_neg (by simpa using z),Qd,show decide (e.1=d)=false from decide_eq_false (by rw[z];exact Ne.symm h)];exact ih
  ·rw[if_pos (by simpa using z),Qd,Qd];cases decide (e.1=d)
   ·exact ih
   ·rfl
section
variable{cK cA:Cl}{j:Nat}{pos:Pl->Option Nat}{c:Pl->O}{T:Sto}{K:Kc}{p:Nat->Nat}{q:Int->Nat->Nat}{a:Int}
def ny(cA:Cl):Fn:=fnU 2 2 (fc cA)
theorem yq{S:Sto}{tk:Int}(hns:cA.ns.length=6):kF cA (ny cA) [.int tk] S=some (.ref S.length,S++[.ins cA [uI tk,some (.ref (S.length+1)),some (.ref (S.length+2)),some .non,some (.ref (S.length+3)),some (.bl true)],.dic [],.dic [],.lst []]):=by
 rw[zf,hns];unfold ny;rw[Cs];have l1:∀o:O,(S++[o]).length=S.length+1:=fun o=>by rw[Qr];rfl
 have l2:∀o o':O,(S++[o,o']).length=S.length+2:=fun o o'=>by rw[Qr];rfl
 have l3:∀o o' o2:O,(S++[o,o',o2]).length=S.length+3:=fun o o' o2=>by rw[Qr];rfl
 rwa[fc,QU,l1,l2,l3]
def a0(g:Int):Ac:=⟨g,[],[],none,[],true⟩
def aI(K:Kc)(a:Int):Kc:={ K with ids:=K.ids++[a],A:=fun x=>if x=a then a0 K.tk else K.A x,ev:=K.ev++[.tup [.str "begin",.int a]] }
def iF(cK cA:Cl):Fn:=fnU 2 2 (fb (ny cA) cK cA)
theorem si(hns:cA.ns.length=6)(M:Mm pos c T)(R:Kr cK cA j pos c K p q)(ha:a∉K.ids)(hi:K.ids.length<=9000)(hl:K.ev.length<=9000):Wp (iF cK cA [.ref (p 0),.int a] T) fun r=>r.1=.non/\Nx cK cA j pos c p (aI K a) r.2:=by
 have t0:=M.get (R.pk 0 (by decide)) R.c0;have t5:=M.get (R.pk 5 (by decide)) R.c5;have v:=lO (q:=q) ha;have mk:=yq (cA:=cA) (S:=T) (tk:=K.tk) hns;generalize ho0:O.ins cA [uI K.tk,uR (T.length+1),uR (T.length+2),some .non,uR (T.length+3),some (.bl true)]=o0 at mk;have N1:=M.new (.a j a 0) o0 [];have N2:=N1.new (.a j a 1) (.dic []) [];have N3:=N2.new (.a j a 2) (.dic []) [];have N4:=N3.new (.a j a 3) (.lst []) [];have z1:(T++[o0]).length=T.length+1:=by simp
 have z2:(T++[o0]++[O.dic []]).length=T.length+2:=by simp
 have z3:(T++[o0]++[O.dic []]++[O.dic []]).length=T.length+3:=by simp
 rw[z1,z2,z3]at N4;have eT:T++[o0]++[O.dic []]++[O.dic []]++[O.lst []]=T++[o0,.dic [],.dic [],.lst []]:=by simp
 rw[eT]at N4;generalize hpos:fe (fe (fe (fe pos (.a j a 0) T.length) (.a j a 1) (T.length+1)) (.a j a 2) (T.length+2)) (.a j a 3) (T.length+3)=pos4 at N4;generalize hcc:aE (aE (aE (aE c (.a j a 0) o0) (.a j a 1) (.dic [])) (.a j a 2) (.dic [])) (.a j a 3) (.lst [])=c4 at N4;have pk:∀f,pos4 (.k j f)=pos (.k j f):=fun f=>by rw[<-hpos];simp[fe]
 have pb:∀x,x≠a->∀f,pos4 (.a j x f)=pos (.a j x f):=fun x hx f=>by rw[<-hpos];simp[fe,hx]
 have ck:∀f,c4 (.k j f)=c (.k j f):=fun f=>by rw[<-hcc];simp[aE]
 have cb:∀x,x≠a->∀f,c4 (.a j x f)=c (.a j x f):=fun x hx f=>by rw[<-hcc];simp[aE,hx]
 have ne:∀x∈K.ids,x≠a:=fun x hx e=>ha (by rw[<-e];exact hx);have N5:=N4.set (s:=.k j 5) (p:=p 5) (by rw[pk];exact R.pk 5 (by decide)) (.dic (cQ (K.ids.map fun a=>((.inl a:Key),U.ref (q a 0))) (.inl a) (.ref T.length)));have N6:=N5.set (s:=.k j 4) (p:=p 4) (by rw[pk];exact R.pk 4 (by decide)) (.lst (K.ev++[.tup [.str "begin",.int a]]));have ep:cQ (K.ids.map fun a=>((.inl a:Key),U.ref (q a 0))) (.inl a) (.ref T.length)=K.ids.map (fun a=>((.inl a:Key),U.ref (q a 0)))++[(.inl a,.ref T.length)]:=qY fun h=>by
  rw[Qo]at h;obtain⟨x,hx,e⟩:=Qi.mp h;exact ne x hx (Sum.inl.inj e)
 have s0:=N4.get (s:=.k j 0) (p:=p 0) (by rw[pk];exact R.pk 0 (by decide)) ((ck 0).trans R.c0);have s5:=N4.get (s:=.k j 5) (p:=p 5) (by rw[pk];exact R.pk 5 (by decide)) ((ck 5).trans R.c5);have w0:=N5.get (s:=.k j 0) (p:=p 0) (by rw[pk];exact R.pk 0 (by decide)) (((aw (by simp)).trans (ck 0)).trans R.c0);have w4:=N5.get (s:=.k j 4) (p:=p 4) (by rw[pk];exact R.pk 4 (by decide)) (((aw (by simp)).trans (ck 4)).trans R.c4);have hL:K.ev.length<LIM:=by unfold LIM;omega
 have hK:(K.ids.map fun a=>((.inl a:Key),U.ref (q a 0))).length<LIM:=by unfold LIM;rw[QV];omega
 refine⟨(.non,_),?_,rfl,pos4,_,fun x f=>if x=a then T.length+f else q x f,N6,⟨fun f hf=>by rw[pk];exact R.pk f hf,?_,?_,?_,?_,?_,?_,fun x hx f hf=>?_,fun x hx=>?_,fun x hx=>?_,fun x hx=>?_,fun x hx=>?_⟩,fun s hs=>?_⟩
 ·unfold iF;rw[Cs];rwa[fb,t0,t5,v,Option.isSome_none,Qs,if_false,mk,s0,s5,hK,if_true,w0,w4,nC hL]
 ·rw[aw (by simp),aw (by simp),ck];exact R.c0
 ·rw[aw (by simp),aw (by simp),ck];exact R.c1
 ·rw[aw (by simp),aw (by simp),ck];exact R.c2
 ·rw[aw (by simp),aw (by simp),ck];exact R.c3
 ·rw[aV];rfl
 ·rw[aw (by simp),aV,ep];show _=O.dic ((K.ids++[a]).map _);rw[List.map_append];congr 2
  ·exact Ql fun x hx=>by rw[if_neg (ne x hx)]
  ·simp
 ·rcases Qw.mp hx with hx|hx
  ·rw[pb x (ne x hx),if_neg (ne x hx)];exact R.pa x hx f hf
  ·rw[QB.mp hx,if_pos rfl,<-hpos];match f,hf with
   |0,_=>simp[fe]
   |1,_=>simp[fe]
   |2,_=>simp[fe]
   |3,_=>simp[fe]
 ·rw[aw (by simp),aw (by simp)];rcases Qw.mp hx with hx|hx
  ·have:=R.a0 x hx;rw[cb x (ne x hx)];simpa [aI,ne x hx] using this
  ·rw[QB.mp hx,<-hcc];simp[aE,aI,a0,stU,<-ho0]
 ·rw[aw (by simp),aw (by simp)];rcases Qw.mp hx with hx|hx
  ·have:=R.a1 x hx;rw[cb x (ne x hx)];simpa [aI,ne x hx] using this
  ·rw[QB.mp hx,<-hcc];simp[aE,aI,a0,dT]
 ·rw[aw (by simp),aw (by simp)];rcases Qw.mp hx with hx|hx
  ·have:=R.a2 x hx;rw[cb x (ne x hx)];simpa [aI,ne x hx] using this
  ·rw[QB.mp hx,<-hcc];simp[aE,aI,a0,dI]
 ·rw[aw (by simp),aw (by simp)];rcases Qw.mp hx with hx|hx
  ·have:=R.a3 x hx;rw[cb x (ne x hx)];simpa [aI,ne x hx] using this
  ·rw[QB.mp hx,<-hcc];simp[aE,aI,a0]
 ·rw[<-hpos,<-hcc];cases s with
  |k i f=>have:i≠j:=hs;simp[fe,aE,this]
  |a i x f=>have:i≠j:=hs;simp[fe,aE,this]
  |x m i=>simp[fe,aE]
end
theorem iT{κ α:Type}[DecidableEq κ](l:List (κ×α))(k:κ)(v:α):(cQ l k v).length<=l.length+1:=by
 unfold cQ;split
 ·rw[QV];omega
 ·simp
def rO(a:Int)(bs:List Int)(ho:List (Int×Int)):List (Int×Int):=bs.foldl (fun h b=>cQ h b a) ho
def bZ(bs:List Int)(ho:List (Int×Int)):List (Int×Int):=bs.foldl (fun h b=>gR h b) ho
section
variable{cK cA:Cl}{j n:Nat}{pos:Pl->Option Nat}{c:Pl->O}{T:Sto}{K:Kc}{p:Nat->Nat}{q:Int->Nat->Nat}{a b:Int}
def kX(cK cA:Cl):Fn:=fnU 4 2 (fF (gH cK cA) (jc cK cA) (cy cK) (oT cK cA) cK cA)
def tkB(cK cA:Cl):CS:=cZ (gH cK cA) (jc cK cA) (cy cK) (oT cK cA) cK cA
theorem n8(ha:a∈K.ids){r2:Option U}:∀(bs:List Int) (ho:List (Int×Int)) (c:Pl->O) (T:Sto) (r3:Option U),Mm pos c T->Kr cK cA j pos c { K with ho:=ho } p q->ho.length+bs.length<=90000->
  ∃r3' c' T',dD (fun S=>S[q a 3]?=some (.lst ((K.A a).un.map U.int))) (gNm 3) (tkB cK cA) (bs.map U.int) [uR (p 0),uI a,r2,r3] T=some (.nx,[uR (p 0),uI a,r2,r3'],T')/\Mm pos c' T'/\Kr cK cA j pos c' { K with ho:=rO a bs ho } p q/\Fm j pos c pos c'
 |[],ho,c,T,r3,M,R,_=>⟨r3,c,T,gM (M.get (R.pa a ha 3 (by decide)) (R.a3 a ha)),M,R,Fm.refl⟩
 |b::bs,ho,c,T,r3,M,R,hn=>by
  rw[QY]at hn;have t0:=M.get (R.pk 0 (by decide)) R.c0;have t3:=M.get (R.pk 3 (by decide)) R.c3;have hL:(dI ho).length<LIM:=by unfold LIM dI;rw[QV];omega
  have M1:=M.set (R.pk 3 (by decide)) (.dic (dI (cQ ho b a)));have R1:=R.ho (cQ ho b a);have:=iT ho b a;obtain⟨r3',c',T',e,M2,R2,F2⟩:=n8 ha bs (cQ ho b a) _ _ (uI b) M1 R1 (by omega);refine⟨r3',c',T',(ji (M.get (R.pa a ha 3 (by decide)) (R.a3 a ha)) rfl ?_).trans e,M2,R2,(Fm.refl.uk 3).trans F2⟩;rwa[tkB,cZ,t0,t3,hL,if_true,nS]
def bh(K:Kc)(a:Int):Str×Kc:=
 if (K.A a).pu=[]then("done",K.end a "done")else
 if (brd K a (K.A a).lk||(brd K a ((K.A a).pu.map (·.1))||w9 K a))=true then("falls",K.end a "fall")else
 ("taken",{ K.up a { K.A a with st:=some (K.tk+1),un:=bz ((K.A a).pu.map (·.1)) } with tk:=K.tk+1,ho:=rO a (bz ((K.A a).pu.map (·.1))) K.ho })
theorem rE(M:Mm pos c T)(R:Kr cK cA j pos c K p q)(W:Kw K n)(ha:a∈K.ids)(op:(K.A a).op=true)(st:(K.A a).st=none)(hl:K.ev.length<=9000)(hh:K.ho.length<=80000):Wp (kX cK cA [.ref (p 0),.int a] T) fun r=>r.1=.str (bh K a).1/\Nx cK cA j pos c p (bh K a).2 r.2:=by
 have t0:=M.get (R.pk 0 (by decide)) R.c0;have tr:=M.get (R.pa a ha 0 (by decide)) (R.a0 a ha);have tp:=M.get (R.pa a ha 2 (by decide)) (R.a2 a ha);have u:=mw M R ha op st;have pl:=(W.pu a ha).1;have ln:(dI (K.A a).pu).length=(K.A a).pu.length:=by unfold dI;rw[QV]
 rw[st]at tr;have h1:∀{d:CS},bq (eI 2 (bp cK (gH cK cA) (ah 0) (ag (ah 1) aG))) d [uR (p 0),uI a,none,none] T=d [uR (p 0),uI a,uR (q a 0),none] T:=fun{d}=>dz (by rwa[t0,u]);unfold kX bh;rw[IB];unfold fF;rw[h1];by_cases hp:(K.A a).pu=[]
 ·rw[if_pos hp];obtain⟨⟨u1,T1⟩,e2,rfl,N⟩:=mO (w:="done") M R ha hl;refine⟨(_,_),?_,rfl,N⟩;have z:decide ((((dI (K.A a).pu).length:Nat):Int)=0)=true:=by rw[ln,hp];rfl
  rwa[tr,tp,z,t0,e2]
 ·rw[if_neg hp];have z:decide ((((dI (K.A a).pu).length:Nat):Int)=0)=false:=decide_eq_false (by rw[ln];have:=List.length_pos_iff.mpr hp;omega);rw[dz (ρ':=[uR (p 0),uI a,uR (q a 0),none]) (S':=T) (by rwa[tr,tp,z])];obtain⟨X1,e1⟩:=qu (a:=a) (xs:=(K.A a).lk) (kf:=fun b=>b) (vf:=fun _=>.bl true) M R (R.pa a ha 1 (by decide)) (R.a1 a ha) (by simp) (by simp) (W.lk a ha).1;rw[List.map_id']at e1;obtain⟨X2,e2⟩:=qu (a:=a) (xs:=(K.A a).pu) (kf:=fun e=>e.1) (vf:=fun e=>.int e.2) (M.app X1) R (R.pa a ha 2 (by decide)) (R.a2 a ha) (by simp) (by simp) (by omega);obtain⟨X3,e3⟩:=Ae ((M.app X1).app X2) R W ha;simp only[Qk]at e2 e3;have g0:∀Y,(T++Y)[p 0]?=_:=fun Y=>av t0;have gr:∀Y,(T++Y)[q a 0]?=_:=fun Y=>av tr;have tst:∃Y,(cOr (aK (bp cK (cy cK) (ah 0) (ag (ah 1) (ag (bE cA 1 (ah 2)) aG)))) (cOr (aK (bp cK (cy cK) (ah 0) (ag (ah 1) (ag (bE cA 2 (ah 2)) aG)))) (aK (bp cK (oT cK cA) (ah 0) (ag (ah 1) aG))))) [uR (p 0),uI a,uR (q a 0),none] T=some ((brd K a (K.A a).lk||(brd K a ((K.A a).pu.map (·.1))||w9 K a)),T++Y):=by
   cases b1:brd K a (K.A a).lk with
   |true=>rw[b1]at e1;exact⟨X1,by rwa[t0,tr,e1,Bool.true_or]⟩
   |false=>
    rw[b1]at e1;cases b2:brd K a ((K.A a).pu.map (·.1))with
    |true=>rw[b2]at e2;exact⟨X1++X2,by rwa[t0,tr,e1,g0,gr,e2,Bool.false_or,Bool.true_or]⟩
    |false=>rw[b2]at e2;exact⟨X1++(X2++X3),by rwa[t0,tr,e1,g0,gr,e2,e3,Bool.false_or]⟩
  obtain⟨Y,et⟩:=tst;have M1:=M.app Y;have s0:=M1.get (R.pk 0 (by decide)) R.c0;cases hb:(brd K a (K.A a).lk||(brd K a ((K.A a).pu.map (·.1))||w9 K a))with
  |true=>
   rw[if_pos rfl];rw[hb]at et;obtain⟨⟨u1,T1⟩,e4,rfl,N⟩:=mO (w:="fall") M1 R ha hl;refine⟨(_,_),?_,rfl,N⟩;have ei:∀{c1 c2:CS},fg (cOr (aK (bp cK (cy cK) (ah 0) (ag (ah 1) (ag (bE cA 1 (ah 2)) aG)))) (cOr (aK (bp cK (cy cK) (ah 0) (ag (ah 1) (ag (bE cA 2 (ah 2)) aG)))) (aK (bp cK (oT cK cA) (ah 0) (ag (ah 1) aG))))) c1 c2 [uR (p 0),uI a,uR (q a 0),none] T=c1 [uR (p 0),uI a,uR (q a 0),none] (T++Y):=fun{c1 c2}=>by rw[pj,et];rfl
   rw[tM,ei];rwa[s0,e4]
  |false=>
   rw[if_neg Q9];rw[hb]at et;rw[dz (ρ':=[uR (p 0),uI a,uR (q a 0),none]) (S':=T++Y) (by rw[pj,et];rfl)];have M2:=M1.set (R.pk 0 (by decide)) (kO cK p (K.tk+1));have R2:=R.tk (K.tk+1);have s1:=M2.get (R2.pk 0 (by decide)) R2.c0;have s2:=M2.get (R2.pa a ha 0 (by decide)) (R2.a0 a ha);have M3:=M2.set (R2.pa a ha 0 (by decide)) (aO cA (q a) ((K.A a).g) (stU (some (K.tk+1))) (q a 3) ((K.A a).op));have R3:=R2.ao (a:=a) (K.A a).g (some (K.tk+1)) (K.A a).op;have w2:=M3.get (R3.pa a ha 0 (by decide)) (R3.a0 a ha);have wp:=M3.get (R3.pa a ha 2 (by decide)) (R3.a2 a ha);rw[gZ]at w2 wp;generalize hT3:((T++Y).set (p 0) (kO cK p (K.tk+1))).set (q a 0) (aO cA (q a) ((K.A a).g) (stU (some (K.tk+1))) (q a 3) ((K.A a).op))=T3 at M3 w2 wp;have st':stU (K.A a).st=.non:=by rw[st];rfl
   rw[dz (ρ':=[uR (p 0),uI a,uR (q a 0),none]) (S':=(T++Y).set (p 0) (kO cK p (K.tk+1))) (by rwa[s0])];rw[dz (ρ':=[uR (p 0),uI a,uR (q a 0),none]) (S':=T3) (by rw[<-hT3];rwa[s1,s2,stU])];have es:d8 [.ref (q a 2)] T3=some (.ref T3.length,T3++[.lst ((bz ((K.A a).pu.map (·.1))).map U.int)]):=by
    have hlt:((K.A a).pu.map (·.1)).length<64:=by rw[QV];exact pl
    simp only[d8,wp,vL,QX,hlt,if_true]
   have M4:=M3.new (.a j a 3) (.lst ((bz ((K.A a).pu.map (·.1))).map U.int)) [];have R4:Kr cK cA j (fe pos (.a j a 3) T3.length) (aE (aE (aE c (.k j 0) (kO cK p (K.tk+1))) (.a j a 3) (.lst ((bz ((K.A a).pu.map (·.1))).map U.int))) (.a j a 0) (aO cA (q a) ((K.A a).g) (stU (some (K.tk+1))) T3.length ((K.A a).op))) { K.up a { K.A a with st:=some (K.tk+1),un:=bz ((K.A a).pu.map (·.1)) } with tk:=K.tk+1 } p (fun x f=>if x=a/\f=3 then T3.length else q x f):=by
    refine⟨fun f hf=>by simpa [fe] using R.pk f hf,by simp[aE,Kc.up],by simpa [aE,Kc.up] using R.c1,by simpa [aE,Kc.up] using R.c2,by simpa [aE,Kc.up] using R.c3,by simpa [aE,Kc.up] using R.c4,by simpa [aE,Kc.up] using R.c5,fun x hx f hf=>?_,fun x hx=>?_,fun x hx=>?_,fun x hx=>?_,fun x hx=>?_⟩
    ·by_cases e:x=a/\f=3
     ·obtain⟨rfl,rfl⟩:=e;simp[fe]
     ·have:=R.pa x hx f hf;rw[bT (fun z=>by cases z;exact e ⟨rfl,rfl⟩),if_neg e];exact this
    ·by_cases e:x=a
     ·subst e;simp[aE,Kc.up]
     ·have:=R.a0 x hx;simpa [aE,Kc.up,e] using this
    ·have:=R.a1 x hx;by_cases e:x=a
     ·subst e;simpa [aE,Kc.up] using this
     ·simpa [aE,Kc.up,e] using this
    ·have:=R.a2 x hx;by_cases e:x=a
     ·subst e;simpa [aE,Kc.up] using this
     ·simpa [aE,Kc.up,e] using this
    ·have:=R.a3 x hx;by_cases e:x=a
     ·subst e;simp[aE,Kc.up]
     ·simpa [aE,Kc.up,e] using this
   have w4:=M4.get (s:=.a j a 0) (p:=q a 0) (by rw[bT (by simp)];exact R.pa a ha 0 (by decide)) ((aw (by simp)).trans aV);have M5:=M4.set (s:=.a j a 0) (p:=q a 0) (by rw[bT (by simp)];exact R.pa a ha 0 (by decide)) (aO cA (q a) ((K.A a).g) (stU (some (K.tk+1))) T3.length ((K.A a).op));have ec:aE (aE (aE (aE c (.k j 0) (kO cK p (K.tk+1))) (.a j a 0) (aO cA (q a) ((K.A a).g) (stU (some (K.tk+1))) (q a 3) ((K.A a).op))) (.a j a 3) (.lst ((bz ((K.A a).pu.map (·.1))).map U.int))) (.a j a 0) (aO cA (q a) ((K.A a).g) (stU (some (K.tk+1))) T3.length ((K.A a).op))=aE (aE (aE c (.k j 0) (kO cK p (K.tk+1))) (.a j a 3) (.lst ((bz ((K.A a).pu.map (·.1))).map U.int))) (.a j a 0) (aO cA (q a) ((K.A a).g) (stU (some (K.tk+1))) T3.length ((K.A a).op)):=by
    funext s;by_cases e:s=.a j a 0
    ·subst e;rw[aV,aV]
    ·rw[aw e,aw e];by_cases e2:s=.a j a 3
     ·subst e2;rw[aV,aV]
     ·rw[aw e2,aw e2,aw e]
   rw[ec]at M5;rw[dz (ρ':=[uR (p 0),uI a,uR (q a 0),none]) (S':=(T3++[O.lst ((bz ((K.A a).pu.map (·.1))).map U.int)]).set (q a 0) (aO cA (q a) ((K.A a).g) (stU (some (K.tk+1))) T3.length ((K.A a).op))) (by rwa[w2,es,w4])];generalize hT5:(T3++[O.lst ((bz ((K.A a).pu.map (·.1))).map U.int)]).set (q a 0) (aO cA (q a) ((K.A a).g) (stU (some (K.tk+1))) T3.length ((K.A a).op))=T5 at M5;obtain⟨r3',c',T',el,M6,R6,F6⟩:=n8 (K:={ K.up a { K.A a with st:=some (K.tk+1),un:=bz ((K.A a).pu.map (·.1)) } with tk:=K.tk+1 }) (a:=a) (r2:=(uR (q a 0))) ha (bz ((K.A a).pu.map (·.1))) K.ho _ T5 none M5 R4 (by rw[(dW _).length_eq,QV];omega);have v0:=M5.get (R4.pa a ha 0 (by decide)) (R4.a0 a ha);have v3:=M5.get (R4.pa a ha 3 (by decide)) (R4.a3 a ha);have eA:({ K.up a { K.A a with st:=some (K.tk+1),un:=bz ((K.A a).pu.map (·.1)) } with tk:=K.tk+1 }:Kc).A a={ K.A a with st:=some (K.tk+1),un:=bz ((K.A a).pu.map (·.1)) }:=if_pos rfl;rw[eA]at v0 v3 el;have q3:(if a=a/\3=3 then T3.length else q a 3)=T3.length:=if_pos ⟨rfl,rfl⟩;have q0:(if a=a/\0=3 then T3.length else q a 0)=q a 0:=if_neg (by simp);have q1:(if a=a/\1=3 then T3.length else q a 1)=q a 1:=if_neg (by simp);have q2:(if a=a/\2=3 then T3.length else q a 2)=q a 2:=if_neg (by simp);dsimp only[aO]at v0 v3 el;rw[q3]at v0 v3 el;rw[q0,q1,q2]at v0;have hit:iTp (bE cA 4 (ah 2)) [uR (p 0),uI a,uR (q a 0),none] T5=some ((bz ((K.A a).pu.map (·.1))).map U.int,fun S=>S[T3.length]?=some (.lst ((bz ((K.A a).pu.map (·.1))).map U.int)),T5):=p7 (by rwa[v0]) v3;refine⟨(_,T'),?_,rfl,_,_,_,M6,R6,?_⟩
   ·have ef:kR (iTp (bE cA 4 (ah 2))) (gNm 3) (cZ (gH cK cA) (jc cK cA) (cy cK) (oT cK cA) cK cA) [uR (p 0),uI a,uR (q a 0),none] T5=some (.nx,[uR (p 0),uI a,uR (q a 0),r3'],T'):=by
     unfold kR;rw[hit];exact el
    rw[dz ef];rfl
   ·exact(((((Fm.refl (j:=j) (pos:=pos) (c:=c)).uk 0).ua a 3).ua a 0).pn (s:=.a j a 3) rfl).trans F6
end
theorem j2{T:Sto}{p:Nat}{o:O}(h:T[p]?=some o):T.set p o=T:=by
 refine List.ext_getElem? fun i=>?_;rw[Z9];split
 ·rename_i e;subst e;rw[if_pos (Q6.mp h).1,h]
 ·rfl
section
variable{cK cA:Cl}{j n:Nat}{pos:Pl->Option Nat}{c:Pl->O}{T:Sto}{K:Kc}{p:Nat->Nat}{q:Int->Nat->Nat}{a b:Int}
def jb(cK cA:Cl):Fn:=fnU 5 2 (eX (jw cK cA) (jc cK cA) cK cA)
def wrB(cK cA:Cl):CS:=dF (jw cK cA) (jc cK cA) cK cA
theorem AB{l:Nat}{S:Sto}{ho:List (Int×Int)}{v:Int}{co ck:CE}{ρ:Rho}(h1:co ρ S=some (.ref l,S))(h2:ck ρ S=some (.int b,S))(hl:S[l]?=some (.dic (dI ho)))(hv:aJ ho b=some v):wK co ck ρ S=some (.int v,S.set l (.dic (dI (gR ho b)))):=by
 unfold wK;rw[h1,QX];simp only[hl,h2,QX,Cq,jJ,fS,hv,ZV,Ct]
def sS:List Int->Option U->Option U
 |[],r=>r
 |b::bs,_=>sS bs (uI b)
theorem om{k0 k3:Nat}{ok:Sto->Prop}{r1 r2 r3:Option U}{fs:List (Option U)}(hf:fs[2]?=some (uR k3))(n0:k0≠k3)(hok:∀Y x,ok Y->ok (Y.set k3 x)):∀(bs:List Int) (ho:List (Int×Int)) (Y:Sto) (r4:Option U),ok Y->Y[k0]?=some (.ins cK fs)->Y[k3]?=some (.dic (dI ho))->bs.Nodup->(∀b∈bs,(aJ ho b).isSome=true)->
  dD ok (gNm 4) (wrB cK cA) (bs.map U.int) [uR k0,r1,r2,r3,r4] Y=some (.nx,[uR k0,r1,r2,r3,sS bs r4],Y.set k3 (.dic (dI (bZ bs ho))))
 |[],ho,Y,r4,hy,h0,h3,_,_=>by rw[show bZ [] ho=ho from rfl,j2 h3];exact gM hy
 |b::bs,ho,Y,r4,hy,h0,h3,nd,hv=>by
  obtain⟨v,ev⟩:=Qm.mp (hv b QZ);have lt:=(Q6.mp h3).1;obtain⟨nb,nd'⟩:=ZR.mp nd;have ih:=om (r1:=r1) (r2:=r2) (r3:=r3) hf n0 hok bs (gR ho b) (Y.set k3 (.dic (dI (gR ho b)))) (uI b) (hok _ _ hy) (by rw[Qg n0.symm];exact h0) (by rw[Z9,if_pos rfl,if_pos lt]) nd' (fun d hd=>by rw[qJ (fun e=>nb (by rw[<-e];exact hd))];exact hv d (QQ _ hd));rw[List.set_set]at ih;refine(ji hy rfl ?_).trans ih;have F:CW cK 2 (.ref k0,Y)=some (.ref k3,Y):=zj h0 hf;have e1:=AB (co:=bE cK 2 (ah 0)) (ck:=ah 4) (ρ:=[uR k0,r1,r2,r3,uI b]) (S:=Y) (by rwa[F]) rfl h3 ev;show(fH (wK (bE cK 2 (ah 0)) (ah 4))) [uR k0,r1,r2,r3,uI b] Y=_;rwa[e1]
def bc(K:Kc)(a:Int):Str×Kc:=match (K.A a).un with
 |[]=>("",K)
 |b::r=>
  let K':Kc:={ K.up a { K.A a with un:=r } with bx:=K.bx.set b.toNat ((aJ (K.A a).pu b).getD 0),ma:=K.ma.set b.toNat ((K.A a).st.getD 0) }
  if r=[]then("done",Kc.end { K' with ho:=bZ ((K.A a).pu.map (·.1)) K.ho } a "done")else("written",K')
theorem qE{st:Int}{r:List Int}(M:Mm pos c T)(R:Kr cK cA j pos c K p q)(W:Kw K n)(ha:a∈K.ids)(op:(K.A a).op=true)(hst:(K.A a).st=some st)(hun:(K.A a).un=b::r)(b0:0<=b)(b1:b<n)(hb:(aJ (K.A a).pu b).isSome=true)(hr:r.length<=900)
  (hh:r=[]->∀d∈(K.A a).pu.map (·.1),(aJ K.ho d).isSome=true) (hl:K.ev.length<=9000):Wp (jb cK cA [.ref (p 0),.int a] T) fun s=>s.1=.str (bc K a).1/\Nx cK cA j pos c p (bc K a).2 s.2:=by
 obtain⟨v,hv⟩:=Qm.mp hb;have t0:=M.get (R.pk 0 (by decide)) R.c0;have tr:=M.get (R.pa a ha 0 (by decide)) (R.a0 a ha);have tu:=M.get (R.pa a ha 3 (by decide)) (R.a3 a ha);have f:=rP M R ha op;rw[hst]at tr;rw[hun,QN]at tu;have M1:=M.set (R.pa a ha 3 (by decide)) (.lst (r.map U.int));have R1:=R.au (a:=a) r;have s0:=M1.get (R1.pk 0 (by decide)) R1.c0;have s1:=M1.get (R1.pk 1 (by decide)) R1.c1;have sr:=M1.get (R1.pa a ha 0 (by decide)) (R1.a0 a ha);have sp:=M1.get (R1.pa a ha 2 (by decide)) (R1.a2 a ha);rw[gZ]at sr sp;dsimp only at sr;rw[hst]at sr;have M2:=M1.set (R1.pk 1 (by decide)) (.lst ((K.bx.set b.toNat v).map U.int));have R2:=R1.bx (K.bx.set b.toNat v);have u0:=M2.get (R2.pk 0 (by decide)) R2.c0;have u2:=M2.get (R2.pk 2 (by decide)) R2.c2;have ur:=M2.get (R2.pa a ha 0 (by decide)) (R2.a0 a ha);have e2:({ K.up a { K.A a with un:=r } with bx:=K.bx.set b.toNat v }:Kc).A a={ K.A a with un:=r }:=if_pos rfl;rw[e2]at ur;dsimp only at ur;rw[hst]at ur;have M3:=M2.set (R2.pk 2 (by decide)) (.lst ((K.ma.set b.toNat st).map U.int));have R3:=R2.ma (K.ma.set b.toNat st);have w0:=M3.get (R3.pk 0 (by decide)) R3.c0;have wr:=M3.get (R3.pa a ha 0 (by decide)) (R3.a0 a ha);have wu:=M3.get (R3.pa a ha 3 (by decide)) (R3.a3 a ha);have wq:=M3.get (R3.pa a ha 2 (by decide)) (R3.a2 a ha);have w3:=M3.get (R3.pk 3 (by decide)) R3.c3;have e3:({ K.up a { K.A a with un:=r } with bx:=K.bx.set b.toNat v,ma:=K.ma.set b.toNat st }:Kc).A a={ K.A a with un:=r }:=if_pos rfl;rw[e3]at wr wu wq;dsimp only at wr wu wq w3;have hL1:(U.int b::r.map U.int).length<=LIM:=by unfold LIM;simp;omega
 have er:(U.int b::r.map U.int).eraseIdx (Int.toNat 0)=r.map U.int:=rfl;have i1:=Il (xs:=K.bx) b0 (by rw[W.lb];exact b1);have i2:=Il (xs:=K.ma) b0 (by rw[W.lm];exact b1);have m1:∀(xs:List Int) (v:Int) (i:Nat),(xs.map U.int).set i (.int v)=(xs.set i v).map U.int:=fun xs v i=>by rw[List.map_set]
 have em:bc K a=if r=[]then(("done":Str),Kc.end { ({ K.up a { K.A a with un:=r } with bx:=K.bx.set b.toNat v,ma:=K.ma.set b.toNat st }:Kc)with ho:=bZ ((K.A a).pu.map (·.1)) K.ho } a "done")else(("written":Str),({ K.up a { K.A a with un:=r } with bx:=K.bx.set b.toNat v,ma:=K.ma.set b.toNat st }:Kc)):=by
  unfold bc;rw[hun];dsimp only;rw[hv,hst];rfl
 rw[em];unfold jb;rw[Iy];unfold eX;rw[dz (ρ':=[uR (p 0),uI a,uR (q a 0),none,none]) (S':=T) (by rwa[t0,f])];rw[dz (ρ':=[uR (p 0),uI a,uR (q a 0),none,none]) (S':=T) (by rwa[tr,stU,Az,zS])];rw[dz (ρ':=[uR (p 0),uI a,uR (q a 0),uI b,none]) (S':=T.set (q a 3) (.lst (r.map U.int))) (by rwa[tr,tu,An,xh (Ze 0) (by simp) hL1 rfl,er])];rw[dz (ρ':=[uR (p 0),uI a,uR (q a 0),uI b,none]) (S':=(T.set (q a 3) (.lst (r.map U.int))).set (p 1) (.lst ((K.bx.set b.toNat v).map U.int))) (by rwa[sr,sp,fS,hv,ZV,s0,s1,Kc.up,i1,m1])];rw[dz (ρ':=[uR (p 0),uI a,uR (q a 0),uI b,none]) (S':=((T.set (q a 3) (.lst (r.map U.int))).set (p 1) (.lst ((K.bx.set b.toNat v).map U.int))).set (p 2) (.lst ((K.ma.set b.toNat st).map U.int))) (by rwa[ur,u0,u2,stU,Kc.up,i2,m1])];generalize hT3:((T.set (q a 3) (.lst (r.map U.int))).set (p 1) (.lst ((K.bx.set b.toNat v).map U.int))).set (p 2) (.lst ((K.ma.set b.toNat st).map U.int))=T3 at *;by_cases h:r=[]
 ·rw[if_pos h];subst h;have z:decide (0<((0:Nat):Int))=false:=rfl;rw[dz (ρ':=[uR (p 0),uI a,uR (q a 0),uI b,none]) (S':=T3) (by rwa[wr,wu,ZU,List.length_nil,z])];have M4:=M3.set (R3.pk 3 (by decide)) (.dic (dI (bZ ((K.A a).pu.map (·.1)) K.ho)));have R4:=R3.ho (bZ ((K.A a).pu.map (·.1)) K.ho);have n3:p 0≠p 3:=fun e=>by have:=M3.inj (.k j 0) (.k j 3) (p 0) (R3.pk 0 (by decide)) (by rw[e];exact R3.pk 3 (by decide));simp at this
  have n2:q a 2≠p 3:=fun e=>by have:=M3.inj (.a j a 2) (.k j 3) (q a 2) (R3.pa a ha 2 (by decide)) (by rw[e];exact R3.pk 3 (by decide));simp at this
  have n02:q a 2≠p 0:=fun e=>by have:=M3.inj (.a j a 2) (.k j 0) (q a 2) (R3.pa a ha 2 (by decide)) (by rw[e];exact R3.pk 0 (by decide));simp at this
  have lq:q a 2<T3.length:=(Q6.mp wq).1;have eh:oF (bE cA 2 (ah 2)) (gNm 4) (dF (jw cK cA) (jc cK cA) cK cA) [uR (p 0),uI a,uR (q a 0),uI b,none] T3=some (.nx,[uR (p 0),uI a,uR (q a 0),uI b,sS ((K.A a).pu.map (·.1)) none],T3.set (p 3) (.dic (dI (bZ ((K.A a).pu.map (·.1)) K.ho)))):=by
   have hi:bE cA 2 (ah 2) [uR (p 0),uI a,uR (q a 0),uI b,none] T3=some (.ref (q a 2),T3):=by rwa[wr]
   have ek:((dI (K.A a).pu).map fun e=>kU e.1)=((K.A a).pu.map (·.1)).map U.int:=by unfold dI;rw[Qo,Qo];rfl
   unfold oF;rw[hi,QX];simp only[wq];refine qO fun ep=>?_;have key:=om (cK:=cK) (cA:=cA) (k0:=p 0) (k3:=p 3) (r1:=(uI a)) (r2:=(uR (q a 0))) (r3:=(uI b)) (ok:=fun S'=>S'[q a 2]?=some (.fdc ep (dI (K.A a).pu))) (fs:=[uR (p 1),uR (p 2),uR (p 3),uI K.tk,uR (p 4),uR (p 5)]) rfl n3 (fun Y x hy=>by rw[Qg n2.symm];exact hy) ((K.A a).pu.map (·.1)) K.ho (T3.set (q a 2) (.fdc ep (dI (K.A a).pu))) none (by rw[Z9,if_pos rfl,if_pos lq]) (by rw[Qg n02];exact w0) (by rw[Qg n2];exact w3) (W.pu a ha).2.1 (hh rfl);rw[ek];show Option.bind (dD _ _ (wrB cK cA) _ _ _) _=_;rw[key,QX];have e1:((T3.set (q a 2) (.fdc ep (dI (K.A a).pu))).set (p 3) (.dic (dI (bZ ((K.A a).pu.map (·.1)) K.ho))))[q a 2]?=some (.fdc ep (dI (K.A a).pu)):=by rw[Qg n2.symm,Z9,if_pos rfl,if_pos lq]
   have e2:((T3.set (q a 2) (.fdc ep (dI (K.A a).pu))).set (p 3) (.dic (dI (bZ ((K.A a).pu.map (·.1)) K.ho)))).set (q a 2) (.dic (dI (K.A a).pu))=T3.set (p 3) (.dic (dI (bZ ((K.A a).pu.map (·.1)) K.ho))):=by
    rw[List.set_comm _ _ n2,List.set_set];exact j2 (by rw[Qg n2.symm];exact wq)
   simp only[e1,e2]
  rw[dz eh];obtain⟨⟨u1,T4⟩,e4,rfl,pos',c',q',M5,R5,F5⟩:=mO (w:="done") M4 R4 ha hl;have x0:=M4.get (R4.pk 0 (by decide)) R4.c0;refine⟨(_,T4),?_,rfl,pos',c',q',M5,R5,(((((Fm.refl (j:=j) (pos:=pos) (c:=c)).ua a 3).uk 1).uk 2).uk 3).trans F5⟩;rwa[x0,e4]
 ·rw[if_neg h];have z:decide (0<((r.length:Nat):Int))=true:=decide_eq_true (by have:=List.length_pos_iff.mpr h;omega);refine⟨(_,T3),?_,rfl,pos,_,q,M3,R3,((Fm.refl.ua a 3).uk 1).uk 2⟩;rwa[wr,wu,QV,z]
end
section
variable{cK cA:Cl}{j:Nat}{pos:Pl->Option Nat}{c:Pl->O}{T:Sto}{K:Kc}{p:Nat->Nat}{q:Int->Nat->Nat}{a:Int}{st:List Int}
def fM(cK:Cl):Fn:=fnU 3 3 (fG cK)
def vX(cK:Cl)(k1 k2 k3:Nat)(tk:Int)(k4 k5:Nat):O:=.ins cK [uR k1,uR k2,uR k3,uI tk,uR k4,uR k5]
def yy(cK:Cl)(N:Nat)(st:List Int):Sto:=[vX cK (N+1) (N+3) (N+4) 0 (N+5) (N+6),.lst (st.map U.int),.lst [.int 0],.lst ((QU st.length (0:Int)).map U.int),.dic [],.lst [],.dic []]
theorem B5(hns:cK.ns.length=6)(hl:st.length<=900){x:U}:kF cK (fM cK) [x,.tup (st.map U.int)] T=some (.ref T.length,T++yy cK T.length st):=by
 rw[zf,hns];unfold fM;rw[wo];obtain⟨us,hus⟩:∃us,us=st.map U.int:=⟨_,rfl⟩;have lus:us.length=st.length:=by rw[hus,QV]
 obtain⟨rs,hrs⟩:∃rs,rs=(QU st.length (0:Int)).map U.int:=⟨_,rfl⟩;unfold yy;rw[<-hus,<-hrs];have mul:∀o1 o2:O,wc (.ref (T.length+2)) (.int us.length) (T++[o1,o2,.lst [.int 0]])=some (.ref (T.length+3),T++[o1,o2,.lst [.int 0],.lst rs]):=fun o1 o2=>by
  have g1:(T++[o1,o2,O.lst [U.int 0]])[T.length+2]?=some (.lst [.int 0]):=by rw[ga];rfl
  have g2:(0:Int)<=us.length/\(us.length:Int)<=100000/\[U.int 0].length*(us.length:Int).toNat<=LIM:=by
   refine⟨by omega,by omega,?_⟩;unfold LIM;rw[List.length_singleton];omega
  simp only[wc,g1];rw[if_pos g2,hrs,List.map_replicate,lus];simp only[Zx,List.flatten_replicate_singleton,Qr,QY,List.length_nil,Qk,ZS,ZE]
 have l1:∀o:O,(T++[o]).length=T.length+1:=fun o=>by rw[Qr];rfl
 have l2:∀o o':O,(T++[o,o']).length=T.length+2:=fun o o'=>by rw[Qr];rfl
 have l4:∀o1 o2 o3 o4:O,(T++[o1,o2,o3,o4]).length=T.length+4:=fun o1 o2 o3 o4=>by rw[Qr];rfl
 have l5:∀o1 o2 o3 o4 o5:O,(T++[o1,o2,o3,o4,o5]).length=T.length+5:=fun o1 o2 o3 o4 o5=>by rw[Qr];rfl
 have l6:∀o1 o2 o3 o4 o5 o6:O,(T++[o1,o2,o3,o4,o5,o6]).length=T.length+6:=fun o1 o2 o3 o4 o5 o6=>by rw[Qr];rfl
 rwa[fG,QU,l1,l2,l4,l5,l6,mul,vX]
def oW(st:List Int):Kc:=⟨st,QU st.length 0,[],0,[],[],fun _=>a0 0⟩
def oV(N f:Nat):Nat:=if f<2 then N+f else N+f+1
theorem zL(hns:cK.ns.length=6)(hl:st.length<=900){x:U}(M:Mm pos c T):Wp (kF cK (fM cK) [x,.tup (st.map U.int)] T) fun r=>r.1=.ref T.length/\∃pos' c',Mm pos' c' r.2/\Kr cK cA j pos' c' (oW st) (oV T.length) (fun _ _=>0)/\Fm j pos c pos' c':=by
 refine⟨(_,_),B5 hns hl,rfl,?_⟩;have M1:=M.new (.k j 0) (vX cK (T.length+1) (T.length+3) (T.length+4) 0 (T.length+5) (T.length+6)) [];have M2:=M1.new (.k j 1) (.lst (st.map U.int)) [.lst [.int 0]];have M3:=M2.new (.k j 2) (.lst ((QU st.length (0:Int)).map U.int)) [];have M4:=M3.new (.k j 3) (.dic []) [];have M5:=M4.new (.k j 4) (.lst []) [];have M6:=M5.new (.k j 5) (.dic []) [];have eT:T++[vX cK (T.length+1) (T.length+3) (T.length+4) 0 (T.length+5) (T.length+6)]++[O.lst (st.map U.int),O.lst [.int 0]]++[O.lst ((QU st.length (0:Int)).map U.int)]++[O.dic []]++[O.lst []]++[O.dic []]=T++yy cK T.length st:=by simp[yy]
 rw[eT]at M6;refine⟨_,_,M6,⟨fun f hf=>?_,?_,?_,?_,?_,?_,?_,fun a h=>(nomatch h),fun a h=>(nomatch h),fun a h=>(nomatch h),fun a h=>(nomatch h),fun a h=>(nomatch h)⟩,fun s hs=>?_⟩
 ·match f,hf with
  |0,_=>simp[fe,oV]
  |1,_=>simp[fe,oV]
  |2,_=>simp[fe,oV]
  |3,_=>simp[fe,oV]
  |4,_=>simp[fe,oV]
  |5,_=>simp[fe,oV]
 ·simp[aE,vX,oV,oW]
 ·simp[aE,oW]
 ·simp[aE,oW]
 ·simp[aE,oW,dI]
 ·simp[aE,oW]
 ·simp[aE,oW]
 ·cases s with
  |k i f=>have:i≠j:=hs;simp[fe,aE,this]
  |a i x f=>simp[fe,aE]
  |x m i=>simp[fe,aE]
def kZ(cK:Cl):Fn:=fnU 1 1 (gB cK)
theorem vK(M:Mm pos c T)(R:Kr cK cA j pos c K p q):kZ cK [.ref (p 0)] T=some (.ref T.length,T++[.lst K.ev]):=by
 have t0:=M.get (R.pk 0 (by decide)) R.c0;have t4:=M.get (R.pk 4 (by decide)) R.c4;unfold kZ;rw[wt];rwa[gB,t0,t4]
def kY(cK:Cl):Fn:=fnU 1 1 (gy cK)
theorem vJ(M:Mm pos c T)(R:Kr cK cA j pos c K p q):kY cK [.ref (p 0)] T=some (.tup (K.bx.map U.int),T):=by
 have t0:=M.get (R.pk 0 (by decide)) R.c0;have t1:=M.get (R.pk 1 (by decide)) R.c1;unfold kY;rw[wt];rwa[gy,t0,t1]
def jd(cK:Cl):Fn:=fnU 1 1 (eZ cK)
theorem vP(M:Mm pos c T)(R:Kr cK cA j pos c K p q):jd cK [.ref (p 0)] T=some (.int K.tk,T):=by
 have t0:=M.get (R.pk 0 (by decide)) R.c0;unfold jd;rw[wt];rwa[eZ,t0]
def dB(A:Ac):Int×Int:=match A.st with
 |none=>(A.g,1)
 |some t=>(t,0)
def mj(cA:Cl):Fn:=fnU 1 1 (b8 cA)
theorem Cj(M:Mm pos c T)(R:Kr cK cA j pos c K p q)(ha:a∈K.ids):mj cA [.ref (q a 0)] T=some (.tup [.int (dB (K.A a)).1,.int (dB (K.A a)).2],T):=by
 have tr:=M.get (R.pa a ha 0 (by decide)) (R.a0 a ha);unfold mj dB;rw[wt];cases h:(K.A a).st with
 |none=>
  rw[h]at tr;rwa[b8,tr,stU,Az,zR]
 |some t=>
  rw[h]at tr;rwa[b8,tr,stU,Az,zS]
def bw(K:Kc):List Int:=k8 (K.ids.map fun a=>dB (K.A a)) K.ids
end
theorem rR{l:List Int}{n:Nat}(nd:l.Nodup)(h:∀b∈l,0<=b/\b<n):l.length<=n:=by
 have:=List.Nodup.length_le_of_subset nd (l₂:=(Qz n).map fun i:Nat=>(i:Int)) fun b hb=>by
  obtain⟨h0,h1⟩:=h b hb;exact Qi.mpr ⟨b.toNat,ZY.mpr (by omega),by omega⟩
 simpa using this
theorem qH{l:List (Int×Int)}{b:Int}(h:b∈l.map (·.1)):(aJ l b).isSome=true:=by
 cases e:aJ l b with
 |some v=>rfl
 |none=>exact absurd h (cq.mp e)
theorem sL{l:List (Int×Int)}{b v d:Int}(h:d∈(cQ l b v).map (·.1)):d=b\/d∈l.map (·.1):=by
 obtain⟨e,he,rfl⟩:=Qi.mp h;rcases xT he with z|⟨p,hp,z⟩
 ·exact .inl z
 ·exact .inr (Qi.mpr ⟨p,hp,z⟩)
theorem jQ(a:Int):∀(bs:List Int) (ho:List (Int×Int)) (d:Int),aJ (rO a bs ho) d=if d∈bs then some a else aJ ho d
 |[],ho,d=>by simp[rO]
 |b::bs,ho,d=>by
  show aJ (rO a bs (cQ ho b a)) d=_;rw[jQ a bs,pC];by_cases h1:d∈bs
  ·rw[if_pos h1,if_pos (QQ _ h1)]
  ·rw[if_neg h1];by_cases h2:d=b
   ·rw[if_pos h2,if_pos (by rw[h2];exact QZ)]
   ·rw[if_neg h2,if_neg (fun z=>(QM.mp z).elim h2 h1)]
theorem rC(a:Int):∀(bs:List Int) (ho:List (Int×Int)),(rO a bs ho).length<=ho.length+bs.length
 |[],ho=>Q8 _
 |b::bs,ho=>by
  show(rO a bs (cQ ho b a)).length<=_;have:=rC a bs (cQ ho b a);have:=iT ho b a;rw[QY];omega
theorem iJ:∀(bs:List Int) (ho:List (Int×Int)) (d:Int),d∉bs->aJ (bZ bs ho) d=aJ ho d
 |[],ho,d,_=>rfl
 |b::bs,ho,d,h=>by
  show aJ (bZ bs (gR ho b)) d=_;rw[iJ bs _ d (fun z=>h (QQ _ z)),qJ (fun z=>h (by rw[z];exact QZ))]
theorem nY:∀(bs:List Int) (ho:List (Int×Int)),(bZ bs ho).length<=ho.length
 |[],ho=>Q8 _
 |b::bs,ho=>Qb (nY bs (gR ho b)) (List.length_filter_le _ _)
structure Tkn(K:Kc)(a:Int):Prop where
 un:(K.A a).un≠[]
 few:(K.A a).un.length<64
 sub:∀b∈(K.A a).un,b∈(K.A a).pu.map (·.1)
 hld:∀d∈(K.A a).pu.map (·.1),aJ K.ho d=some a
structure Ki(K:Kc)(n:Nat):Prop where
 lb:K.bx.length=n
 lm:K.ma.length=n
 few:n<64
 ids:K.ids.Nodup
 lkn:∀a∈K.ids,(K.A a).lk.Nodup
 lkb:∀a∈K.ids,∀b:Int,b∈(K.A a).lk->0<=b/\b<n
 pun:∀a∈K.ids,((K.A a).pu.map (·.1)).Nodup
 pub:∀a∈K.ids,∀b:Int,b∈(K.A a).pu.map (·.1)->0<=b/\b<n
 tak:∀a∈K.ids,(K.A a).op=true->(K.A a).st.isSome=true->Tkn K a
 hol:(K.ho.length:Int)<=64*K.tk
theorem rG{K K':Kc}(h1:K.bx=K'.bx)(h2:K.ma=K'.ma)(h3:K.ho=K'.ho)(h4:K.tk=K'.tk)(h5:K.ev=K'.ev)(h6:K.ids=K'.ids)(h7:∀x,K.A x=K'.A x):K=K':=by
 cases K;cases K';dsimp only at *;subst h1 h2 h3 h4 h5 h6;congr 1;exact funext h7
section
variable{K:Kc}{n:Nat}{a b v:Int}
theorem Ki.w(I:Ki K n):Kw K n where
 lb:=I.lb
 lm:=I.lm
 few:=by have:=I.few;omega
 ids:=I.ids
 lk:=fun a ha=>⟨by have:=rR (I.lkn a ha) (I.lkb a ha);have:=I.few;omega,I.lkb a ha⟩
 pu:=fun a ha=>⟨by have:=rR (I.pun a ha) (I.pub a ha);rw[QV]at this;have:=I.few;omega,I.pun a ha,fun e he=>I.pub a ha e.1 (Qi.mpr ⟨e,he,rfl⟩)⟩
theorem Ki.ev(I:Ki K n)(ev:List U):Ki { K with ev:=ev } n:=⟨I.lb,I.lm,I.few,I.ids,I.lkn,I.lkb,I.pun,I.pub,fun a h1 h2 h3=>let t:=I.tak a h1 h2 h3;⟨t.un,t.few,t.sub,t.hld⟩,I.hol⟩
theorem Ki.up(I:Ki K n)(x:Ac)(h1:x.lk.Nodup)(h2:∀b:Int,b∈x.lk->0<=b/\b<n)(h3:(x.pu.map (·.1)).Nodup)(h4:∀b:Int,b∈x.pu.map (·.1)->0<=b/\b<n)
  (h5:x.op=true->x.st.isSome=true->x.un≠[]/\x.un.length<64/\(∀b∈x.un,b∈x.pu.map (·.1))/\∀d∈x.pu.map (·.1),aJ K.ho d=some a):Ki (K.up a x) n:=by
 have at_:∀y,y≠a->(K.up a x).A y=K.A y:=fun y hy=>if_neg hy;refine⟨I.lb,I.lm,I.few,I.ids,fun y hy=>?_,fun y hy=>?_,fun y hy=>?_,fun y hy=>?_,fun y hy o s=>?_,I.hol⟩
 ·by_cases e:y=a
  ·subst e;rw[gZ];exact h1
  ·rw[at_ y e];exact I.lkn y hy
 ·by_cases e:y=a
  ·subst e;rw[gZ];exact h2
  ·rw[at_ y e];exact I.lkb y hy
 ·by_cases e:y=a
  ·subst e;rw[gZ];exact h3
  ·rw[at_ y e];exact I.pun y hy
 ·by_cases e:y=a
  ·subst e;rw[gZ];exact h4
  ·rw[at_ y e];exact I.pub y hy
 ·by_cases e:y=a
  ·subst e;rw[gZ]at o s;obtain⟨z1,z2,z3,z4⟩:=h5 o s;exact⟨by rw[gZ];exact z1,by rw[gZ];exact z2,by rw[gZ];exact z3,by rw[gZ];exact z4⟩
  ·rw[at_ y e]at o s;have t:=I.tak y hy o s;exact⟨by rw[at_ y e];exact t.un,by rw[at_ y e];exact t.few,by rw[at_ y e];exact t.sub,by rw[at_ y e];exact t.hld⟩
theorem Ki.end(I:Ki K n)(ha:a∈K.ids)(w:Str):Ki (K.end a w) n:=(I.up { K.A a with op:=false } (I.lkn a ha) (I.lkb a ha) (I.pun a ha) (I.pub a ha) fun z=>nomatch z).ev _
theorem Ki.begin(I:Ki K n)(ha:a∉K.ids):Ki (aI K a) n:=by
 have ne:∀y∈K.ids,y≠a:=fun y hy e=>ha (by rw[<-e];exact hy);have at_:∀y,y≠a->(aI K a).A y=K.A y:=fun y hy=>if_neg hy;have ata:(aI K a).A a=a0 K.tk:=if_pos rfl;have sp:∀y∈(aI K a).ids,y∈K.ids\/y=a:=fun y hy=>(Qw.mp hy).imp id QB.mp;refine⟨I.lb,I.lm,I.few,?_,fun y hy=>?_,fun y hy=>?_,fun y hy=>?_,fun y hy=>?_,fun y hy o s=>?_,I.hol⟩
 ·show(K.ids++[a]).Nodup;rw[ZT];exact⟨I.ids,by simp,fun x hx y hy z=>by rw[QB.mp hy]at z;exact ne x hx z⟩
 ·rcases sp y hy with h|rfl
  ·rw[at_ y (ne y h)];exact I.lkn y h
  ·rw[ata];exact List.nodup_nil
 ·rcases sp y hy with h|rfl
  ·rw[at_ y (ne y h)];exact I.lkb y h
  ·rw[ata];exact fun b hb=>nomatch hb
 ·rcases sp y hy with h|rfl
  ·rw[at_ y (ne y h)];exact I.pun y h
  ·rw[ata];exact List.nodup_nil
 ·rcases sp y hy with h|rfl
  ·rw[at_ y (ne y h)];exact I.pub y h
  ·rw[ata];exact fun b hb=>nomatch hb
 ·rcases sp y hy with h|rfl
  ·rw[at_ y (ne y h)]at o s;have t:=I.tak y h o s;exact⟨by rw[at_ y (ne y h)];exact t.un,by rw[at_ y (ne y h)];exact t.few,by rw[at_ y (ne y h)];exact t.sub,by rw[at_ y (ne y h)];exact t.hld⟩
  ·rw[ata]at s;cases s
theorem yZ{l:List Int}{b:Int}(h:l.Nodup):(jP l b).Nodup:=by
 unfold jP;split
 ·exact h
 ·rename_i hb;rw[ZT];exact⟨h,by simp,fun x hx y hy z=>by rw[QB.mp hy]at z;exact hb (by rw[<-z];exact hx)⟩
theorem oK{l:List Int}{b x:Int}(h:x∈jP l b):x=b\/x∈l:=by
 unfold jP at h;split at h
 ·exact .inr h
 ·rcases Qw.mp h with z|z
  ·exact .inr z
  ·exact .inl (QB.mp z)
theorem Ki.look(I:Ki K n)(ha:a∈K.ids)(st:(K.A a).st=none)(b0:0<=b)(b1:b<n):Ki (cH K a b).2 n:=by
 unfold cH;split
 ·exact I.ev _
 ·split
  ·exact I.end ha _
  ·refine(I.up { K.A a with g:=if (K.A a).g<K.ma.getD b.toNat 0 then K.tk else(K.A a).g,lk:=jP (K.A a).lk b } (yZ (I.lkn a ha)) (fun x hx=>?_) (I.pun a ha) (I.pub a ha) fun _ s=>?_).ev _
   ·rcases oK hx with z|z
    ·subst z;exact⟨b0,b1⟩
    ·exact I.lkb a ha x z
   ·have s':(K.A a).st.isSome=true:=s;rw[st]at s';cases s'
theorem Ki.put(I:Ki K n)(ha:a∈K.ids)(st:(K.A a).st=none)(b0:0<=b)(b1:b<n):Ki (CV K a b v) n:=by
 refine(I.up { K.A a with pu:=cQ (K.A a).pu b v } (I.lkn a ha) (I.lkb a ha) (Bz (I.pun a ha)) (fun x hx=>?_) fun _ s=>?_).ev _
 ·rcases sL hx with z|z
  ·subst z;exact⟨b0,b1⟩
  ·exact I.pub a ha x z
 ·have s':(K.A a).st.isSome=true:=s;rw[st]at s';cases s'
theorem Ki.take(I:Ki K n)(ha:a∈K.ids)(st:(K.A a).st=none):Ki (bh K a).2 n:=by
 unfold bh;split
 ·exact I.end ha _
 ·rename_i hp;split
  ·exact I.end ha _
  ·rename_i hb;have hb2:brd K a ((K.A a).pu.map (·.1))=false:=by
    cases z:brd K a ((K.A a).pu.map (·.1))with
    |false=>rfl
    |true=>rw[z]at hb;simp at hb
   have free:∀d∈(K.A a).pu.map (·.1),(aJ K.ho d).getD a=a:=fun d hd=>by
    unfold brd at hb2;have:=List.any_eq_false.mp hb2 d hd;simpa using this
   have pm:=dW ((K.A a).pu.map (·.1));have pl:=(I.w.pu a ha).1;have at_:∀y,y≠a->({ K.up a { K.A a with st:=some (K.tk+1),un:=bz ((K.A a).pu.map (·.1)) } with tk:=K.tk+1,ho:=rO a (bz ((K.A a).pu.map (·.1))) K.ho }:Kc).A y=K.A y:=fun y hy=>if_neg hy;have ata:({ K.up a { K.A a with st:=some (K.tk+1),un:=bz ((K.A a).pu.map (·.1)) } with tk:=K.tk+1,ho:=rO a (bz ((K.A a).pu.map (·.1))) K.ho }:Kc).A a={ K.A a with st:=some (K.tk+1),un:=bz ((K.A a).pu.map (·.1)) }:=if_pos rfl;refine⟨I.lb,I.lm,I.few,I.ids,fun y hy=>?_,fun y hy=>?_,fun y hy=>?_,fun y hy=>?_,fun y hy o s=>?_,?_⟩
   ·by_cases e:y=a
    ·subst e;rw[ata];exact I.lkn y hy
    ·rw[at_ y e];exact I.lkn y hy
   ·by_cases e:y=a
    ·subst e;rw[ata];exact I.lkb y hy
    ·rw[at_ y e];exact I.lkb y hy
   ·by_cases e:y=a
    ·subst e;rw[ata];exact I.pun y hy
    ·rw[at_ y e];exact I.pun y hy
   ·by_cases e:y=a
    ·subst e;rw[ata];exact I.pub y hy
    ·rw[at_ y e];exact I.pub y hy
   ·by_cases e:y=a
    ·subst e;refine⟨?_,?_,?_,fun d hd=>?_⟩
     ·rw[ata];intro z;have z':bz ((K.A y).pu.map (·.1))=[]:=z;rw[z']at pm;have:=pm.length_eq;rw[List.length_nil,QV]at this;exact hp (List.length_eq_zero_iff.mp this.symm)
     ·rw[ata];show(bz _).length<64;rw[pm.length_eq,QV];exact pl
     ·rw[ata];exact fun b hb=>pm.mem_iff.mp hb
     ·rw[ata]at hd;show aJ (rO y _ K.ho) d=some y;rw[jQ,if_pos (pm.mem_iff.mpr hd)]
    ·rw[at_ y e]at o s;have t:=I.tak y hy o s;refine⟨by rw[at_ y e];exact t.un,by rw[at_ y e];exact t.few,by rw[at_ y e];exact t.sub,fun d hd=>?_⟩;rw[at_ y e]at hd;show aJ (rO a _ K.ho) d=some y;have hv:=t.hld d hd;rw[jQ,if_neg (fun z=>?_)]
     ·exact hv
     ·have:=free d (pm.mem_iff.mp z);rw[hv]at this;exact e this
   ·have l1:=rC a (bz ((K.A a).pu.map (·.1))) K.ho;have l2:=pm.length_eq;rw[QV]at l2;have:=I.hol;show((rO a _ K.ho).length:Int)<=64*(K.tk+1);omega
theorem Ki.write(I:Ki K n)(ha:a∈K.ids)(op:(K.A a).op=true)(st:(K.A a).st.isSome=true):Ki (bc K a).2 n:=by
 have t:=I.tak a ha op st;unfold bc;cases hu:(K.A a).un with
 |nil=>exact absurd hu t.un
 |cons b r=>
  dsimp only;have J:∀(x y:List Int),x.length=n->y.length=n->Ki { K with bx:=x,ma:=y } n:=fun x y hx hy=>⟨hx,hy,I.few,I.ids,I.lkn,I.lkb,I.pun,I.pub,fun a h1 h2 h3=>let t:=I.tak a h1 h2 h3;⟨t.un,t.few,t.sub,t.hld⟩,I.hol⟩;have J1:=J (K.bx.set b.toNat ((aJ (K.A a).pu b).getD 0)) (K.ma.set b.toNat ((K.A a).st.getD 0)) (by rw[Z8];exact I.lb) (by rw[Z8];exact I.lm);by_cases hr:r=[]
  ·rw[if_pos hr];have J2:=J1.up (a:=a) { K.A a with un:=r,op:=false } (I.lkn a ha) (I.lkb a ha) (I.pun a ha) (I.pub a ha) fun z=>nomatch z;have eq:Kc.end { ({ K.up a { K.A a with un:=r } with bx:=K.bx.set b.toNat ((aJ (K.A a).pu b).getD 0),ma:=K.ma.set b.toNat ((K.A a).st.getD 0) }:Kc)with ho:=bZ ((K.A a).pu.map (·.1)) K.ho } a "done"={ ({ (Kc.up { K with bx:=K.bx.set b.toNat ((aJ (K.A a).pu b).getD 0),ma:=K.ma.set b.toNat ((K.A a).st.getD 0) } a { K.A a with un:=r,op:=false })with ho:=bZ ((K.A a).pu.map (·.1)) K.ho }:Kc)with ev:=K.ev++[.tup [.str "done",.int a]] }:=by
    refine rG rfl rfl rfl rfl rfl rfl fun x=>?_;by_cases h:x=a<;>simp[Kc.end,Kc.up,h]
   rw[eq];refine Ki.ev (K:={ (Kc.up { K with bx:=K.bx.set b.toNat ((aJ (K.A a).pu b).getD 0),ma:=K.ma.set b.toNat ((K.A a).st.getD 0) } a { K.A a with un:=r,op:=false })with ho:=bZ ((K.A a).pu.map (·.1)) K.ho }) ⟨J2.lb,J2.lm,J2.few,J2.ids,J2.lkn,J2.lkb,J2.pun,J2.pub,fun y hy o s=>?_,?_⟩ _
   ·have ya:y≠a:=fun e=>by
     subst e;have:(({ (Kc.up { K with bx:=K.bx.set b.toNat ((aJ (K.A y).pu b).getD 0),ma:=K.ma.set b.toNat ((K.A y).st.getD 0) } y { K.A y with un:=r,op:=false })with ho:=bZ ((K.A y).pu.map (·.1)) K.ho }:Kc).A y)={ K.A y with un:=r,op:=false }:=if_pos rfl;rw[this]at o;cases o
    have at_:({ (Kc.up { K with bx:=K.bx.set b.toNat ((aJ (K.A a).pu b).getD 0),ma:=K.ma.set b.toNat ((K.A a).st.getD 0) } a { K.A a with un:=r,op:=false })with ho:=bZ ((K.A a).pu.map (·.1)) K.ho }:Kc).A y=K.A y:=if_neg ya;rw[at_]at o s;have t':=I.tak y hy o s;refine⟨by rw[at_];exact t'.un,by rw[at_];exact t'.few,by rw[at_];exact t'.sub,fun d hd=>?_⟩;rw[at_]at hd;have hv:=t'.hld d hd;show aJ (bZ _ K.ho) d=some y;rw[iJ _ _ _ fun z=>?_]
    ·exact hv
    ·have:=t.hld d z;rw[hv]at this;exact ya (Option.some.inj this)
   ·have:=nY ((K.A a).pu.map (·.1)) K.ho;have:=I.hol;show((bZ _ K.ho).length:Int)<=64*K.tk;omega
  ·rw[if_neg hr];refine J1.up (a:=a) { K.A a with un:=r } (I.lkn a ha) (I.lkb a ha) (I.pun a ha) (I.pub a ha) fun _ _=>⟨hr,?_,fun x hx=>?_,t.hld⟩
   ·have:=t.few;rw[hu,QY]at this;show r.length<64;omega
   ·exact t.sub x (by rw[hu];exact QQ _ hx)
end
inductive Kl where
 |bg (a:Int)|lk (a b:Int)|pt (a b v:Int)|tk (a:Int)|wr (a:Int)
def Kl.of:Kl->Int
 |.bg a=>a
 |.lk a _=>a
 |.pt a _ _=>a
 |.tk a=>a
 |.wr a=>a
def fB(K:Kc):Kl->U×Kc
 |.bg a=>(.non,aI K a)
 |.lk a b=>cH K a b
 |.pt a b v=>(.non,CV K a b v)
 |.tk a=>(.str (bh K a).1,(bh K a).2)
 |.wr a=>(.str (bc K a).1,(bc K a).2)
def sk(K:Kc)(n:Nat):Kl->Prop
 |.bg a=>a∉K.ids
 |.lk a b=>(a∈K.ids/\(K.A a).op=true/\(K.A a).st=none)/\0<=b/\b<n
 |.pt a b _=>(a∈K.ids/\(K.A a).op=true/\(K.A a).st=none)/\0<=b/\b<n
 |.tk a=>a∈K.ids/\(K.A a).op=true/\(K.A a).st=none
 |.wr a=>a∈K.ids/\(K.A a).op=true/\(K.A a).st.isSome=true
structure Kb(K:Kc)(m:Nat):Prop where
 ev:K.ev.length<=m
 tk:K.tk<=m
 ids:K.ids.length<=m
section
variable{K:Kc}{n m:Nat}{a b v:Int}{k:Kl}
theorem Ki.call(I:Ki K n)(h:sk K n k):Ki (fB K k).2 n:=by
 cases k with
 |bg a=>exact I.begin h
 |lk a b=>exact I.look h.1.1 h.1.2.2 h.2.1 h.2.2
 |pt a b v=>exact I.put h.1.1 h.1.2.2 h.2.1 h.2.2
 |tk a=>exact I.take h.1 h.2.2
 |wr a=>exact I.write h.1 h.2.1 h.2.2
theorem yK{w:Str}(B:Kb K m):Kb (K.end a w) (m+1):=⟨by show(K.ev++[_]).length<=_;have:=B.ev;simp;omega,by show K.tk<=_;have:=B.tk;omega,by show K.ids.length<=_;have:=B.ids;omega⟩
theorem Kb.call(B:Kb K m):Kb (fB K k).2 (m+1):=by
 have h1:=B.ev;have h2:=B.tk;have h3:=B.ids;cases k with
 |bg a=>exact⟨by show(K.ev++[_]).length<=_;simp;omega,by show K.tk<=_;omega,by show(K.ids++[_]).length<=_;simp;omega⟩
 |lk a b=>
  show Kb (cH K a b).2 _;unfold cH;split
  ·exact⟨by show(K.ev++[_]).length<=_;simp;omega,by show K.tk<=_;omega,by show K.ids.length<=_;omega⟩
  ·split
   ·exact yK B
   ·exact⟨by show(K.ev++[_]).length<=_;simp;omega,by show K.tk<=_;omega,by show K.ids.length<=_;omega⟩
 |pt a b v=>exact⟨by show(K.ev++[_]).length<=_;simp;omega,by show K.tk<=_;omega,by show K.ids.length<=_;omega⟩
 |tk a=>
  show Kb (bh K a).2 _;unfold bh;split
  ·exact yK B
  ·split
   ·exact yK B
   ·exact⟨by show K.ev.length<=_;omega,by show K.tk+1<=_;omega,by show K.ids.length<=_;omega⟩
 |wr a=>
  show Kb (bc K a).2 _;unfold bc;split
  ·exact⟨by show K.ev.length<=_;omega,by show K.tk<=_;omega,by show K.ids.length<=_;omega⟩
  ·dsimp only;split
   ·exact yK ⟨h1,h2,h3⟩
   ·exact⟨by show K.ev.length<=_;omega,by show K.tk<=_;omega,by show K.ids.length<=_;omega⟩
def wOf(A:Ac):Str:=if A.op=true then(if A.st=none then "on" else "taken")else "off"
theorem DR{A:Ac}(h:wOf A="taken"):A.op=true/\A.st.isSome=true:=by
 unfold wOf at h;cases e:A.op with
 |false=>rw[e,if_neg Q9]at h;exact absurd h (by decide)
 |true=>
  rw[e,if_pos rfl]at h;split at h
  ·exact absurd h (by decide)
  ·rename_i z;exact⟨rfl,by cases y:A.st with
    |none=>exact absurd y z
    |some t=>rfl⟩
theorem DS{A:Ac}(h1:wOf A≠"off")(h2:wOf A≠"taken"):A.op=true/\A.st=none:=by
 unfold wOf at h1 h2;cases e:A.op with
 |false=>rw[e,if_neg Q9]at h1;exact absurd rfl h1
 |true=>
  rw[e,if_pos rfl]at h2;split at h2
  ·rename_i z;exact⟨rfl,z⟩
  ·exact absurd rfl h2
end
section
variable{cK cA:Cl}{i j:Nat}{pos pos':Pl->Option Nat}{c c':Pl->O}{T:Sto}{K:Kc}{p:Nat->Nat}{q:Int->Nat->Nat}
def Fx(pos:Pl->Option Nat)(c:Pl->O)(pos':Pl->Option Nat)(c':Pl->O):Prop:=∀s,(∀f i,s≠.x f i)->pos' s=pos s/\c' s=c s
theorem Kr.fx(R:Kr cK cA i pos c K p q)(F:Fx pos c pos' c'):Kr cK cA i pos' c' K p q:=by
 have k:∀f,pos' (.k i f)=pos (.k i f)/\c' (.k i f)=c (.k i f):=fun f=>F (.k i f) fun _ _=>by simp
 have a:∀x f,pos' (.a i x f)=pos (.a i x f)/\c' (.a i x f)=c (.a i x f):=fun x f=>F (.a i x f) fun _ _=>by simp
 exact⟨fun f hf=>by rw[(k f).1];exact R.pk f hf,by rw[(k 0).2];exact R.c0,by rw[(k 1).2];exact R.c1,by rw[(k 2).2];exact R.c2,by rw[(k 3).2];exact R.c3,by rw[(k 4).2];exact R.c4,by rw[(k 5).2];exact R.c5,fun x hx f hf=>by rw[(a x f).1];exact R.pa x hx f hf,fun x hx=>by rw[(a x 0).2];exact R.a0 x hx,fun x hx=>by rw[(a x 1).2];exact R.a1 x hx,fun x hx=>by rw[(a x 2).2];exact R.a2 x hx,fun x hx=>by rw[(a x 3).2];exact R.a3 x hx⟩
def Fx.upd{f i:Nat}{o:O}:Fx pos c pos (aE c (.x f i) o):=fun s hs=>⟨rfl,aw (hs f i)⟩
def Fx.new{f i p:Nat}{o:O}:Fx pos c (fe pos (.x f i) p) (aE c (.x f i) o):=fun s hs=>⟨bT (hs f i),aw (hs f i)⟩
theorem CQ{f i lw:Nat}{z m:Int}(M:Mm pos c T)(hp:pos (.x f i)=some lw)(hc:c (.x f i)=.lst [.int z])(hm:0<m)(hb:m<2^60):∃d z',i9 [.ref lw,.int m] T=some (.int d,T.set lw (.lst [.int z']))/\Mm pos (aE c (.x f i) (.lst [.int z'])) (T.set lw (.lst [.int z']))/\0<=d/\d<m:=by
 have h:=M.get hp hc;refine⟨z % m,z / m,?_,M.set hp _,Int.emod_nonneg _ (by omega),Int.emod_lt_of_pos _ hm⟩;unfold i9;rw[Cr];have dv:∀(j:Int) (S:Sto),zW (.int j) (.int m) S=some (.int (j / m),S):=fun j S=>Dy ⟨hm,l9 (by omega) hb⟩;have md:∀(j:Int) (S:Sto),lJ (.int j) (.int m) S=some (.int (j % m),S):=fun j S=>tN hm;rwa[jr,h,dv,md]
end
theorem tj{S:Sto}{ci el:CE}{ct:CT}{caps:List Nat}{ρ:Rho}{ld:Nat}{kus:List (Key×U)}{t:Key×U->Bool}{v:Key×U->U}{r:Rho}(hi:ci ρ S=some (.ref ld,S))(hd:S[ld]?=some (.dic kus))(hr:pH 1 caps ρ=none::r)(hl:kus.length<=900)
  (ht:∀ep ys,∀p∈kus,ct (some (kU p.1)::r) (S.set ld (.fdc ep kus)++[.lst ys])=some (t p,S.set ld (.fdc ep kus)++[.lst ys])) (he:∀p∈kus,∀Y,el (some (kU p.1)::r) Y=some (v p,Y)) :
  i6 ci (gNm 0) ct el 1 caps ρ S=some (.ref S.length,S++[.lst ((kus.filter t).map v)]):=by
 have lk:ld<S.length:=(Q6.mp hd).1;unfold i6 oC;rw[hi,QX];simp only[hd];refine qO fun ep=>?_;have ek:∀X:Sto,(S.set ld (.fdc ep kus)++X)[ld]?=some (.fdc ep kus):=fun X=>av (by rw[Z9,if_pos rfl,if_pos lk]);have key:∀(ks:List (Key×U)) (ys:List U) (r0:Option U),(∀p∈ks,p∈kus)->ys.length+ks.length<=9999->bL (fun S'=>S'[ld]?=some (.fdc ep kus)) (gNm 0) ct el S.length (ks.map fun p=>kU p.1) (r0::r) (S.set ld (.fdc ep kus)++[.lst ys])=some (S.set ld (.fdc ep kus)++[.lst (ys++(ks.filter t).map v)]):=by
  intro ks;induction ks with
  |nil=>intro ys r0 _ _;rw[ZU,List.filter_nil,ZU,Qc];exact mf (ek _)
  |cons p ks ih=>
   intro ys r0 hm hn;rw[QY]at hn;have h1:=ht ep ys p (hm p QZ);rw[QN];cases hp:t p with
   |false=>
    rw[hp]at h1;rw[List.filter_cons_of_neg (by rw[hp];exact Q9)];exact(oz (ρ0:=some (kU p.1)::r) (S0:=S.set ld (.fdc ep kus)++[.lst ys]) (ek _) rfl h1).trans (ih ys _ (fun q hq=>hm q (QQ _ hq)) (by omega))
   |true=>
    rw[hp]at h1;rw[List.filter_cons_of_pos hp,QN];refine(me (ρ0:=some (kU p.1)::r) (S0:=S.set ld (.fdc ep kus)++[.lst ys]) (S2:=S.set ld (.fdc ep kus)++[.lst ys]) (x:=v p) (ys:=ys) (ek _) rfl h1 (he p (hm p QZ) _) ?_ (by unfold LIM;omega)).trans ?_
    ·have:=ga0 (S:=S.set ld (.fdc ep kus)) (X:=[.lst ys]);rw[Z8]at this;rw[this];rfl
    ·have:=gs0 (S:=S.set ld (.fdc ep kus)) (X:=[.lst ys]) (o:=.lst (ys++[v p]));rw[Z8]at this;rw[this];show bL _ _ _ _ _ _ _ (S.set ld (.fdc ep kus)++[.lst (ys++[v p])])=_;rw[ih (ys++[v p]) _ (fun q hq=>hm q (QQ _ hq)) (by simp;omega),Qk];rfl
 rw[hr,key kus [] none (fun p h=>h) (by simp;omega),QX];have e2:(S.set ld (.fdc ep kus)++[O.lst ([]++(kus.filter t).map v)]).set ld (.dic kus)=S++[.lst ((kus.filter t).map v)]:=by
  rw[List.set_append_left _ _ (by rw[Z8];exact lk),qT hd,ZE]
 simp only[ek,e2]
def phU(K:Kc):List (Key×U):=K.ids.map fun x=>(.inl x,.str (wOf (K.A x)))
theorem uj{f:Int->U}{a:Int}:∀{ids:List Int},a∈ids->aJ (ids.map fun x=>((.inl x:Key),f x)) (.inl a)=some (f a)
 |x::r,h=>by
  unfold aJ;rw[QN,Qd];by_cases e:x=a
  ·subst e;simp
  ·have hd:decide ((.inl x:Key)=.inl a)=false:=decide_eq_false fun z=>e (Sum.inl.inj z);rw[hd];exact uj (ids:=r) ((QM.mp h).resolve_left fun z=>e z.symm)
theorem uT{f:Int->U}{a:Int}{u:U}{ids:List Int}(h:a∈ids):cQ (ids.map fun x=>((.inl x:Key),f x)) (.inl a) u=ids.map fun x=>(.inl x,if x=a then u else f x):=by
 have ha:((ids.map fun x=>((.inl x:Key),f x)).any fun kv=>decide (kv.1=.inl a))=true:=List.any_eq_true.mpr ⟨(.inl a,f a),Qi.mpr ⟨a,h,rfl⟩,by simp⟩;unfold cQ;rw[if_pos ha,Qo];refine Ql fun x _=>?_;show(if (.inl x:Key)=.inl a then((.inl x:Key),u)else(.inl x,f x))=_;by_cases e:x=a
 ·subst e;simp
 ·rw[if_neg (fun z=>e (Sum.inl.inj z)),if_neg e]
def jk:U->Bool
 |.tup [.str w]=>decide (w="falls")
 |.str w=>decide (w="falls")||decide (w="done")
 |_=>false
def mP:U->Bool
 |.str w=>decide (w="taken")
 |_=>false
theorem vG{w:Str}(h:(PyData.str w).canLay0=true):lM (.tuple [.str w]):=⟨by simp[PyData.canLay0,PyData.canLayAll0]at h ⊢;exact h,by simp[PyData.depth,PyData.depthAll]⟩
theorem mK{w:Str}{v:Int}(h:(PyData.str w).canLay0=true):lM (.tuple [.str w,.int v]):=⟨by simp[PyData.canLay0,PyData.canLayAll0]at h ⊢;exact h,by simp[PyData.depth,PyData.depthAll]⟩
theorem ly{w:Str}(h:w∈(["done","falls","taken","written",""]:List Str)):(PyData.str w).canLay0=true:=by
 have:(["done","falls","taken","written",""]:List Str).all (fun w=>(PyData.str w).canLay0)=true:=by decide +kernel
 exact List.all_eq_true.mp this w h
def lyn:(PyData.str "number").canLay0=true:=by decide +kernel
theorem uy{x y:Str}:PyData.eqv (.str x) (.str y)=decide (x=y):=by
 show(x == y)=_;by_cases e:x=y
 ·subst e;simp
 ·rw[decide_eq_false e];simpa using e
section
variable{K:Kc}{n:Nat}{k:Kl}{a:Int}
def phN(K:Kc)(k:Kl):List (Key×U):=if jk (fB K k).1=true then cQ (phU K) (.inl k.of) (.str "off")else if mP (fB K k).1=true then cQ (phU K) (.inl k.of) (.str "taken")else phU K
theorem HD(ha:a∉K.ids):phU (aI K a)=phU K++[(.inl a,.str "on")]:=by
 unfold phU;show(K.ids++[a]).map _=_;rw[List.map_append];congr 1
 ·refine Ql fun x hx=>?_;have:(aI K a).A x=K.A x:=if_neg fun e=>ha (by rw[<-e];exact hx);rw[this]
 ·have:(aI K a).A a=a0 K.tk:=if_pos rfl;simp only[QN,ZU,this];rfl
theorem rW{w:Str}(ha:a∈K.ids):phU (K.end a w)=cQ (phU K) (.inl a) (.str "off"):=by
 unfold phU;rw[uT (f:=fun x=>.str (wOf (K.A x))) ha];refine Ql fun x _=>?_;by_cases e:x=a
 ·subst e;have:(K.end x w).A x={ K.A x with op:=false }:=if_pos rfl;rw[this,if_pos rfl];rfl
 ·have:(K.end a w).A x=K.A x:=if_neg e;rw[this,if_neg e]
theorem j5{K':Kc}(h:K'.ids=K.ids)(hA:∀x∈K.ids,wOf (K'.A x)=wOf (K.A x)):phU K'=phU K:=by
 unfold phU;rw[h];exact Ql fun x hx=>by rw[hA x hx]
theorem uW(h:sk K n k)(hk:∀a,k≠.bg a):(fB K k).2.ids=K.ids/\phU (fB K k).2=phN K k/\k.of∈K.ids:=by
 have w0:∀{a x:Int} {v:Ac},v.op=(K.A a).op->v.st=(K.A a).st->wOf ((K.up a v).A x)=wOf (K.A x):=fun{a x v} h1 h2=>by
  by_cases e:x=a
  ·subst e;rw[gZ];unfold wOf;rw[h1,h2]
  ·rw[show(K.up a v).A x=K.A x from if_neg e]
 cases k with
 |bg a=>exact absurd rfl (hk a)
 |lk a b=>
  obtain⟨⟨ha,_,_⟩,_⟩:=h;unfold phN;show(cH K a b).2.ids=K.ids/\phU (cH K a b).2=(if jk (cH K a b).1=true then _ else if mP (cH K a b).1=true then _ else _)/\a∈K.ids;unfold cH;split
  ·exact⟨rfl,j5 rfl fun x _=>rfl,ha⟩
  ·split
   ·exact⟨rfl,rW ha,ha⟩
   ·exact⟨rfl,j5 rfl fun x _=>w0 rfl rfl,ha⟩
 |pt a b v=>exact⟨rfl,j5 rfl fun x _=>w0 rfl rfl,h.1.1⟩
 |tk a=>
  obtain⟨ha,op,st⟩:=h;unfold phN;show(bh K a).2.ids=K.ids/\phU (bh K a).2=(if jk (.str (bh K a).1)=true then _ else if mP (.str (bh K a).1)=true then _ else _)/\a∈K.ids;unfold bh;split
  ·exact⟨rfl,rW ha,ha⟩
  ·split
   ·exact⟨rfl,rW ha,ha⟩
   ·refine⟨rfl,?_,ha⟩;show _=cQ (phU K) (.inl a) (.str "taken");unfold phU;rw[uT (f:=fun x=>.str (wOf (K.A x))) ha];refine Ql fun x _=>?_;by_cases e:x=a
    ·subst e;rw[if_pos rfl];show((.inl x:Key),U.str (wOf ((K.up x { K.A x with st:=some (K.tk+1),un:=bz ((K.A x).pu.map (·.1)) }).A x)))=_;rw[gZ];unfold wOf;rw[if_pos op,if_neg (by simp)]
    ·rw[if_neg e];show((.inl x:Key),U.str (wOf ((K.up a { K.A a with st:=some (K.tk+1),un:=bz ((K.A a).pu.map (·.1)) }).A x)))=_;rw[show(K.up a { K.A a with st:=some (K.tk+1),un:=bz ((K.A a).pu.map (·.1)) }).A x=K.A x from if_neg e]
 |wr a=>
  obtain⟨ha,op,st⟩:=h;unfold phN;show(bc K a).2.ids=K.ids/\phU (bc K a).2=(if jk (.str (bc K a).1)=true then _ else if mP (.str (bc K a).1)=true then _ else _)/\a∈K.ids;unfold bc;split
  ·exact⟨rfl,rfl,ha⟩
  ·rename_i b r hu;dsimp only;split
   ·refine⟨rfl,?_,ha⟩;show _=cQ (phU K) (.inl a) (.str "off");rw[rW (K:={ ({ K.up a { K.A a with un:=r } with bx:=K.bx.set b.toNat ((aJ (K.A a).pu b).getD 0),ma:=K.ma.set b.toNat ((K.A a).st.getD 0) }:Kc)with ho:=bZ ((K.A a).pu.map (·.1)) K.ho }) ha];congr 1;exact j5 (K:=K) rfl fun x _=>w0 rfl rfl
   ·exact⟨rfl,j5 rfl fun x _=>w0 rfl rfl,ha⟩
end
def evW:List Str:=["begin","look","put","done","fall"]
theorem rS{w:Str}(h:w∈evW):(PyData.str w).canLay0=true:=by
 have:evW.all (fun w=>(PyData.str w).canLay0)=true:=by decide +kernel
 exact List.all_eq_true.mp this w h
theorem Ki.new{st:List Int}{n:Nat}(h:st.length=n)(hn:n<64):Ki (oW st) n:=
 ⟨h,by simp[oW,h],hn,List.nodup_nil,fun _ h=>(nomatch h),fun _ h=>(nomatch h),fun _ h=>(nomatch h),fun _ h=>(nomatch h),fun _ h=>(nomatch h),by simp[oW]⟩
def Kb.new{st:List Int}:Kb (oW st) 0:=⟨Q8 _,by simp[oW],Q8 _⟩
section
variable{pos:Pl->Option Nat}{c:Pl->O}{T:Sto}{l:Nat}{o:O}
theorem Mm.setF(M:Mm pos c T)(h:∀s,pos s≠some l):Mm pos c (T.set l o):=⟨fun s p hp=>by rw[Qg (fun e=>h s (by rw[e];exact hp))];exact M.at_ s p hp,M.inj⟩
end
def vD(D:Nat->Option (List (Int×Int)))(s0:List Int):Nat->Int->Int
 |0,b=>s0.getD b.toNat 0
 |t+1,b=>((D (t+1)).bind fun P=>aJ P b).getD (vD D s0 t b)
section
variable{D D':Nat->Option (List (Int×Int))}{s0:List Int}{b:Int}
theorem qL:∀{t:Nat},(∀u,1<=u->u<=t->((D u).bind fun P=>aJ P b)=(D' u).bind fun P=>aJ P b)->vD D s0 t b=vD D' s0 t b
 |0,_=>rfl
 |t+1,h=>by
  show((D (t+1)).bind fun P=>aJ P b).getD (vD D s0 t b)=((D' (t+1)).bind fun P=>aJ P b).getD (vD D' s0 t b);rw[h (t+1) (by omega) (Q8 _),qL fun u h1 h2=>h u h1 (by omega)]
theorem jY{t:Nat}:∀{t':Nat},t<=t'->(∀u,t<u->u<=t'->((D u).bind fun P=>aJ P b)=none)->vD D s0 t' b=vD D s0 t b
 |0,h,_=>by rw[Nat.le_zero.mp h]
 |t'+1,h,hn=>by
  by_cases e:t=t'+1
  ·rw[e]
  ·show((D (t'+1)).bind fun P=>aJ P b).getD (vD D s0 t' b)=_;rw[hn (t'+1) (by omega) (Q8 _)];exact jY (by omega) fun u h1 h2=>hn u h1 (by omega)
end
def moK(A:Ac):Nat:=match A.st with
 |none=>A.g.toNat
 |some s=>(s-1).toNat
def DsK(K:Kc)(x:Int)(t:Int):Prop:=x∈K.ids/\(K.A x).op=false/\(K.A x).st=some t
def dnP(K:Kc)(t:Nat):Option (List (Int×Int)):=open Classical in (K.ids.find? fun x=>decide (DsK K x t)).map fun x=>(K.A x).pu
def UnK(K:Kc):Prop:=∀x∈K.ids,∀y∈K.ids,∀s,(K.A x).st=some s->(K.A y).st=some s->x=y
section
variable{K K':Kc}{x:Int}{t:Nat}{P:List (Int×Int)}
theorem l8(h:dnP K t=some P):∃x,DsK K x t/\P=(K.A x).pu:=by
 obtain⟨x,h1,h2⟩:=ZK.mp h;exact⟨x,by simpa using List.find?_some h1,h2.symm⟩
theorem yM(U:UnK K)(h:DsK K x t):dnP K t=some (K.A x).pu:=by
 cases e:dnP K t with
 |none=>
  unfold dnP at e;rw[Option.map_eq_none_iff,List.find?_eq_none]at e;exact absurd (by simpa using h) (e x h.1)
 |some P=>
  obtain⟨y,h2,rfl⟩:=l8 e;rw[U x h.1 y h2.1 t h.2.2 h2.2.2]
theorem qj(h:∀x,¬DsK K x t):dnP K t=none:=by
 cases e:dnP K t with
 |none=>rfl
 |some P=>obtain⟨y,h2,_⟩:=l8 e;exact absurd h2 (h y)
theorem wx(U:UnK K)(U':UnK K')(h:∀x,DsK K x t↔DsK K' x t)(hp:∀x,DsK K x t->(K'.A x).pu=(K.A x).pu):dnP K' t=dnP K t:=by
 cases e:dnP K t with
 |none=>
  refine qj fun x hx=>?_;rw[yM U ((h x).mpr hx)]at e;cases e
 |some P=>
  obtain⟨y,h2,rfl⟩:=l8 e;rw[yM U' ((h y).mp h2),hp y h2]
end
def rp1(a:Int)(f:Int->Int)(e:U)(s:List (Int×Int)×List Int):Option (List (Int×Int)×List Int):=match e with
 | .tup [.str w,.int x,.int b,.int v]=>if x=a then(if w="look" then(match aJ s.1 b with
   |some z=>if v=z then some s else none
   |none=>if v=f b then some (s.1,jP s.2 b)else none)else if w="put" then some (cQ s.1 b v,s.2)else some s)else some s
 |_=>some s
def rpE(a:Int)(f:Int->Int):List U->List (Int×Int)×List Int->Option (List (Int×Int)×List Int)
 |[],s=>some s
 |e::r,s=>(rp1 a f e s).bind (rpE a f r)
section
variable{a b v:Int}{f f':Int->Int}{e:U}{s t:List (Int×Int)×List Int}
theorem zD:∀(l:List U) (s),rpE a f (l++[e]) s=(rpE a f l s).bind (rp1 a f e)
 |[],s=>by
  show(rp1 a f e s).bind _=rp1 a f e s;cases rp1 a f e s<;>rfl
 |x::r,s=>by
  show(rp1 a f x s).bind (rpE a f (r++[e]))=((rp1 a f x s).bind (rpE a f r)).bind _;rw[Option.bind_assoc];congr 1;funext y;exact zD r y
def CK{l:List Int}:b∈jP l b:=by unfold jP;split<;>simp[*]
def yY{l:List Int}{x:Int}(h:x∈l):x∈jP l b:=by unfold jP;split<;>simp[h]
theorem xK(h:rp1 a f e s=some t):(∀x∈s.2,x∈t.2)/\((∀b∈t.2,f b=f' b)->rp1 a f' e s=some t):=by
 unfold rp1 at h ⊢;split at h
 ·split at h
  ·split at h
   ·split at h
    ·rename_i z hz;split at h
     ·rename_i hv;cases h;exact⟨fun _ z=>z,fun _=>by simp[*]⟩
     ·cases h
    ·rename_i hz;split at h
     ·rename_i hv;cases h;exact⟨fun x z=>yY z,fun k=>by rw[if_pos (by assumption),if_pos (by assumption)];exact if_pos (hv.trans (k _ CK))⟩
     ·cases h
   ·split at h
    ·cases h;exact⟨fun _ z=>z,fun _=>by rw[if_pos (by assumption),if_neg (by assumption),if_pos (by assumption)]⟩
    ·cases h;exact⟨fun _ z=>z,fun _=>by rw[if_pos (by assumption),if_neg (by assumption),if_neg (by assumption)]⟩
  ·cases h;exact⟨fun _ z=>z,fun _=>by rw[if_neg (by assumption)]⟩
 ·cases h;exact⟨fun _ z=>z,fun _=>rfl⟩
theorem j6:∀(l:List U) (s),rpE a f l s=some t->(∀x∈s.2,x∈t.2)/\((∀b∈t.2,f b=f' b)->rpE a f' l s=some t)
 |[],s,h=>by cases h;exact⟨fun _ z=>z,fun _=>rfl⟩
 |e::r,s,h=>by
  obtain⟨u,h1,h2⟩:=Q0.mp h;have i:=j6 r u h2;have j:=xK (f':=f') h1;refine⟨fun x hx=>i.1 x (j.1 x hx),fun k=>?_⟩;show(rp1 a f' e s).bind _=_;rw[j.2 fun b hb=>k b (i.1 b hb)];exact i.2 k
def Skp(a:Int)(e:U):Prop:=∀w x b v,e=.tup [.str w,.int x,.int b,.int v]->x≠a
theorem dN(h:Skp a e):rp1 a f e s=some s:=by
 unfold rp1;split
 ·rw[if_neg (h _ _ _ _ rfl)]
 ·rfl
theorem uE:∀(l:List U) (s),(∀e∈l,Skp a e)->rpE a f l s=some s
 |[],s,h=>rfl
 |e::r,s,h=>by
  show(rp1 a f e s).bind _=_;rw[dN (h e QZ)];exact uE r s fun x hx=>h x (QQ _ hx)
theorem gh{l:List U}{s0:List (Int×Int)×List Int}(h:rpE a f l s0=some s):rpE a f (l++[e]) s0=rp1 a f e s:=by rw[zD,h];rfl
theorem gJ{w:Str}{x:Int}:Skp a (.tup [.str w,.int x]):=fun _ _ _ _ h=>by
 injection h with h;injection h with _ h;injection h with _ h;cases h
theorem Bo(hv:aJ s.1 b=some v):rp1 a f (.tup [.str "look",.int a,.int b,.int v]) s=some s:=by
 simp[rp1,hv]
theorem Bp(hv:aJ s.1 b=none):rp1 a f (.tup [.str "look",.int a,.int b,.int (f b)]) s=some (s.1,jP s.2 b):=by
 simp[rp1,hv]
theorem zC:rp1 a f (.tup [.str "put",.int a,.int b,.int v]) s=some (cQ s.1 b v,s.2):=by
 show(if a=a then(if ("put":Str)="look" then _ else if ("put":Str)="put" then some (cQ s.1 b v,s.2)else some s)else some s)=_;rw[if_pos rfl,if_neg (by decide),if_pos rfl]
end
structure Ks(K:Kc)(s0:List Int)(n:Nat):Prop where
 u:UnK K
 tk0:0<=K.tk
 r:∀x∈K.ids,∀s,(K.A x).st=some s->1<=s/\s<=K.tk
 g:∀x∈K.ids,0<=(K.A x).g/\(K.A x).g<=K.tk
 evi:∀w x l,U.tup (.str w::.int x::l)∈K.ev->x∈K.ids
 e:∀x∈K.ids,rpE x (vD (dnP K) s0 (moK (K.A x))) K.ev ([],[])=some ((K.A x).pu,(K.A x).lk)
 ne:∀x∈K.ids,∀s,(K.A x).st=some s->(K.A x).pu≠[]
 bar:∀x∈K.ids,(K.A x).op=true->∀s,(K.A x).st=some s->∀y∈K.ids,s.toNat<=moK (K.A y)->∀b∈(K.A y).lk,aJ (K.A x).pu b=none
 dis:∀x∈K.ids,(K.A x).op=true->∀s,(K.A x).st=some s->∀y∈K.ids,∀s',(K.A y).st=some s'->s<s'->∀b,aJ (K.A x).pu b=none\/aJ (K.A y).pu b=none
 hld:∀b x,aJ K.ho b=some x->x∈K.ids/\(K.A x).op=true/\(K.A x).st.isSome=true/\(aJ (K.A x).pu b).isSome=true
 un:∀x∈K.ids,(K.A x).op=true->∀s,(K.A x).st=some s->∀b v,aJ (K.A x).pu b=some v->b∉(K.A x).un->K.bx.getD b.toNat 0=v/\K.ma.getD b.toNat 0=s
 now:∀b:Int,0<=b->b<n->aJ K.ho b=none->0<=K.ma.getD b.toNat 0/\K.ma.getD b.toNat 0<=K.tk/\∀t:Nat,K.ma.getD b.toNat 0<=t->(t:Int)<=K.tk->vD (dnP K) s0 t b=K.bx.getD b.toNat 0
section
variable{K:Kc}{s0:List Int}{n:Nat}{a b:Int}
theorem Ks.dnE{K':Kc}(I:Ks K s0 n)(U':UnK K')(h:∀x t,DsK K x t↔DsK K' x t)(hp:∀x t,DsK K x t->(K'.A x).pu=(K.A x).pu):dnP K'=dnP K:=funext fun t=>wx I.u U' (fun x=>h x t) fun x=>hp x t
theorem Ks.act(I:Ks K s0 n)(ha:a∈K.ids)(st:(K.A a).st=none){v:Ac}(hv:v.st=none)(g0:0<=v.g)(g1:v.g<=K.tk){e:U}{w:Str}{l:List U}(he:e=.tup (.str w::.int a::l))(hr:rpE a (vD (dnP K) s0 v.g.toNat) (K.ev++[e]) ([],[])=some (v.pu,v.lk))
  (hb:∀x∈K.ids,(K.A x).op=true->∀s,(K.A x).st=some s->s.toNat<=v.g.toNat->∀b∈v.lk,aJ (K.A x).pu b=none):Ks { K.up a v with ev:=K.ev++[e] } s0 n:=by
 have at_:∀y,y≠a->(K.up a v).A y=K.A y:=fun y hy=>if_neg hy;have ata:(K.up a v).A a=v:=if_pos rfl;have sn:∀x s,((K.up a v).A x).st=some s->x≠a/\(K.up a v).A x=K.A x:=fun x s h=>by
  have:x≠a:=fun e=>by subst e;rw[ata,hv]at h;cases h
  exact⟨this,at_ x this⟩
 have U':UnK { K.up a v with ev:=K.ev++[e] }:=fun x hx y hy s h1 h2=>by
  have e1:=(sn x s h1).2;have e2:=(sn y s h2).2;exact I.u x hx y hy s (by rw[<-e1];exact h1) (by rw[<-e2];exact h2)
 have ed:dnP { K.up a v with ev:=K.ev++[e] }=dnP K:=I.dnE U' (fun x t=>by
  unfold DsK;by_cases z:x=a
  ·subst z;show _/\_/\_↔_/\_/\((K.up x v).A x).st=_;rw[ata,st,hv];simp
  ·show _/\_/\_↔_/\((K.up a v).A x).op=false/\((K.up a v).A x).st=_;rw[at_ x z];exact Iff.rfl) fun x t h=>by
  have z:x≠a:=fun z=>by subst z;rw[h.2.2]at st;cases st
  show((K.up a v).A x).pu=_;rw[at_ x z]
 refine⟨U',I.tk0,fun x hx s h=>?_,fun x hx=>?_,fun w' x l' h=>?_,fun x hx=>?_,fun x hx s h=>?_,fun x hx o s h y hy q b hb'=>?_,fun x hx o s h y hy s' h' lt b=>?_,fun b x h=>?_,fun x hx o s h b z h1 h2=>?_,fun b h1 h2 h3=>?_⟩
 ·rw[(sn x s h).2]at h;exact I.r x hx s h
 ·by_cases z:x=a
  ·subst z;show 0<=((K.up x v).A x).g/\((K.up x v).A x).g<=_;rw[ata];exact⟨g0,g1⟩
  ·show 0<=((K.up a v).A x).g/\((K.up a v).A x).g<=_;rw[at_ x z];exact I.g x hx
 ·rcases Qw.mp h with h|h
  ·exact I.evi w' x l' h
  ·have:=QB.mp h;rw[he]at this;injection this with this;obtain⟨_,t⟩:=List.cons.inj this;injection (List.cons.inj t).1 with t;rw[t];exact ha
 ·rw[ed];by_cases z:x=a
  ·subst z;show rpE x (vD (dnP K) s0 (moK ((K.up x v).A x))) _ _=some (((K.up x v).A x).pu,((K.up x v).A x).lk);rw[ata];have:moK v=v.g.toNat:=by unfold moK;rw[hv]
   rw[this];exact hr
  ·show rpE x (vD (dnP K) s0 (moK ((K.up a v).A x))) (K.ev++[e]) _=some (((K.up a v).A x).pu,((K.up a v).A x).lk);rw[at_ x z,gh (I.e x hx)];refine dN fun w' x' b' v' h=>?_;rw[he]at h;injection h with h;obtain⟨_,t⟩:=List.cons.inj h;injection (List.cons.inj t).1 with t;rw[<-t];exact Ne.symm z
 ·have:=sn x s h;show((K.up a v).A x).pu≠[];rw[this.2]at h ⊢;exact I.ne x hx s h
 ·have:=(sn x s h).2;show aJ ((K.up a v).A x).pu b=none;rw[this];rw[this]at h;have o':((K.up a v).A x).op=true:=o;rw[this]at o';by_cases z:y=a
  ·subst z;have q':s.toNat<=moK ((K.up y v).A y):=q;have b':b∈((K.up y v).A y).lk:=hb';rw[ata]at q' b';have:moK v=v.g.toNat:=by unfold moK;rw[hv]
   rw[this]at q';exact hb x hx o' s h q' b b'
  ·have q':s.toNat<=moK ((K.up a v).A y):=q;have b':b∈((K.up a v).A y).lk:=hb';rw[at_ y z]at q' b';exact I.bar x hx o' s h y hy q' b b'
 ·have e1:=(sn x s h).2;have e2:=(sn y s' h').2;show aJ ((K.up a v).A x).pu b=none\/aJ ((K.up a v).A y).pu b=none;have o':((K.up a v).A x).op=true:=o;rw[e1]at h o' ⊢;rw[e2]at h' ⊢;exact I.dis x hx o' s h y hy s' h' lt b
 ·obtain⟨h1,h2,h3,h4⟩:=I.hld b x h;have z:x≠a:=fun z=>by subst z;rw[st]at h3;cases h3
  show x∈K.ids/\((K.up a v).A x).op=true/\((K.up a v).A x).st.isSome=true/\(aJ ((K.up a v).A x).pu b).isSome=true;rw[at_ x z];exact⟨h1,h2,h3,h4⟩
 ·have e1:=(sn x s h).2;have o':((K.up a v).A x).op=true:=o;have h1':aJ ((K.up a v).A x).pu b=some z:=h1;have h2':b∉((K.up a v).A x).un:=h2;rw[e1]at h o' h1' h2';exact I.un x hx o' s h b z h1' h2'
 ·rw[ed];exact I.now b h1 h2 h3
theorem Ks.free(I:Ks K s0 n)(st:(K.A a).st=none){bs:List Int}(h:brd K a bs=false):∀b∈bs,aJ K.ho b=none:=fun b hb=>by
 have:=List.any_eq_false.mp h b hb;cases e:aJ K.ho b with
 |none=>rfl
 |some x=>
  rw[e]at this;have z:x=a:=by simpa using this
  obtain⟨_,_,h3,_⟩:=I.hld b x e;rw[z,st]at h3;cases h3
theorem Ks.fall(I:Ks K s0 n)(ha:a∈K.ids)(st:(K.A a).st=none)(w:Str):Ks (K.end a w) s0 n:=by
 have hm:moK (K.A a)=(K.A a).g.toNat:=by unfold moK;rw[st]
 refine I.act ha st (v:={ K.A a with op:=false }) st (I.g a ha).1 (I.g a ha).2 (e:=.tup [.str w,.int a]) (w:=w) (l:=[]) rfl ?_ fun x hx o s h q b hb=>I.bar x hx o s h a ha (by rw[hm];exact q) b hb;have:=I.e a ha;rw[hm]at this;rw[gh this];exact dN gJ
theorem Ks.put(I:Ks K s0 n)(ha:a∈K.ids)(st:(K.A a).st=none)(v:Int):Ks (CV K a b v) s0 n:=by
 have hm:moK (K.A a)=(K.A a).g.toNat:=by unfold moK;rw[st]
 refine I.act ha st (v:={ K.A a with pu:=cQ (K.A a).pu b v }) st (I.g a ha).1 (I.g a ha).2 (e:=.tup [.str "put",.int a,.int b,.int v]) (w:="put") (l:=[.int b,.int v]) rfl ?_ fun x hx o s h q b hb=>I.bar x hx o s h a ha (by rw[hm];exact q) b hb;have:=I.e a ha;rw[hm]at this;rw[gh this];exact zC
theorem Ks.still(I:Ks K s0 n)(J:Ki K n)(ha:a∈K.ids)(st:(K.A a).st=none)(hb:brd K a (K.A a).lk=false)(hc:w9 K a=false):∀b∈(K.A a).lk,vD (dnP K) s0 (K.A a).g.toNat b=vD (dnP K) s0 K.tk.toNat b:=fun b hb'=>by
 obtain⟨b0,b1⟩:=J.lkb a ha b hb';obtain⟨m0,m1,m2⟩:=I.now b b0 b1 (I.free st hb b hb');have h:=List.any_eq_false.mp hc b hb';have h':K.ma.getD b.toNat 0<=(K.A a).g:=by simpa using h
 have g:=I.g a ha;have:=I.tk0;rw[m2 _ (by omega) (by omega),m2 _ (by omega) (by omega)]
theorem Ks.look(I:Ks K s0 n)(J:Ki K n)(ha:a∈K.ids)(st:(K.A a).st=none)(b0:0<=b)(b1:b<n):Ks (cH K a b).2 s0 n:=by
 have hm:moK (K.A a)=(K.A a).g.toNat:=by unfold moK;rw[st]
 have e:=I.e a ha;rw[hm]at e;have t0:=I.tk0;have g:=I.g a ha;unfold cH;cases hv:aJ (K.A a).pu b with
 |some v=>
  have eq:K.say (.tup [.str "look",.int a,.int b,.int v])={ K.up a (K.A a)with ev:=K.ev++[.tup [.str "look",.int a,.int b,.int v]] }:=rG rfl rfl rfl rfl rfl rfl fun x=>by
   show K.A x=if x=a then K.A a else K.A x
   split
   ·rename_i z;rw[z]
   ·rfl
  dsimp only;rw[eq];refine I.act ha st st g.1 g.2 (w:="look") (l:=[.int b,.int v]) rfl ?_ fun x hx o s h q b hb=>I.bar x hx o s h a ha (by rw[hm];exact q) b hb;rw[gh e];exact Bo hv
 |none=>
  dsimp only;cases hw:xA K a b with
  |true=>rw[if_pos rfl];exact I.fall ha st _
  |false=>
   rw[if_neg Q9];unfold xA at hw;obtain⟨hb1,hb2⟩:=Bool.or_eq_false_iff.mp hw;obtain⟨m0,m1,m2⟩:=I.now b b0 b1 (I.free st hb1 b QZ);have fr:∀x∈K.ids,(K.A x).op=true->∀s,(K.A x).st=some s->∀d,aJ K.ho d=none->aJ (K.A x).pu d=none:=fun x hx o s h d hd=>by
    cases z:aJ (K.A x).pu d with
    |none=>rfl
    |some y=>
     have:=(J.tak x hx o (by rw[h];rfl)).hld d (by
      refine Classical.byContradiction fun w=>?_;rw[cq.mpr w]at z;cases z)
     rw[hd]at this;cases this
   have key:∀g':Int,0<=g'->g'<=K.tk->K.ma.getD b.toNat 0<=g'->(∀d∈(K.A a).lk,vD (dnP K) s0 (K.A a).g.toNat d=vD (dnP K) s0 g'.toNat d)->(∀x∈K.ids,(K.A x).op=true->∀s,(K.A x).st=some s->s.toNat<=g'.toNat->∀d∈(K.A a).lk,aJ (K.A x).pu d=none)->Ks ({ K.up a { K.A a with g:=g',lk:=jP (K.A a).lk b } with ev:=K.ev++[.tup [.str "look",.int a,.int b,.int (K.bx.getD b.toNat 0)]] }) s0 n:=fun g' h0 h1 h2 h3 h4=>by
    refine I.act ha st (v:={ K.A a with g:=g',lk:=jP (K.A a).lk b }) st h0 h1 (w:="look") (l:=[.int b,.int (K.bx.getD b.toNat 0)]) rfl ?_ fun x hx o s h q d hd=>?_
    ·rw[gh ((j6 K.ev _ e).2 h3),<-m2 g'.toNat (by omega) (by omega)];exact Bp hv
    ·rcases oK hd with z|z
     ·rw[z];exact fr x hx o s h b (I.free st hb1 b QZ)
     ·exact h4 x hx o s h q d z
   by_cases hg:(K.A a).g<K.ma.getD b.toNat 0
   ·have h3:brd K a (K.A a).lk=false/\w9 K a=false:=by
     rw[decide_eq_false (by omega)]at hb2;simpa using hb2
    have eq:(K.anew a b).say (.tup [.str "look",.int a,.int b,.int (K.bx.getD b.toNat 0)])={ K.up a { K.A a with g:=K.tk,lk:=jP (K.A a).lk b } with ev:=K.ev++[.tup [.str "look",.int a,.int b,.int (K.bx.getD b.toNat 0)]] }:=by
     unfold Kc.anew Kc.say;rw[if_pos hg];rfl
    show Ks ((K.anew a b).say _) s0 n;rw[eq];exact key K.tk t0 (Ze _) m1 (I.still J ha st h3.1 h3.2) fun x hx o s h q d hd=>fr x hx o s h d (I.free st h3.1 d hd)
   ·have eq:(K.anew a b).say (.tup [.str "look",.int a,.int b,.int (K.bx.getD b.toNat 0)])={ K.up a { K.A a with g:=(K.A a).g,lk:=jP (K.A a).lk b } with ev:=K.ev++[.tup [.str "look",.int a,.int b,.int (K.bx.getD b.toNat 0)]] }:=by
     unfold Kc.anew Kc.say;rw[if_neg hg];rfl
    show Ks ((K.anew a b).say _) s0 n;rw[eq];exact key (K.A a).g g.1 g.2 (by omega) (fun _ _=>rfl) fun x hx o s h q d hd=>I.bar x hx o s h a ha (by rw[hm];exact q) d hd
theorem Ks.begin(I:Ks K s0 n)(ha:a∉K.ids):Ks (aI K a) s0 n:=by
 have ne:∀y∈K.ids,y≠a:=fun y hy e=>ha (by rw[<-e];exact hy);have at_:∀y,y≠a->(aI K a).A y=K.A y:=fun y hy=>if_neg hy;have ata:(aI K a).A a=a0 K.tk:=if_pos rfl;have sp:∀y∈(aI K a).ids,y∈K.ids\/y=a:=fun y hy=>(Qw.mp hy).imp id QB.mp;have sn:∀x∈(aI K a).ids,∀s,((aI K a).A x).st=some s->x∈K.ids/\(aI K a).A x=K.A x:=fun x hx s h=>by
  rcases sp x hx with z|z
  ·exact⟨z,at_ x (ne x z)⟩
  ·rw[z,ata]at h;cases h
 have U':UnK (aI K a):=fun x hx y hy s h1 h2=>by
  obtain⟨p1,e1⟩:=sn x hx s h1;obtain⟨p2,e2⟩:=sn y hy s h2;exact I.u x p1 y p2 s (by rw[<-e1];exact h1) (by rw[<-e2];exact h2)
 have ed:dnP (aI K a)=dnP K:=I.dnE U' (fun x t=>⟨fun h=>⟨ZZ _ h.1,by rw[at_ x (ne x h.1)];exact h.2.1,by rw[at_ x (ne x h.1)];exact h.2.2⟩,fun h=>by
  obtain⟨p1,e1⟩:=sn x h.1 t h.2.2;have:=h.2;rw[e1]at this;exact⟨p1,this⟩⟩) fun x t h=>by rw[at_ x (ne x h.1)]
 have t0:=I.tk0;refine⟨U',I.tk0,fun x hx s h=>?_,fun x hx=>?_,fun w' x l' h=>?_,fun x hx=>?_,fun x hx s h=>?_,fun x hx o s h y hy q b hb'=>?_,fun x hx o s h y hy s' h' lt b=>?_,fun b x h=>?_,fun x hx o s h b z h1 h2=>?_,fun b h1 h2 h3=>?_⟩
 ·obtain⟨p1,e1⟩:=sn x hx s h;rw[e1]at h;exact I.r x p1 s h
 ·rcases sp x hx with z|z
  ·rw[at_ x (ne x z)];exact I.g x z
  ·rw[z,ata];exact⟨t0,Ze _⟩
 ·rcases Qw.mp h with h|h
  ·exact ZZ _ (I.evi w' x l' h)
  ·have:=QB.mp h;injection this with this;obtain⟨_,t⟩:=List.cons.inj this;injection (List.cons.inj t).1 with t;rw[t];exact QR _ QZ
 ·rw[ed];show rpE x _ (K.ev++[.tup [.str "begin",.int a]]) _=_;rcases sp x hx with z|z
  ·rw[at_ x (ne x z),gh (I.e x z)];exact dN gJ
  ·rw[z,ata,gh (uE K.ev _ fun e he w y b v h=>ne y (I.evi w y [.int b,.int v] (by rw[<-h];exact he)))];exact dN gJ
 ·obtain⟨p1,e1⟩:=sn x hx s h;rw[e1]at h ⊢;exact I.ne x p1 s h
 ·obtain⟨p1,e1⟩:=sn x hx s h;rw[e1]at h o ⊢;rcases sp y hy with z|z
  ·rw[at_ y (ne y z)]at q hb';exact I.bar x p1 o s h y z q b hb'
  ·rw[z,ata]at hb';cases hb'
 ·obtain⟨p1,e1⟩:=sn x hx s h;obtain⟨p2,e2⟩:=sn y hy s' h';rw[e1]at h o ⊢;rw[e2]at h' ⊢;exact I.dis x p1 o s h y p2 s' h' lt b
 ·obtain⟨h1,h2,h3,h4⟩:=I.hld b x h;rw[at_ x (ne x h1)];exact⟨ZZ _ h1,h2,h3,h4⟩
 ·obtain⟨p1,e1⟩:=sn x hx s h;rw[e1]at h o h1 h2;exact I.un x p1 o s h b z h1 h2
 ·rw[ed];exact I.now b h1 h2 h3
theorem Ks.take(I:Ks K s0 n)(J:Ki K n)(ha:a∈K.ids)(op:(K.A a).op=true)(st:(K.A a).st=none):Ks (bh K a).2 s0 n:=by
 have hm:moK (K.A a)=(K.A a).g.toNat:=by unfold moK;rw[st]
 have t0:=I.tk0;unfold bh;split
 ·exact I.fall ha st _
 rename_i hp;split
 ·exact I.fall ha st _
 rename_i hw;obtain⟨h1,h2,h3⟩:brd K a (K.A a).lk=false/\brd K a ((K.A a).pu.map (·.1))=false/\w9 K a=false:=by
  simpa [Bool.or_eq_false_iff] using hw
 generalize hv:({ K.A a with st:=some (K.tk+1),un:=bz ((K.A a).pu.map (·.1)) }:Ac)=v;have vst:v.st=some (K.tk+1):=by rw[<-hv]
 have vpu:v.pu=(K.A a).pu:=by rw[<-hv]
 have vlk:v.lk=(K.A a).lk:=by rw[<-hv]
 have vop:v.op=true:=by rw[<-hv];exact op
 have vm:moK v=K.tk.toNat:=by unfold moK;rw[vst];dsimp only;congr 1;omega
 have vun:v.un=bz ((K.A a).pu.map (·.1)):=by rw[<-hv]
 have vg:v.g=(K.A a).g:=by rw[<-hv]
 generalize hK:({ K.up a v with tk:=K.tk+1,ho:=rO a (bz ((K.A a).pu.map (·.1))) K.ho }:Kc)=K';have at_:∀y,y≠a->K'.A y=K.A y:=fun y hy=>by rw[<-hK];exact if_neg hy
 have ata:K'.A a=v:=by rw[<-hK];exact if_pos rfl
 have ids:K'.ids=K.ids:=by rw[<-hK];rfl
 have tk:K'.tk=K.tk+1:=by rw[<-hK]
 have ev:K'.ev=K.ev:=by rw[<-hK];rfl
 have bx:K'.bx=K.bx:=by rw[<-hK];rfl
 have ma:K'.ma=K.ma:=by rw[<-hK];rfl
 have ho:∀d,aJ K'.ho d=if d∈bz ((K.A a).pu.map (·.1))then some a else aJ K.ho d:=fun d=>by rw[<-hK];exact jQ a _ _ d
 have sm:∀d,d∈bz ((K.A a).pu.map (·.1))↔d∈(K.A a).pu.map (·.1):=fun d=>(dW _).mem_iff;have vin:∀d,d∈(K.A a).pu.map (·.1)↔(aJ (K.A a).pu d).isSome=true:=fun d=>by
  cases z:aJ (K.A a).pu d with
  |none=>simpa using cq.mp z
  |some y=>simp only[Zr,iff_true];exact Classical.byContradiction fun w=>by rw[cq.mpr w]at z;cases z
 have U':UnK K':=fun x hx y hy s z1 z2=>by
  rw[ids]at hx hy;by_cases e1:x=a
  ·by_cases e2:y=a
   ·rw[e1,e2]
   ·rw[e1,ata,vst]at z1;rw[at_ y e2]at z2;cases z1;have:=I.r y hy _ z2;omega
  ·rw[at_ x e1]at z1;by_cases e2:y=a
   ·rw[e2,ata,vst]at z2;cases z2;have:=I.r x hx _ z1;omega
   ·rw[at_ y e2]at z2;exact I.u x hx y hy s z1 z2
 have ed:dnP K'=dnP K:=I.dnE U' (fun x t=>by
  unfold DsK;rw[ids];by_cases e:x=a
  ·rw[e,ata,op,vop];simp
  ·rw[at_ x e]) fun x t h=>by
  have e:x≠a:=fun e=>by rw[e]at h;rw[h.2.1]at op;cases op
  rw[at_ x e]
 have tkn:vD (dnP K) s0 (K.tk.toNat+1)=vD (dnP K) s0 K.tk.toNat:=funext fun b=>jY (by omega) fun u u1 u2=>by
  rw[qj fun x h=>by have:=I.r x h.1 _ h.2.2;omega];rfl
 have fr:∀x∈K.ids,(K.A x).op=true->∀s,(K.A x).st=some s->∀d,aJ K.ho d=none->aJ (K.A x).pu d=none:=fun x hx o s h d hd=>by
  cases z:aJ (K.A x).pu d with
  |none=>rfl
  |some y=>
   have:=(J.tak x hx o (by rw[h];rfl)).hld d (by
    refine Classical.byContradiction fun w=>?_;rw[cq.mpr w]at z;cases z)
   rw[hd]at this;cases this
 refine⟨U',by rw[tk];omega,fun x hx s h=>?_,fun x hx=>?_,fun w' x l' h=>?_,fun x hx=>?_,fun x hx s h=>?_,fun x hx o s h y hy q b hb'=>?_,fun x hx o s h y hy s' h' lt b=>?_,fun b x h=>?_,fun x hx o s h b z z1 z2=>?_,fun b z1 z2 z3=>?_⟩
 ·rw[ids]at hx;rw[tk];by_cases e:x=a
  ·rw[e,ata,vst]at h;cases h;omega
  ·rw[at_ x e]at h;have:=I.r x hx s h;omega
 ·rw[ids]at hx;rw[tk];by_cases e:x=a
  ·rw[e,ata,vg];have:=I.g a ha;omega
  ·rw[at_ x e];have:=I.g x hx;omega
 ·rw[ev]at h;rw[ids];exact I.evi _ _ _ h
 ·rw[ids]at hx;rw[ed,ev];by_cases e:x=a
  ·have:=I.e a ha;rw[hm]at this;rw[e,ata,vm,vpu,vlk];exact(j6 K.ev _ this).2 (I.still J ha st h1 h3)
  ·rw[at_ x e];exact I.e x hx
 ·rw[ids]at hx;by_cases e:x=a
  ·rw[e,ata,vpu];exact hp
  ·rw[at_ x e]at h ⊢;exact I.ne x hx s h
 ·rw[ids]at hx hy;by_cases e:x=a
  ·rw[e,ata,vst]at h;cases h;by_cases e2:y=a
   ·rw[e2,ata,vm]at q;omega
   ·rw[at_ y e2]at q;exfalso;have g:=I.g y hy;unfold moK at q;split at q
    ·omega
    ·rename_i z;have:=I.r y hy _ z;omega
  ·rw[at_ x e]at h o ⊢;by_cases e2:y=a
   ·rw[e2,ata,vlk]at hb';exact fr x hx o s h b (I.free st h1 b hb')
   ·rw[at_ y e2]at q hb';exact I.bar x hx o s h y hy q b hb'
 ·rw[ids]at hx hy;by_cases e:x=a
  ·rw[e,ata,vst]at h;cases h;by_cases e2:y=a
   ·rw[e2,ata,vst]at h';cases h';omega
   ·rw[at_ y e2]at h';have:=I.r y hy _ h';omega
  ·rw[at_ x e]at h o ⊢;by_cases e2:y=a
   ·rw[e2,ata,vpu];cases z:aJ (K.A a).pu b with
    |none=>exact .inr rfl
    |some v=>exact .inl (fr x hx o s h b (I.free st h2 b ((vin b).mpr (by rw[z];rfl))))
   ·rw[at_ y e2]at h' ⊢;exact I.dis x hx o s h y hy s' h' lt b
 ·rw[ho]at h;rw[ids];split at h
  ·rename_i z;cases h;rw[ata,vst,vpu];exact⟨ha,vop,rfl,(vin b).mp ((sm b).mp z)⟩
  ·obtain⟨y1,y2,y3,y4⟩:=I.hld b x h;have e:x≠a:=fun e=>by rw[e,st]at y3;cases y3
   rw[at_ x e];exact⟨y1,y2,y3,y4⟩
 ·rw[ids]at hx;by_cases e:x=a
  ·rw[e,ata,vpu]at z1;rw[e,ata,vun]at z2;exact absurd ((sm b).mpr ((vin b).mpr (by rw[z1];rfl))) z2
  ·rw[at_ x e]at h o z1 z2;rw[bx,ma];exact I.un x hx o s h b z z1 z2
 ·rw[ho]at z3;split at z3
  ·cases z3
  ·obtain⟨m0,m1,m2⟩:=I.now b z1 z2 z3;rw[ed,bx,ma,tk];refine⟨m0,by omega,fun t y1 y2=>?_⟩;by_cases e:(t:Int)<=K.tk
   ·exact m2 t y1 e
   ·rw[show t=K.tk.toNat+1 by omega,tkn];exact m2 _ (by omega) (by omega)
theorem vv{l:List Int}{i j:Int}{v:Int}(h0:0<=i)(h1:0<=j)(hi:i.toNat<l.length):(l.set i.toNat v).getD j.toNat 0=if j=i then v else l.getD j.toNat 0:=by
 rw[QH,Z9];by_cases e:j=i
 ·rw[if_pos e,if_pos (by rw[e]),if_pos hi];rfl
 ·rw[if_neg e,if_neg (by omega),<-QH]
theorem rn:∀(bs:List Int) (ho:List (Int×Int)) (d:Int),d∈bs->aJ (bZ bs ho) d=none
 |[],ho,d,h=>nomatch h
 |b::bs,ho,d,h=>by
  show aJ (bZ bs (gR ho b)) d=none;by_cases z:d∈bs
  ·exact rn bs _ d z
  ·have e:d=b:=(QM.mp h).resolve_right z;rw[iJ bs _ d z,e];exact cq.mpr fun w=>by
    obtain⟨p,hp,q⟩:=Qi.mp w;exact of_decide_eq_true (ZL.mp hp).2 q
theorem Ks.write(I:Ks K s0 n)(J:Ki K n)(ha:a∈K.ids)(op:(K.A a).op=true)(hs:(K.A a).st.isSome=true):Ks (bc K a).2 s0 n:=by
 obtain⟨s,st⟩:=Qm.mp hs;have t:=J.tak a ha op hs;have t0:=I.tk0;have rs:=I.r a ha s st;unfold bc;cases hu:(K.A a).un with
 |nil=>exact absurd hu t.un
 |cons b r=>
  dsimp only;have vin:∀x d,d∈(K.A x).pu.map (·.1)↔(aJ (K.A x).pu d).isSome=true:=fun x d=>by
   cases z:aJ (K.A x).pu d with
   |none=>simpa using cq.mp z
   |some y=>simp only[Zr,iff_true];exact Classical.byContradiction fun w=>by rw[cq.mpr w]at z;cases z
  have hb:=t.sub b (by rw[hu];exact QZ);obtain⟨v,hv⟩:=Qm.mp ((vin a b).mp hb);obtain⟨b0,b1⟩:=J.pub a ha b hb;have bl:b.toNat<K.bx.length:=by rw[J.lb];omega
  have ml:b.toNat<K.ma.length:=by rw[J.lm];omega
  rw[show(aJ (K.A a).pu b).getD 0=v by rw[hv];rfl,show(K.A a).st.getD 0=s by rw[st];rfl];have bxs:∀d:Int,0<=d->(K.bx.set b.toNat v).getD d.toNat 0=if d=b then v else K.bx.getD d.toNat 0:=fun d h=>vv b0 h bl
  have mas:∀d:Int,0<=d->(K.ma.set b.toNat s).getD d.toNat 0=if d=b then s else K.ma.getD d.toNat 0:=fun d h=>vv b0 h ml
  have oth:∀x∈K.ids,x≠a->(K.A x).op=true->∀s',(K.A x).st=some s'->∀d,(aJ (K.A x).pu d).isSome=true->(aJ (K.A a).pu d)=none:=fun x hx e o s' h d hd=>by
   have h1:=(J.tak x hx o (by rw[h];rfl)).hld d ((vin x d).mpr hd);cases z:aJ (K.A a).pu d with
   |none=>rfl
   |some y=>
    have h2:=t.hld d ((vin a d).mpr (by rw[z];rfl));rw[h1]at h2;cases h2;exact absurd rfl e
  have pos:∀x∈K.ids,∀d,(aJ (K.A x).pu d).isSome=true->0<=d:=fun x hx d hd=>(J.pub x hx d ((vin x d).mpr hd)).1;have wr:∀x∈K.ids,(K.A x).op=true->∀s',(K.A x).st=some s'->∀d z,aJ (K.A x).pu d=some z->(x≠a/\d∉(K.A x).un\/x=a/\d∉r)->(K.bx.set b.toNat v).getD d.toNat 0=z/\(K.ma.set b.toNat s).getD d.toNat 0=s':=fun x hx o s' h d z hd c=>by
   have d0:=pos x hx d (by rw[hd];rfl);rw[bxs d d0,mas d d0];rcases c with⟨c,w⟩|⟨c,w⟩
   ·have e:d≠b:=fun e=>by
     have:=oth x hx c o s' h d (by rw[hd];rfl);rw[e,hv]at this;cases this
    rw[if_neg e,if_neg e];exact I.un x hx o s' h d z hd w
   ·subst c;rw[st]at h;cases h;by_cases e:d=b
    ·rw[if_pos e,if_pos e];rw[e,hv]at hd;cases hd;exact⟨rfl,rfl⟩
    ·rw[if_neg e,if_neg e];exact I.un x hx o s st d z hd (by rw[hu];exact fun y=>(QM.mp y).elim e w)
  have hb2:(aJ K.ho b)=some a:=t.hld b hb;by_cases hr:r=[]
  ·rw[if_pos hr];generalize hw:({ K.A a with un:=r,op:=false }:Ac)=w;generalize hK:({ K.up a w with bx:=K.bx.set b.toNat v,ma:=K.ma.set b.toNat s,ho:=bZ ((K.A a).pu.map (·.1)) K.ho,ev:=K.ev++[.tup [.str "done",.int a]] }:Kc)=K';have eK:Kc.end { ({ K.up a { K.A a with un:=r } with bx:=K.bx.set b.toNat v,ma:=K.ma.set b.toNat s }:Kc)with ho:=bZ ((K.A a).pu.map (·.1)) K.ho } a "done"=K':=by
    rw[<-hK];refine rG rfl rfl rfl rfl rfl rfl fun x=>?_;rw[<-hw];by_cases h:x=a<;>simp[Kc.end,Kc.up,h]
   show Ks (Kc.end { ({ K.up a { K.A a with un:=r } with bx:=K.bx.set b.toNat v,ma:=K.ma.set b.toNat s }:Kc)with ho:=bZ ((K.A a).pu.map (·.1)) K.ho } a "done") s0 n;rw[eK];have wst:w.st=some s:=by rw[<-hw];exact st
   have wpu:w.pu=(K.A a).pu:=by rw[<-hw]
   have wlk:w.lk=(K.A a).lk:=by rw[<-hw]
   have wop:w.op=false:=by rw[<-hw]
   have wg:w.g=(K.A a).g:=by rw[<-hw]
   have at_:∀y,y≠a->K'.A y=K.A y:=fun y hy=>by rw[<-hK];exact if_neg hy
   have ata:K'.A a=w:=by rw[<-hK];exact if_pos rfl
   have ids:K'.ids=K.ids:=by rw[<-hK];rfl
   have tk:K'.tk=K.tk:=by rw[<-hK];rfl
   have ev:K'.ev=K.ev++[.tup [.str "done",.int a]]:=by rw[<-hK]
   have bx:K'.bx=K.bx.set b.toNat v:=by rw[<-hK]
   have ma:K'.ma=K.ma.set b.toNat s:=by rw[<-hK]
   have stE:∀x,(K'.A x).st=(K.A x).st/\(K'.A x).pu=(K.A x).pu/\(K'.A x).lk=(K.A x).lk/\(K'.A x).g=(K.A x).g/\((K'.A x).op=true->x≠a/\(K.A x).op=true):=fun x=>by
    by_cases e:x=a
    ·rw[e,ata,wst,st,wop];exact⟨rfl,wpu,wlk,wg,fun z=>nomatch z⟩
    ·rw[at_ x e];exact⟨rfl,rfl,rfl,rfl,fun z=>⟨e,z⟩⟩
   have mE:∀x,moK (K'.A x)=moK (K.A x):=fun x=>by unfold moK;rw[(stE x).1,(stE x).2.2.2.1]
   have ho:∀d,aJ K'.ho d=if d∈(K.A a).pu.map (·.1)then none else aJ K.ho d:=fun d=>by
    rw[show K'.ho=bZ ((K.A a).pu.map (·.1)) K.ho by rw[<-hK]];by_cases z:d∈(K.A a).pu.map (·.1)
    ·rw[if_pos z];exact rn _ _ _ z
    ·rw[if_neg z,iJ _ _ _ z]
   have U':UnK K':=fun x hx y hy q z1 z2=>by
    rw[ids]at hx hy;rw[(stE x).1]at z1;rw[(stE y).1]at z2;exact I.u x hx y hy q z1 z2
   have ds:dnP K' s.toNat=some (K.A a).pu:=by
    rw[yM U' (x:=a) ⟨by rw[ids];exact ha,by rw[ata];exact wop,by rw[ata,wst];congr 1;omega⟩,ata,wpu]
   have dso:∀u:Nat,u≠s.toNat->dnP K' u=dnP K u:=fun u hu=>wx I.u U' (fun x=>by
    unfold DsK;rw[ids,(stE x).1];by_cases e:x=a
    ·rw[e,ata,st,wop,op];simp;intro _;omega
    ·rw[at_ x e]) fun x h=>(stE x).2.1
   have dsn:dnP K s.toNat=none:=qj fun x h=>by
    have:=I.u x h.1 a ha s (by have:=h.2.2;rw[this];congr 1;omega) st;have h2:=h.2.1;rw[this,op]at h2;cases h2
   have keep:∀t d,(s.toNat<=t->aJ (K.A a).pu d=none)->vD (dnP K) s0 t d=vD (dnP K') s0 t d:=fun t d h=>qL fun u _ u2=>by
    by_cases e:u=s.toNat
    ·rw[e,ds,dsn];exact(h (by omega)).symm
    ·rw[dso u e]
   refine⟨U',by rw[tk];exact t0,fun x hx q h=>?_,fun x hx=>?_,fun w' x l' h=>?_,fun x hx=>?_,fun x hx q h=>?_,fun x hx o q h y hy m d hd=>?_,fun x hx o q h y hy q' h' lt d=>?_,fun d x h=>?_,fun x hx o q h d z z1 z2=>?_,fun d z1 z2 z3=>?_⟩
   ·rw[ids]at hx;rw[(stE x).1]at h;rw[tk];exact I.r x hx q h
   ·rw[ids]at hx;rw[(stE x).2.2.2.1,tk];exact I.g x hx
   ·rw[ids];rw[ev]at h;rcases Qw.mp h with h|h
    ·exact I.evi w' x l' h
    ·have:=QB.mp h;injection this with this;obtain⟨_,t⟩:=List.cons.inj this;injection (List.cons.inj t).1 with t;rw[t];exact ha
   ·rw[ids]at hx;rw[ev,mE,(stE x).2.1,(stE x).2.2.1,gh ((j6 K.ev _ (I.e x hx)).2 fun d hd=>keep _ d fun q=>I.bar a ha op s st x hx q d hd)];exact dN gJ
   ·rw[ids]at hx;rw[(stE x).1]at h;rw[(stE x).2.1];exact I.ne x hx q h
   ·rw[ids]at hx hy;rw[(stE x).1]at h;rw[(stE x).2.1];rw[mE]at m;rw[(stE y).2.2.1]at hd;exact I.bar x hx ((stE x).2.2.2.2 o).2 q h y hy m d hd
   ·rw[ids]at hx hy;rw[(stE x).1]at h;rw[(stE y).1]at h';rw[(stE x).2.1,(stE y).2.1];exact I.dis x hx ((stE x).2.2.2.2 o).2 q h y hy q' h' lt d
   ·rw[ho]at h;split at h
    ·cases h
    ·rename_i z;obtain⟨y1,y2,y3,y4⟩:=I.hld d x h;have e:x≠a:=fun e=>z ((vin a d).mpr (by rw[<-e];exact y4));rw[ids,at_ x e];exact⟨y1,y2,y3,y4⟩
   ·rw[ids]at hx;obtain⟨e,o'⟩:=(stE x).2.2.2.2 o;rw[at_ x e]at h z1 z2;rw[bx,ma];exact wr x hx o' q h d z z1 (.inl ⟨e,z2⟩)
   ·rw[bx,ma,tk,bxs d z1,mas d z1];rw[ho]at z3;by_cases e:d∈(K.A a).pu.map (·.1)
    ·obtain⟨z,hz⟩:=Qm.mp ((vin a d).mp e);have:=wr a ha op s st d z hz (.inr ⟨rfl,by rw[hr];exact fun y=>nomatch y⟩);rw[bxs d z1,mas d z1]at this;rw[this.1,this.2];refine⟨by omega,rs.2,fun u u1 u2=>?_⟩;have h1:vD (dnP K') s0 u d=vD (dnP K') s0 s.toNat d:=jY (by omega) fun u' v1 v2=>by
      rw[dso u' (by omega)];cases y:dnP K u' with
      |none=>rfl
      |some P=>
       obtain⟨x,hx,rfl⟩:=l8 y;rcases I.dis a ha op s st x hx.1 u' hx.2.2 (by omega) d with w|w
       ·rw[hz]at w;cases w
       ·exact w
     rw[h1];obtain⟨m,hm⟩:∃m,s.toNat=m+1:=⟨s.toNat-1,by omega⟩;rw[hm]at ds ⊢;show((dnP K' (m+1)).bind fun P=>aJ P d).getD _=z;rw[ds];show(aJ _ d).getD _=z;rw[hz];rfl
    ·rw[if_neg e]at z3;have e2:d≠b:=fun e2=>e (by rw[e2];exact hb);rw[if_neg e2,if_neg e2];obtain⟨m0,m1,m2⟩:=I.now d z1 z2 z3;refine⟨m0,m1,fun u u1 u2=>?_⟩;rw[<-keep u d fun _=>cq.mpr e];exact m2 u u1 u2
  ·rw[if_neg hr];generalize hw:({ K.A a with un:=r }:Ac)=w;generalize hK:({ K.up a w with bx:=K.bx.set b.toNat v,ma:=K.ma.set b.toNat s }:Kc)=K';show Ks K' s0 n;have at_:∀y,y≠a->K'.A y=K.A y:=fun y hy=>by rw[<-hK];exact if_neg hy
   have ata:K'.A a=w:=by rw[<-hK];exact if_pos rfl
   have ids:K'.ids=K.ids:=by rw[<-hK];rfl
   have tk:K'.tk=K.tk:=by rw[<-hK];rfl
   have ev:K'.ev=K.ev:=by rw[<-hK];rfl
   have bx:K'.bx=K.bx.set b.toNat v:=by rw[<-hK]
   have ma:K'.ma=K.ma.set b.toNat s:=by rw[<-hK]
   have ho:K'.ho=K.ho:=by rw[<-hK];rfl
   have stE:∀x,(K'.A x).st=(K.A x).st/\(K'.A x).pu=(K.A x).pu/\(K'.A x).lk=(K.A x).lk/\(K'.A x).g=(K.A x).g/\(K'.A x).op=(K.A x).op:=fun x=>by
    by_cases e:x=a
    ·rw[e,ata,<-hw];exact⟨rfl,rfl,rfl,rfl,rfl⟩
    ·rw[at_ x e];exact⟨rfl,rfl,rfl,rfl,rfl⟩
   have mE:∀x,moK (K'.A x)=moK (K.A x):=fun x=>by unfold moK;rw[(stE x).1,(stE x).2.2.2.1]
   have U':UnK K':=fun x hx y hy q z1 z2=>by
    rw[ids]at hx hy;rw[(stE x).1]at z1;rw[(stE y).1]at z2;exact I.u x hx y hy q z1 z2
   have ed:dnP K'=dnP K:=I.dnE U' (fun x t=>by unfold DsK;rw[ids,(stE x).1,(stE x).2.2.2.2]) fun x t h=>(stE x).2.1;refine⟨U',by rw[tk];exact t0,fun x hx q h=>?_,fun x hx=>?_,fun w' x l' h=>?_,fun x hx=>?_,fun x hx q h=>?_,fun x hx o q h y hy m d hd=>?_,fun x hx o q h y hy q' h' lt d=>?_,fun d x h=>?_,fun x hx o q h d z z1 z2=>?_,fun d z1 z2 z3=>?_⟩
   ·rw[ids]at hx;rw[(stE x).1]at h;rw[tk];exact I.r x hx q h
   ·rw[ids]at hx;rw[(stE x).2.2.2.1,tk];exact I.g x hx
   ·rw[ids];rw[ev]at h;exact I.evi w' x l' h
   ·rw[ids]at hx;rw[ed,ev,mE,(stE x).2.1,(stE x).2.2.1];exact I.e x hx
   ·rw[ids]at hx;rw[(stE x).1]at h;rw[(stE x).2.1];exact I.ne x hx q h
   ·rw[ids]at hx hy;rw[(stE x).1]at h;rw[(stE x).2.1];rw[mE]at m;rw[(stE y).2.2.1]at hd;rw[(stE x).2.2.2.2]at o;exact I.bar x hx o q h y hy m d hd
   ·rw[ids]at hx hy;rw[(stE x).1]at h;rw[(stE y).1]at h';rw[(stE x).2.1,(stE y).2.1];rw[(stE x).2.2.2.2]at o;exact I.dis x hx o q h y hy q' h' lt d
   ·rw[ho]at h;rw[ids,(stE x).1,(stE x).2.1,(stE x).2.2.2.2];exact I.hld d x h
   ·rw[ids]at hx;rw[(stE x).1]at h;rw[(stE x).2.1]at z1;rw[(stE x).2.2.2.2]at o;rw[bx,ma];refine wr x hx o q h d z z1 ?_;by_cases e:x=a
    ·rw[e,ata,<-hw]at z2;exact .inr ⟨e,z2⟩
    ·rw[at_ x e]at z2;exact .inl ⟨e,z2⟩
   ·rw[ho]at z3;have e2:d≠b:=fun e2=>by rw[e2,hb2]at z3;cases z3
    rw[bx,ma,tk,ed,bxs d z1,mas d z1,if_neg e2,if_neg e2];exact I.now d z1 z2 z3
end
def twE(ws:List Str):U->Option Int
 |.tup [.str w,.int x]=>if w∈ws then some x else none
 |_=>none
abbrev bgE(l:List U):List Int:=l.filterMap (twE ["begin"])
abbrev enE(l:List U):List Int:=l.filterMap (twE ["done","fall"])
abbrev dnE(l:List U):List Int:=l.filterMap (twE ["done"])
structure Kt(K:Kc):Prop where
 bg:bgE K.ev=K.ids
 tm:∀e1 e2 x y,K.ev=e1++e2->x∈enE e1->y∈bgE e2->ltP (dB (K.A y)) (dB (K.A x))=false/\∃l1 l2,K.ids=l1++l2/\x∈l1/\y∈l2
 cl:∀x∈enE K.ev,(K.A x).op=false
 nd:(dnE K.ev).Nodup
 d1:∀x∈dnE K.ev,(K.A x).st=none->(K.A x).pu=[]
 d2:∀x∈K.ids,(K.A x).op=false->(K.A x).st.isSome=true->x∈dnE K.ev
 cnt:(K.ids.filter fun x=>(K.A x).st.isSome).length=K.tk.toNat
section
variable{K K':Kc}{s0:List Int}{n:Nat}{a b x:Int}{l:List U}
theorem pD{ws:List Str}(h:x∈l.filterMap (twE ws)):∃w∈ws,U.tup [.str w,.int x]∈l:=by
 obtain⟨e,he,h⟩:=List.mem_filterMap.mp h;unfold twE at h;split at h
 ·split at h
  ·cases h;exact⟨_,‹_›,he⟩
  ·cases h
 ·cases h
theorem xD{ws:List Str}{w:Str}(hw:w∈ws)(h:U.tup [.str w,.int x]∈l):x∈l.filterMap (twE ws):=List.mem_filterMap.mpr ⟨_,h,if_pos hw⟩
theorem qk(h:x∈dnE l):x∈enE l:=by
 obtain⟨w,hw,h⟩:=pD h;exact xD (by simp at hw ⊢;exact .inl hw) h
theorem qR{e:U}{e1 e2:List U}(h:l++[e]=e1++e2):e2=[]\/∃e3,e2=e3++[e]/\l=e1++e3:=by
 rcases List.eq_nil_or_concat e2 with z|⟨e3,y,z⟩
 ·exact .inl z
 ·rw[z,List.concat_eq_append,<-Qk]at h;obtain⟨h1,h2⟩:=List.append_inj' h rfl;cases h2;exact .inr ⟨e3,by rw[z,List.concat_eq_append],h1⟩
theorem HS{p q r:Int×Int}(h1:ltP q r=false)(h2:ltP p q=false):ltP p r=false:=by
 simp only[ltP,decide_eq_false_iff_not]at *;omega
theorem Kt.step(T:Kt K)(hids:K'.ids=K.ids){es:List U}(hl:es.length<=1)(hev:K'.ev=K.ev++es)(hb:bgE es=[])(h1:∀x∈enE es,(K'.A x).op=false)(hc:∀x,(K.A x).op=false->K'.A x=K.A x)(hi:∀y,ltP (dB (K'.A y)) (dB (K.A y))=false)
  (h2:∀x∈dnE es,(K.A x).op=true/\((K'.A x).st=none->(K'.A x).pu=[])) (h3:∀x∈K.ids,(K'.A x).op=false->(K'.A x).st.isSome=true->(K.A x).op=false\/x∈dnE es) (hn:(K.ids.filter fun x=>(K'.A x).st.isSome).length=K'.tk.toNat):Kt K' where
 bg:=by
  unfold bgE at hb ⊢;rw[hev,hids,Qp,hb,Qc];exact T.bg
 tm:=fun e1 e2 x y h hx hy=>by
  rw[hev]at h;rw[hids];have key:∀e3,K.ev=e1++e3->y∈bgE e3->ltP (dB (K'.A y)) (dB (K'.A x))=false/\∃l1 l2,K.ids=l1++l2/\x∈l1/\y∈l2:=fun e3 he hy=>by
   obtain⟨z1,z2⟩:=T.tm e1 e3 x y he hx hy;have:(K.A x).op=false:=T.cl x (by rw[he];unfold enE;rw[Qp];exact ZZ _ hx);rw[hc x this];exact⟨HS z1 (hi y),z2⟩
  match es,hl,hb,h with
  |[],_,_,h=>rw[Qc]at h;exact key e2 h hy
  |[e],_,hb,h=>
   rcases qR h with z|⟨e3,z1,z2⟩
   ·rw[z]at hy;cases hy
   ·rw[z1]at hy;unfold bgE at hy;rw[Qp,show List.filterMap (twE ["begin"]) [e]=[]from hb,Qc]at hy;exact key e3 z2 hy
 cl:=fun x hx=>by
  rw[hev]at hx;unfold enE at hx;rw[Qp]at hx;rcases Qw.mp hx with hx|hx
  ·have:=T.cl x hx;rw[hc x this];exact this
  ·exact h1 x hx
 nd:=by
  rw[hev];unfold dnE;rw[Qp,ZT];refine⟨T.nd,?_,fun x hx y hy e=>?_⟩
  ·match es,hl with
   |[],_=>exact List.nodup_nil
   |[e],_=>
    rw[List.filterMap_cons];split<;>simp
  ·have z1:=T.cl x (qk hx);rw[e,(h2 y hy).1]at z1;cases z1
 d1:=fun x hx=>by
  rw[hev]at hx;unfold dnE at hx;rw[Qp]at hx;rcases Qw.mp hx with hx|hx
  ·rw[hc x (T.cl x (qk hx))];exact T.d1 x hx
  ·exact(h2 x hx).2
 d2:=fun x hx o s=>by
  rw[hids]at hx;rw[hev];unfold dnE;rw[Qp];rcases h3 x hx o s with z|z
  ·rw[hc x z]at s;exact ZZ _ (T.d2 x hx z s)
  ·exact QR _ z
 cnt:=by rw[hids];exact hn
theorem Kt.begin(T:Kt K)(I:Ks K s0 n)(ha:a∉K.ids):Kt (aI K a):=by
 have ne:∀y∈K.ids,y≠a:=fun y hy e=>ha (by rw[<-e];exact hy);have at_:∀y∈K.ids,(aI K a).A y=K.A y:=fun y hy=>if_neg (ne y hy);have ata:(aI K a).A a=a0 K.tk:=if_pos rfl;have en:∀l,(∀e∈l,e∈K.ev)->∀x∈enE l,x∈K.ids:=fun l hl x hx=>by
  obtain⟨w,_,h⟩:=pD hx;exact I.evi w x [] (hl _ h)
 have e0:enE [.tup [.str "begin",.int a]]=[]:=rfl;have d0:dnE [.tup [.str "begin",.int a]]=[]:=rfl;have en':enE (aI K a).ev=enE K.ev:=by
  show enE (K.ev++[_])=_;unfold enE at e0 ⊢;rw[Qp,e0,Qc]
 have dnP':dnE (aI K a).ev=dnE K.ev:=by
  show dnE (K.ev++[_])=_;unfold dnE at d0 ⊢;rw[Qp,d0,Qc]
 refine⟨?_,fun e1 e2 x y h hx hy=>?_,fun x hx=>?_,by rw[dnP'];exact T.nd,fun x hx=>?_,fun x hx o s=>?_,?_⟩
 ·show bgE (K.ev++[_])=K.ids++[a];unfold bgE;rw[Qp];congr 1;exact T.bg
 ·show _/\∃l1 l2,K.ids++[a]=l1++l2/\_;rcases qR h with z|⟨e3,z1,z2⟩
  ·rw[z]at hy;cases hy
  ·have hx':=en e1 (fun e he=>by rw[z2];exact ZZ _ he) x hx;rw[z1]at hy;unfold bgE at hy;rw[Qp]at hy;rcases Qw.mp hy with hy|hy
   ·obtain⟨y1,l1,l2,y2,y3,y4⟩:=T.tm e1 e3 x y z2 hx hy;have hy':y∈K.ids:=by rw[y2];exact QR _ y4
    rw[at_ x hx',at_ y hy'];exact⟨y1,l1,l2++[a],by rw[y2,Qk],y3,ZZ _ y4⟩
   ·have:y=a:=QB.mp hy;rw[this,ata,at_ x hx'];refine⟨?_,K.ids,[a],rfl,hx',QB.mpr rfl⟩;unfold dB ltP a0;have g:=I.g x hx';cases z:(K.A x).st with
    |none=>simp only[decide_eq_false_iff_not];omega
    |some s=>have:=I.r x hx' s z;simp only[decide_eq_false_iff_not];omega
 ·rw[en']at hx;rw[at_ x (en _ (fun _ h=>h) x hx)];exact T.cl x hx
 ·rw[dnP']at hx;rw[at_ x (en _ (fun _ h=>h) x (qk hx))];exact T.d1 x hx
 ·rcases Qw.mp hx with hx|hx
  ·rw[at_ x hx]at o s;rw[dnP'];exact T.d2 x hx o s
  ·rw[QB.mp hx,ata]at s;cases s
 ·show((K.ids++[a]).filter _).length=K.tk.toNat;rw[List.filter_append,Qr,<-T.cnt,show(K.ids.filter fun x=>((aI K a).A x).st.isSome)=K.ids.filter fun x=>(K.A x).st.isSome from List.filter_congr fun y hy=>by rw[at_ y hy]];rw[ZO,ata];rfl
theorem Kt.act(T:Kt K)(op:(K.A a).op=true)(st:(K.A a).st=none){v:Ac}(hv:v.st=none)(hg:(K.A a).g<=v.g){e:U}(hb:bgE [e]=[])(h1:∀x∈enE [e],x=a/\v.op=false)(h2:∀x∈dnE [e],v.pu=[]):Kt { K.up a v with ev:=K.ev++[e] }:=by
 have at_:∀y,y≠a->(K.up a v).A y=K.A y:=fun y hy=>if_neg hy;have ata:(K.up a v).A a=v:=if_pos rfl;refine T.step (K':={ K.up a v with ev:=K.ev++[e] }) rfl (es:=[e]) (Q8 _) rfl hb (fun x hx=>?_) (fun x hx=>?_) (fun y=>?_) (fun x hx=>?_) (fun x hx o s=>?_) ?_
 ·obtain⟨z1,z2⟩:=h1 x hx;show((K.up a v).A x).op=false;rw[z1,ata];exact z2
 ·exact at_ x fun z=>by rw[z,op]at hx;cases hx
 ·show ltP (dB ((K.up a v).A y)) _=false;by_cases z:y=a
  ·rw[z,ata];unfold dB ltP;rw[hv,st];simp only[decide_eq_false_iff_not];omega
  ·rw[at_ y z];simp[ltP]
 ·obtain⟨z1,z2⟩:=h1 x (qk hx);rw[z1];refine⟨op,fun _=>?_⟩;show((K.up a v).A a).pu=[];rw[ata];exact h2 x hx
 ·have o':((K.up a v).A x).op=false:=o;have s':((K.up a v).A x).st.isSome=true:=s;by_cases z:x=a
  ·rw[z,ata,hv]at s';cases s'
  ·rw[at_ x z]at o';exact .inl o'
 ·show _=K.tk.toNat;rw[<-T.cnt];congr 1;refine List.filter_congr fun y _=>?_;show((K.up a v).A y).st.isSome=_;by_cases z:y=a
  ·rw[z,ata,hv,st]
  ·rw[at_ y z]
theorem Kt.fall(T:Kt K)(op:(K.A a).op=true)(st:(K.A a).st=none){w:Str}(hw:w≠"begin")(hp:w="done"->(K.A a).pu=[]):Kt (K.end a w):=by
 refine T.act op st (v:={ K.A a with op:=false }) st (Ze _) ?_ (fun x hx=>?_) fun x hx=>?_
 ·simp[bgE,twE,hw]
 ·obtain⟨w',_,h⟩:=pD hx;simp at h;exact⟨h.2,rfl⟩
 ·obtain⟨w',h',h⟩:=pD hx;simp at h h';exact hp (by rw[<-h.1,h'])
def jg{ws:List Str}{w:Str}{a b v:Int}:[U.tup [.str w,.int a,.int b,.int v]].filterMap (twE ws)=[]:=rfl
theorem Kt.put(T:Kt K)(op:(K.A a).op=true)(st:(K.A a).st=none)(v:Int):Kt (CV K a b v):=
 T.act op st (v:={ K.A a with pu:=cQ (K.A a).pu b v }) st (Ze _) jg (fun x hx=>by rw[show enE _=[]from jg]at hx;cases hx) fun x hx=>by rw[show dnE _=[]from jg]at hx;cases hx
theorem Kt.look(T:Kt K)(I:Ks K s0 n)(ha:a∈K.ids)(op:(K.A a).op=true)(st:(K.A a).st=none):Kt (cH K a b).2:=by
 have key:∀(v:Ac) (z:Int),v.st=none->(K.A a).g<=v.g->Kt { K.up a v with ev:=K.ev++[.tup [.str "look",.int a,.int b,.int z]] }:=fun v z hv hg=>
  T.act op st hv hg jg (fun x hx=>by rw[show enE _=[]from jg]at hx;cases hx) fun x hx=>by rw[show dnE _=[]from jg]at hx;cases hx
 have g:=I.g a ha;unfold cH;split
 ·rename_i v _;have eq:K.say (.tup [.str "look",.int a,.int b,.int v])={ K.up a (K.A a)with ev:=K.ev++[.tup [.str "look",.int a,.int b,.int v]] }:=rG rfl rfl rfl rfl rfl rfl fun x=>by
   show K.A x=if x=a then K.A a else K.A x
   split
   ·rename_i z;rw[z]
   ·rfl
  dsimp only;rw[eq];exact key _ _ st (Ze _)
 ·split
  ·exact T.fall op st (by decide) (fun h=>absurd h (by decide))
  ·refine key { K.A a with g:=if (K.A a).g<K.ma.getD b.toNat 0 then K.tk else(K.A a).g,lk:=jP (K.A a).lk b } _ st ?_;dsimp only;split<;>omega
theorem rQ{p q:Int->Bool}:∀{l:List Int},l.Nodup->a∈l->p a=false->q a=true->(∀x,x≠a->q x=p x)->(l.filter q).length=(l.filter p).length+1
 |[],_,h,_,_,_=>nomatch h
 |y::r,nd,h,hp,hq,hx=>by
  obtain⟨n1,n2⟩:=ZR.mp nd;rw[ZO,ZO];by_cases e:y=a
  ·rw[e,hp,hq,if_pos rfl,if_neg Q9,QY];congr 2;exact List.filter_congr fun x hx'=>hx x fun z=>n1 (by rw[e,<-z];exact hx')
  ·rw[hx y e];have ih:=rQ n2 ((QM.mp h).resolve_left (Ne.symm e)) hp hq hx;split
   ·rw[QY,QY,ih]
   ·exact ih
theorem Kt.take(T:Kt K)(I:Ks K s0 n)(J:Ki K n)(ha:a∈K.ids)(op:(K.A a).op=true)(st:(K.A a).st=none):Kt (bh K a).2:=by
 unfold bh;split
 ·exact T.fall op st (by decide) fun _=>‹_›
 split
 ·exact T.fall op st (by decide) (fun h=>absurd h (by decide))
 have t0:=I.tk0;have g:=I.g a ha;generalize hv:({ K.A a with st:=some (K.tk+1),un:=bz ((K.A a).pu.map (·.1)) }:Ac)=v;have vst:v.st=some (K.tk+1):=by rw[<-hv]
 have vop:v.op=true:=by rw[<-hv];exact op
 generalize hK:({ K.up a v with tk:=K.tk+1,ho:=rO a (bz ((K.A a).pu.map (·.1))) K.ho }:Kc)=K';have at_:∀y,y≠a->K'.A y=K.A y:=fun y hy=>by rw[<-hK];exact if_neg hy
 have ata:K'.A a=v:=by rw[<-hK];exact if_pos rfl
 refine T.step (K':=K') (by rw[<-hK];rfl) (es:=[]) (Z6 _) (by rw[<-hK,Qc];rfl) rfl (fun x hx=>nomatch hx) (fun x hx=>?_) (fun y=>?_) (fun x hx=>nomatch hx) (fun x hx o s=>?_) ?_
 ·exact at_ x fun z=>by rw[z,op]at hx;cases hx
 ·by_cases z:y=a
  ·rw[z,ata];unfold dB ltP;rw[vst,st];simp only[decide_eq_false_iff_not];omega
  ·rw[at_ y z];simp[ltP]
 ·by_cases z:x=a
  ·rw[z,ata,vop]at o;cases o
  ·rw[at_ x z]at o;exact .inl o
 ·rw[rQ (p:=fun x=>(K.A x).st.isSome) J.ids ha (by rw[st];rfl) (by rw[ata,vst];rfl) fun x hx=>by rw[at_ x hx],T.cnt,<-hK];show _=(K.tk+1).toNat;omega
theorem Kt.write(T:Kt K)(J:Ki K n)(ha:a∈K.ids)(op:(K.A a).op=true)(hs:(K.A a).st.isSome=true):Kt (bc K a).2:=by
 obtain⟨s,st⟩:=Qm.mp hs;unfold bc;cases hu:(K.A a).un with
 |nil=>exact absurd hu (J.tak a ha op hs).un
 |cons b r=>
  dsimp only;have key:∀(K':Kc) (w:Ac) (es:List U),K'.ids=K.ids->K'.tk=K.tk->es.length<=1->K'.ev=K.ev++es->bgE es=[]->(∀x∈enE es,x=a/\w.op=false)->(w.op=false->a∈dnE es)->w.st=(K.A a).st->(∀y,K'.A y=if y=a then w else K.A y)->Kt K':=fun K' w es z1 z2 z3 z4 z5 z6 z9 z7 z8=>by
   have at_:∀y,y≠a->K'.A y=K.A y:=fun y hy=>by rw[z8,if_neg hy]
   have ata:K'.A a=w:=by rw[z8,if_pos rfl]
   have iE:∀y,dB (K'.A y)=dB (K.A y):=fun y=>by
    by_cases z:y=a
    ·rw[z,ata];unfold dB;rw[z7,st]
    ·rw[at_ y z]
   refine T.step z1 z3 z4 z5 (fun x hx=>?_) (fun x hx=>?_) (fun y=>?_) (fun x hx=>?_) (fun x hx o s'=>?_) ?_
   ·obtain⟨y1,y2⟩:=z6 x hx;rw[y1,ata];exact y2
   ·exact at_ x fun z=>by rw[z,op]at hx;cases hx
   ·rw[iE];simp[ltP]
   ·obtain⟨y1,y2⟩:=z6 x (qk hx);rw[y1,ata,z7,st];exact⟨op,fun h=>nomatch h⟩
   ·by_cases z:x=a
    ·rw[z,ata]at o;rw[z];exact .inr (z9 o)
    ·rw[at_ x z]at o;exact .inl o
   ·rw[z2,<-T.cnt];congr 1;refine List.filter_congr fun y _=>?_;by_cases z:y=a
    ·rw[z,ata,z7]
    ·rw[at_ y z]
  by_cases hr:r=[]
  ·rw[if_pos hr];refine key _ { K.A a with un:=r,op:=false } [.tup [.str "done",.int a]] rfl rfl (Q8 _) rfl rfl (fun x hx=>?_) (fun _=>QB.mpr rfl) rfl fun y=>?_
   ·exact⟨QB.mp hx,rfl⟩
   ·by_cases h:y=a<;>simp[Kc.end,Kc.up,h]
  ·rw[if_neg hr];refine key _ { K.A a with un:=r } [] rfl rfl (Z6 _) (by rw[Qc];rfl) rfl (fun x hx=>nomatch hx) (fun h=>?_) rfl fun y=>rfl;rw[show({ K.A a with un:=r }:Ac).op=(K.A a).op from rfl,op]at h;cases h
structure Kv(K:Kc)(s0:List Int)(n:Nat):Prop where
 i:Ki K n
 s:Ks K s0 n
 t:Kt K
theorem Kv.call{k:Kl}(V:Kv K s0 n)(h:sk K n k):Kv (fB K k).2 s0 n:=by
 refine⟨V.i.call h,?_,?_⟩
 ·cases k with
  |bg a=>exact V.s.begin h
  |lk a b=>exact V.s.look V.i h.1.1 h.1.2.2 h.2.1 h.2.2
  |pt a b v=>exact V.s.put h.1.1 h.1.2.2 v
  |tk a=>exact V.s.take V.i h.1 h.2.1 h.2.2
  |wr a=>exact V.s.write V.i h.1 h.2.1 h.2.2
 ·cases k with
  |bg a=>exact V.t.begin V.s h
  |lk a b=>exact V.t.look V.s h.1.1 h.1.2.1 h.1.2.2
  |pt a b v=>exact V.t.put h.1.2.1 h.1.2.2 v
  |tk a=>exact V.t.take V.s V.i h.1 h.2.1 h.2.2
  |wr a=>exact V.t.write V.i h.1 h.2.1 h.2.2
theorem Kv.new(h:s0.length=n)(hn:n<64):Kv (oW s0) s0 n:=by
 refine⟨.new h hn,⟨fun x hx=>(nomatch hx),Ze _,fun x hx=>(nomatch hx),fun x hx=>(nomatch hx),fun w x l h=>(nomatch h),fun x hx=>(nomatch hx),fun x hx=>(nomatch hx),fun x hx=>(nomatch hx),fun x hx=>(nomatch hx),fun b x h=>(nomatch h),fun x hx=>(nomatch hx),fun b h1 h2 h3=>?_⟩,⟨rfl,fun e1 e2 x y h hx hy=>?_,fun x hx=>(nomatch hx),List.nodup_nil,fun x hx=>(nomatch hx),fun x hx=>(nomatch hx),rfl⟩⟩
 ·have:(oW s0).ma.getD b.toNat 0=0:=by
   show(QU s0.length (0:Int)).getD b.toNat 0=0;rw[QH,ZG];split<;>rfl
  rw[this];refine⟨Ze _,Ze _,fun t u1 u2=>?_⟩;have e:t=0:=by
   have:(t:Int)<=0:=u2;omega
  rw[e];rfl
 ·have:e1++e2=[]:=h.symm;rw[(List.append_eq_nil_iff.mp this).1]at hx;cases hx
end
def BeK(K:Kc)(x y:Int):Prop:=ltP (dB (K.A y)) (dB (K.A x))=false/\(ltP (dB (K.A x)) (dB (K.A y))=true\/¬∃l1 l2,K.ids=l1++l2/\y∈l1/\x∈l2)
section
variable{K:Kc}{s0:List Int}{n:Nat}{x y:Int}{pre suf:List Int}
theorem rg:(bw K).Perm K.ids:=by
 unfold bw k8;have p:=d6 (K.ids.map fun a=>dB (K.A a));rw[QV]at p;refine(p.map _).trans (List.Perm.of_eq ?_);refine List.ext_getElem? fun i=>?_;rw[Qu];by_cases h:i<K.ids.length
 ·rw[List.getElem?_range h,Q4 h,ZV,QH,Q4 h];rfl
 ·rw[ZD (by simpa using h),ZD (by omega)];rfl
theorem zK(nd:K.ids.Nodup):(bw K).Pairwise (BeK K):=by
 have p:=d6 (K.ids.map fun a=>dB (K.A a));rw[QV]at p;have h:=rh (K.ids.map fun a=>dB (K.A a));unfold bw k8;rw[List.pairwise_map];refine h.imp_of_mem fun{i j} hi hj hs=>?_;have li:i<K.ids.length:=ZY.mp (p.mem_iff.mp hi);have lj:j<K.ids.length:=ZY.mp (p.mem_iff.mp hj);have gi:K.ids.getD i 0=K.ids[i]:=by rw[QH,Q4 li];rfl
 have gj:K.ids.getD j 0=K.ids[j]:=by rw[QH,Q4 lj];rfl
 have ki:(K.ids.map fun a=>dB (K.A a)).getD i (0,0)=dB (K.A K.ids[i]):=by rw[QH,Qu,Q4 li];rfl
 have kj:(K.ids.map fun a=>dB (K.A a)).getD j (0,0)=dB (K.A K.ids[j]):=by rw[QH,Qu,Q4 lj];rfl
 rw[gi,gj];unfold ltS ltK at hs;rw[ki,kj]at hs;obtain⟨h1,h2⟩:=Bool.or_eq_false_iff.mp hs;refine⟨h1,?_⟩;cases z:ltP (dB (K.A K.ids[i])) (dB (K.A K.ids[j]))with
 |true=>exact .inl rfl
 |false=>
  rw[z]at h2;refine .inr fun⟨l1,l2,e,m1,m2⟩=>?_;have h3:¬j<i:=by simpa using h2
  obtain⟨a,ha,ea⟩:=Zh.mp m1;obtain⟨b,hb,eb⟩:=Zh.mp m2;have g1:K.ids[a]?=some l1[a]:=by rw[e,Qt ha,Q4 ha]
  have g2:K.ids[l1.length+b]?=some l2[b]:=by rw[e,Qn (by omega),show l1.length+b-l1.length=b by omega,Q4 hb]
  have e1:K.ids[j]?=K.ids[a]?:=by rw[Q4 lj,g1,ea]
  have e2:K.ids[i]?=K.ids[l1.length+b]?:=by rw[Q4 li,g2,eb]
  have q1:=(List.getElem?_inj lj nd).mp e1;have q2:=(List.getElem?_inj li nd).mp e2;omega
def ovl(P:List (Int×Int))(bx:List Int):List Int:=P.foldl (fun l p=>l.set p.1.toNat p.2) bx
def bxE(K:Kc)(l:List Int)(bx:List Int):List Int:=l.foldl (fun bx x=>if x∈dnE K.ev then ovl (K.A x).pu bx else bx) bx
theorem vb:∀(P:List (Int×Int)) (bx:List Int),(ovl P bx).length=bx.length
 |[],_=>rfl
 |p::r,bx=>(vb r _).trans (Z8 ..)
theorem nj:∀(l:List Int) (bx:List Int),(bxE K l bx).length=bx.length
 |[],_=>rfl
 |x::r,bx=>by
  refine(nj r _).trans ?_;dsimp only;split
  ·exact vb _ _
  ·rfl
theorem ve{d:Int}(d0:0<=d):∀(P:List (Int×Int)) (bx:List Int),(P.map (·.1)).Nodup->(∀p∈P,0<=p.1/\p.1<bx.length)->(ovl P bx).getD d.toNat 0=(aJ P d).getD (bx.getD d.toNat 0)
 |[],_,_,_=>rfl
 |p::r,bx,nd,h=>by
  obtain⟨n1,n2⟩:=ZR.mp nd;have hp:=h p QZ;have ih:=ve d0 r (bx.set p.1.toNat p.2) n2 fun q hq=>by rw[Z8];exact h q (QQ _ hq)
  show(ovl r (bx.set p.1.toNat p.2)).getD _ _=_;rw[ih,vv hp.1 d0 (by omega)];unfold aJ;rw[Qd];by_cases e:d=p.1
  ·rw[if_pos e,decide_eq_true e.symm];have:aJ r d=none:=cq.mpr (by rw[e];exact n1);unfold aJ at this;rw[this];rfl
  ·rw[if_neg e,decide_eq_false (Ne.symm e)]
theorem Kv.key(V:Kv K s0 n)(hs:s0.length=n){o:List Int}(ho:o.Perm K.ids)(hb:o.Pairwise (BeK K)):∀(pre suf:List Int),o=pre++suf->∀t:Nat,(∀x s,DsK K x s->(s<=t↔x∈pre))->∀d:Int,0<=d->d<n->(bxE K pre s0).getD d.toNat 0=vD (dnP K) s0 t d:=by
 intro pre;rw[<-List.reverse_reverse pre];generalize pre.reverse=rv;induction rv with
 |nil=>
  intro suf _ t hc d d0 d1;refine(jY (Z6 t) fun u u1 u2=>?_).symm;cases z:dnP K u with
  |none=>rfl
  |some P=>
   obtain⟨x,hx,_⟩:=l8 z;exact absurd ((hc x u hx).mp (by omega)) (by simp)
 |cons x rv ih=>
  rw[List.reverse_cons];generalize rv.reverse=pre at *;intro suf eo t hc d d0 d1;have e':o=pre++(x::suf):=by rw[eo,Qk];rfl
  have nd:o.Nodup:=ho.nodup_iff.mpr V.i.ids;have hx:x∈K.ids:=ho.mem_iff.mp (by rw[e'];simp);have step:bxE K (pre++[x]) s0=if x∈dnE K.ev then ovl (K.A x).pu (bxE K pre s0)else bxE K pre s0:=by
   unfold bxE;rw[List.foldl_append];rfl
  rw[e',List.pairwise_append]at hb;rw[e',ZT]at nd;obtain⟨_,hb2,hb3⟩:=hb;have aft:∀z∈suf,BeK K x z:=(List.pairwise_cons.mp hb2).1;have bef:∀z∈pre,BeK K z x/\z≠x:=fun z hz=>⟨hb3 z hz x QZ,nd.2.2 z hz x QZ⟩;by_cases hd:∃s,DsK K x s
  ·obtain⟨s,hd⟩:=hd;have r:=V.s.r x hx s hd.2.2;have hm:x∈dnE K.ev:=V.t.d2 x hx hd.2.1 (by rw[hd.2.2];rfl);have ins:dB (K.A x)=(s,0):=by unfold dB;rw[hd.2.2]
   have cov:∀z s',DsK K z s'->(s'<=((s.toNat-1:Nat):Int)↔z∈pre):=fun z s' hz=>by
    have iz:dB (K.A z)=(s',0):=by unfold dB;rw[hz.2.2]
    constructor
    ·intro h;have:z∈pre++(x::suf):=by rw[<-e'];exact ho.mem_iff.mpr hz.1
     rcases Qw.mp this with w|w
     ·exact w
     ·rcases QM.mp w with w|w
      ·have q:=hz.2.2;rw[w,hd.2.2]at q;cases q;omega
      ·have:=(aft z w).1;rw[ins,iz]at this;simp only[ltP,decide_eq_false_iff_not]at this;omega
    ·intro h;obtain⟨b1,b2⟩:=bef z h;have:=b1.1;rw[ins,iz]at this;simp only[ltP,decide_eq_false_iff_not]at this;have ne:s≠s':=fun e=>b2 (V.s.u z hz.1 x hx s' hz.2.2 (by rw[<-e];exact hd.2.2));omega
   have hst:(s:Int)<=t:=(hc x s hd).mpr (by simp);have es:dnP K s.toNat=some (K.A x).pu:=yM V.s.u (x:=x) ⟨hd.1,hd.2.1,by rw[hd.2.2];congr 1;omega⟩;have e2:vD (dnP K) s0 t d=vD (dnP K) s0 s.toNat d:=jY (by omega) fun u u1 u2=>by
    cases z:dnP K u with
    |none=>rfl
    |some P=>
     obtain⟨y,hy,_⟩:=l8 z;exfalso;rcases Qw.mp ((hc y u hy).mp (by omega))with w|w
     ·have:=(cov y u hy).mpr w;omega
     ·have q:=hy.2.2;rw[QB.mp w,hd.2.2]at q;cases q;omega
   rw[step,if_pos hm,ve d0 _ _ (V.i.pun x hx) (fun p hp=>by rw[nj,hs];exact V.i.pub x hx p.1 (Qi.mpr ⟨p,hp,rfl⟩)),e2,ih (x::suf) e' (s.toNat-1) cov d d0 d1];obtain⟨m,hm⟩:∃m,s.toNat=m+1:=⟨s.toNat-1,by omega⟩;rw[hm]at es ⊢;show _=((dnP K (m+1)).bind fun P=>aJ P d).getD _;rw[es];rfl
  ·have e3:bxE K (pre++[x]) s0=bxE K pre s0:=by
    rw[step];split
    ·rename_i hm;have cl:=V.t.cl x (qk hm);cases z:(K.A x).st with
     |none=>rw[V.t.d1 x hm z];rfl
     |some s=>exact absurd ⟨s,hx,cl,z⟩ hd
    ·rfl
   rw[e3];refine ih (x::suf) e' t (fun z s hz=>?_) d d0 d1;rw[hc z s hz,Qw,QB];exact⟨fun h=>h.resolve_right fun w=>hd ⟨s,by rw[<-w];exact hz⟩,.inl⟩
theorem Kv.sees(V:Kv K s0 n)(hs:s0.length=n){o:List Int}(ho:o.Perm K.ids)(hb:o.Pairwise (BeK K))(e:o=pre++y::suf):rpE y (fun d=>(bxE K pre s0).getD d.toNat 0) K.ev ([],[])=some ((K.A y).pu,(K.A y).lk):=by
 have hy:y∈K.ids:=ho.mem_iff.mp (by rw[e];simp);have nd:o.Nodup:=ho.nodup_iff.mpr V.i.ids;have key:=V.key hs ho hb pre (y::suf) e (moK (K.A y)) fun z s' hz=>by
  rw[e,List.pairwise_append]at hb;rw[e,ZT]at nd;obtain⟨_,hb2,hb3⟩:=hb;have aft:∀z∈suf,BeK K y z:=(List.pairwise_cons.mp hb2).1;have bef:∀z∈pre,BeK K z y/\z≠y:=fun z hz=>⟨hb3 z hz y QZ,nd.2.2 z hz y QZ⟩;have iz:dB (K.A z)=(s',0):=by unfold dB;rw[hz.2.2]
  have rz:=V.s.r z hz.1 s' hz.2.2;constructor
  ·intro h;have:z∈pre++(y::suf):=by rw[<-e];exact ho.mem_iff.mpr hz.1
   rcases Qw.mp this with w|w
   ·exact w
   ·exfalso;rcases QM.mp w with w|w
    ·rw[<-w]at h;unfold moK at h;rw[hz.2.2]at h;dsimp only at h;omega
    ·have b:=(aft z w).1;rw[iz]at b;unfold moK at h;unfold dB at b;cases q:(K.A y).st with
     |none=>
      rw[q]at h b;have g:=V.s.g y hy;simp only[ltP,decide_eq_false_iff_not]at b h;omega
     |some sy=>
      rw[q]at h b;have:=V.s.r y hy sy q;simp only[ltP,decide_eq_false_iff_not]at b h;omega
  ·intro h;obtain⟨b1,b2⟩:=bef z h;have b:=b1.1;rw[iz]at b;unfold moK;unfold dB at b;cases q:(K.A y).st with
   |none=>
    rw[q]at b;have g:=V.s.g y hy;simp only[ltP,decide_eq_false_iff_not]at b ⊢;omega
   |some sy=>
    rw[q]at b;have:=V.s.r y hy sy q;have ne:sy≠s':=fun e=>b2 (V.s.u z hz.1 y hy s' hz.2.2 (by rw[<-e];exact q));simp only[ltP,decide_eq_false_iff_not]at b ⊢;omega
 refine(j6 K.ev _ (V.s.e y hy)).2 fun d hd=>?_;obtain⟨d0,d1⟩:=V.i.lkb y hy d hd;exact(key d d0 d1).symm
theorem Kv.time(V:Kv K s0 n)(h:BeK K x y){e1 e2:List U}(e:K.ev=e1++e2)(hy:y∈enE e1)(hx:x∈bgE e2):False:=by
 obtain⟨t1,t2⟩:=V.t.tm e1 e2 y x e hy hx;rcases h.2 with z|z
 ·rw[t1]at z;cases z
 ·exact z t2
theorem Kv.last(V:Kv K s0 n)(hs:s0.length=n){o:List Int}(ho:o.Perm K.ids)(hb:o.Pairwise (BeK K))(hd:∀x∈K.ids,(K.A x).st.isSome=true->(K.A x).op=false):bxE K o s0=K.bx:=by
 have t0:=V.s.tk0;have key:=V.key hs ho hb o [] (Qc o).symm K.tk.toNat fun z s hz=>⟨fun _=>ho.mem_iff.mpr hz.1,fun _=>by have:=V.s.r z hz.1 s hz.2.2;omega⟩;have l1:(bxE K o s0).length=n:=by rw[nj,hs]
 have l2:=V.i.lb;refine List.ext_getElem (by rw[l1,l2]) fun i h1 h2=>?_;have fr:aJ K.ho (i:Int)=none:=by
  cases z:aJ K.ho (i:Int)with
  |none=>rfl
  |some x=>
   obtain⟨y1,y2,y3,_⟩:=V.s.hld _ x z;rw[hd x y1 y3]at y2;cases y2
 have k:=key (i:Int) (by omega) (by omega);obtain⟨m0,m1,m2⟩:=V.s.now (i:Int) (by omega) (by omega) fr;rw[m2 _ (by omega) (by omega)]at k;rw[Zx,QH,QH,Q4 h1,Q4 h2]at k;exact k
theorem Kv.all(V:Kv K s0 n)(h:((dnE K.ev).filter fun x=>decide ((K.A x).pu≠[])).length=K.tk.toNat):∀x∈K.ids,(K.A x).st.isSome=true->(K.A x).op=false:=by
 intro x hx hs;refine Classical.byContradiction fun ho=>?_;have nd:((dnE K.ev).filter fun x=>decide ((K.A x).pu≠[])).Nodup:=V.t.nd.filter _;have hd:∀y∈(dnE K.ev).filter fun x=>decide ((K.A x).pu≠[]),y≠x/\y∈K.ids.filter fun x=>(K.A x).st.isSome:=fun y hy=>by
  obtain⟨h1,h2⟩:=ZL.mp hy;have cl:=V.t.cl y (qk h1);refine⟨fun z=>ho (by rw[<-z];exact cl),ZL.mpr ⟨?_,?_⟩⟩
  ·obtain⟨w,_,h⟩:=pD h1;exact V.s.evi w y [] h
  ·cases z:(K.A y).st with
   |some s=>rfl
   |none=>exact absurd (V.t.d1 y h1 z) (by simpa using h2)
 have:=List.Nodup.length_le_of_subset (ZR.mpr ⟨fun z=>(hd x z).1 rfl,nd⟩) (l₂:=K.ids.filter fun x=>(K.A x).st.isSome) fun y hy=>by
  rcases QM.mp hy with z|z
  ·rw[z];exact ZL.mpr ⟨hx,hs⟩
  ·exact(hd y z).2
 rw[QY,h,V.t.cnt]at this;omega
end
end OQ
namespace OL
open PySem PySem.Spec PyProof.Rows L2 OG OP OQ
section
variable{c:Pl->O}
theorem A8{s:Pl}{o:O}(h:c s=o):aE c s o=c:=by
 funext s';by_cases e:s'=s
 ·subst e;rw[aV,h]
 ·rw[aw e]
theorem iK{s:Pl}{o o':O}:aE (aE c s o) s o'=aE c s o':=by
 funext s';by_cases e:s'=s
 ·subst e;rw[aV,aV]
 ·rw[aw e,aw e,aw e]
end
section
variable{pos:Pl->Option Nat}{c:Pl->O}{T S:Sto}{lw:Nat}
def Ws(pos:Pl->Option Nat)(c:Pl->O)(S:Sto):Prop:=∃z,Mm pos (aE c (.x 9 0) (.lst [.int z])) S
def Ws.app(W:Ws pos c S)(X:Sto):Ws pos c (S++X):=let ⟨z,M⟩:=W;⟨z,M.app X⟩
theorem Ws.sip{mm:Int}(W:Ws pos c S)(hw:pos (.x 9 0)=some lw)(h0:0<mm)(h1:mm<2^60):∃d S',i9 [.ref lw,.int mm] S=some (.int d,S')/\Ws pos c S'/\0<=d/\d<mm/\(∀l,l≠lw->S'[l]?=S[l]?)/\S'.length=S.length:=by
 obtain⟨z,M⟩:=W;obtain⟨d,z',e,M',d0,d1⟩:=CQ M hw aV h0 h1;rw[iK]at M';exact⟨d,_,e,⟨z',M'⟩,d0,d1,fun l h=>Qg h.symm,Z8 ..⟩
def Ws.lt(W:Ws pos c S)(hw:pos (.x 9 0)=some lw):lw<S.length:=let ⟨z,M⟩:=W;M.lt hw
theorem rY{w:Int}{l:Nat}(hw:pos (.x 9 0)=some lw)(w0:0<w)(w1:w<2^60)(hl:∀s,pos s≠some l):∀(xs:List Nat) (ys:List Int) (r0:Option U) (S:Sto),Ws pos c S->S[l]?=some (.lst (ys.map U.int))->ys.length+xs.length<=900->
  ∃(vs:List Int) (S':Sto),gu (fun _=>True) (gNm 0) (cCB i9 (ag (ah 1) (ag (ah 2) aG))) l (xs.map fun i:Nat=>U.int (i:Int)) [r0,some (.ref lw),some (.int w)] S=some S'/\Ws pos c S'/\S'[l]?=some (.lst (vs.map U.int))/\vs.length=ys.length+xs.length
 |[],ys,r0,S,W,h,_=>⟨ys,S,m9 trivial,W,h,rfl⟩
 |x::xs,ys,r0,S,W,h,hn=>by
  rw[QY]at hn;obtain⟨d,S1,e,W1,_,_,k1,l1⟩:=W.sip hw w0 w1;have nl:l≠lw:=fun z=>hl _ (by rw[z];exact hw);have lt:l<S1.length:=by rw[l1];exact(Q6.mp h).1
  have W2:Ws pos c (S1.set l (.lst ((ys++[d]).map U.int))):=let ⟨z,M⟩:=W1;⟨z,M.setF hl⟩
  obtain⟨vs,S',e',W',g',lv⟩:=rY hw w0 w1 hl xs (ys++[d]) (some (.int x)) _ W2 (by rw[Z9,if_pos rfl,if_pos lt]) (by simp;omega);refine⟨vs,S',(kK (ρ0:=[some (.int x),some (.ref lw),some (.int w)]) (S0:=S) (S1:=S1) (x:=.int d) (ys:=ys.map U.int) trivial rfl (by rwa[e]) (by rw[k1 l nl];exact h) (by unfold LIM;rw[QV];omega)).trans ?_,W',g',by rw[lv];simp;omega⟩;rw[show ys.map U.int++[U.int d]=(ys++[d]).map U.int by simp];exact e'
def ja:Fn:=fnU 3 1 (gw i9)
theorem vw(W:Ws pos c T)(hw:pos (.x 9 0)=some lw)(hlt:∀s p,pos s=some p->p<T.length):Wp (ja [.ref lw] T) fun r=>∃(ni w:Int) (st:List Int),r.1=.tup [.tup [.int ni,.int w],.tup (st.map U.int)]/\1<=ni/\ni<=6/\1<=w/\w<=1000/\st.length=ni.toNat/\Ws pos c r.2/\T.length<=r.2.length:=by
 have lwT:=W.lt hw;obtain⟨d1,S1,e1,W1,d10,d11,k1,l1⟩:=(W.app [.lst [.int 2,.int 3,.int 6]]).sip (mm:=3) hw (by decide) (by decide);have g1:S1[T.length]?=some (.lst [.int 2,.int 3,.int 6]):=by rw[k1 _ (Nat.ne_of_gt lwT),ga0];rfl
 have a1:∃v:Int,atI [U.int 2,.int 3,.int 6] d1=some (.int v)/\1<=v/\v<=6:=by
  have:d1=0\/d1=1\/d1=2:=by omega
  rcases this with rfl|rfl|rfl
  ·exact⟨2,rfl,by decide,by decide⟩
  ·exact⟨3,rfl,by decide,by decide⟩
  ·exact⟨6,rfl,by decide,by decide⟩
 obtain⟨v1,a1,v10,v11⟩:=a1;obtain⟨d2,S2,e2,W2,d20,d21,k2,l2⟩:=W1.sip (mm:=v1) hw (by omega) (by omega);unfold ja;rw[IC];unfold gw;rw[dz (ρ':=[some (.ref lw),some (.int (1+d2)),none]) (S':=S2) (by rwa[e1,g1,a1,e2])];obtain⟨d3,S3,e3,W3,d30,d31,k3,l3⟩:=(W2.app [.lst [.int 2,.int 3,.int 7,.int 1000]]).sip (mm:=4) hw (by decide) (by decide);have g3:S3[S2.length]?=some (.lst [.int 2,.int 3,.int 7,.int 1000]):=by rw[k3 _ (Nat.ne_of_gt (W2.lt hw)),ga0];rfl
 have a3:∃v:Int,atI [U.int 2,.int 3,.int 7,.int 1000] d3=some (.int v)/\1<=v/\v<=1000:=by
  have:d3=0\/d3=1\/d3=2\/d3=3:=by omega
  rcases this with rfl|rfl|rfl|rfl
  ·exact⟨2,rfl,by decide,by decide⟩
  ·exact⟨3,rfl,by decide,by decide⟩
  ·exact⟨7,rfl,by decide,by decide⟩
  ·exact⟨1000,rfl,by decide,by decide⟩
 obtain⟨w,a3,w0,w1⟩:=a3;rw[dz (ρ':=[some (.ref lw),some (.int (1+d2)),some (.int w)]) (S':=S3) (by rwa[e3,g3,a3])];obtain⟨ni,eni⟩:∃ni,ni=1+d2:=⟨_,rfl⟩;rw[<-eni];have T3:T.length<=S3.length:=by rw[l3,Qr,l2,l1,Qr];omega
 have hl3:∀s,pos s≠some S3.length:=fun s z=>by have:=hlt s _ z;omega
 have hi:bU (ag (ah 1) aG) [some (.ref lw),some (.int ni),some (.int w)] S3=some ((Qz ni.toNat).map fun i:Nat=>U.int (i:Int),fun _=>True,S3):=by
  rw[kB (n:=ni) (S1:=S3) rfl (by omega) (by omega),lR]
 obtain⟨vs,S4,e4,W4,g4,lv⟩:=rY (w:=w) (l:=S3.length) hw (by omega) (by omega) hl3 (Qz ni.toNat) [] none (S3++[.lst []]) (W3.app _) (by rw[ga0];rfl) (by simp;omega);have ec:i7 (bU (ag (ah 1) aG)) (gNm 0) (cCB i9 (ag (ah 1) (ag (ah 2) aG))) 1 [0,2] [some (.ref lw),some (.int ni),some (.int w)] S3=some (.ref S3.length,S4):=by
  unfold i7;rw[hi,QX];show Option.bind (gu (fun _=>True) (gNm 0) (cCB i9 (ag (ah 1) (ag (ah 2) aG))) S3.length _ [none,some (.ref lw),some (.int w)] _) _=_;rw[e4];rfl
 refine⟨(.tup [.tup [.int ni,.int w],.tup (vs.map U.int)],S4),?_,ni,w,vs,rfl,by omega,by omega,w0,w1,by rw[lv];simp,W4,?_⟩
 ·rwa[ec,g4]
 ·have:=(Q6.mp g4).1;dsimp only;omega
end
def rng(m:Nat):List Int:=(Qz m).map fun i:Nat=>(i:Int)
def sNk(K:Kc)(k:Kl):Str:=if jk (fB K k).1=true then "off" else if mP (fB K k).1=true then "taken" else wOf (K.A k.of)
def oR(cK cA:Cl):Fn:=fnU 7 5 (iC i9 (jb cK cA) (oS cK cA) (mi cK cA) (kX cK cA) cK)
section
variable{cK cA:Cl}{n m:Nat}{pos:Pl->Option Nat}{c:Pl->O}{T S:Sto}{K:Kc}{p:Nat->Nat}{q:Int->Nat->Nat}{k:Kl}{lw:Nat}{a z ni w:Int}
theorem HC(h:sk K n k)(hk:∀a,k≠.bg a):cQ (phU K) (.inl k.of) (.str (sNk K k))=phU (fB K k).2:=by
 obtain⟨_,e,ho⟩:=uW h hk;rw[e];unfold phN sNk;split
 ·rfl
 ·split
  ·rfl
  ·unfold phU;rw[uT (f:=fun x=>.str (wOf (K.A x))) ho];refine Ql fun x _=>?_;by_cases z:x=k.of
   ·rw[z,if_pos rfl]
   ·rw[if_neg z]
structure StO(cK cA:Cl)(K:Kc)(n:Nat)(a:Int)(lw:Nat)(pos:Pl->Option Nat)(c:Pl->O)(p:Nat->Nat)(k:Kl)(r:U×Sto):Prop where
 ok:sk K n k
 nb:∀b,k≠.bg b
 of:k.of=a
 rt:r.1=.str (sNk K k)
 nx:∃pos' c' q' z',Mm pos' c' r.2/\Kr cK cA 0 pos' c' (fB K k).2 p q'/\(∀f i,f<8->pos' (.x f i)=pos (.x f i)/\c' (.x f i)=c (.x f i))/\pos' (.x 9 0)=some lw/\c' (.x 9 0)=.lst [.int z']
theorem StO.of'(h1:sk K n k)(h2:∀b,k≠.bg b)(h3:k.of=a){u:U}{S':Sto}(h4:u=.str (sNk K k)){posb:Pl->Option Nat}{cb:Pl->O}{z':Int}(N:Nx cK cA 0 posb cb p (fB K k).2 S')(hf:∀f i,f<8->posb (.x f i)=pos (.x f i)/\cb (.x f i)=c (.x f i))(hw:posb (.x 9 0)=some lw)(cw:cb (.x 9 0)=.lst [.int z']):StO cK cA K n a lw pos c p k (u,S'):=by
 obtain⟨pos',c',q',M,R,F⟩:=N;refine⟨h1,h2,h3,h4,pos',c',q',z',M,R,fun f i hfi=>?_,(F (.x 9 0) fun z=>z).1.trans hw,(F (.x 9 0) fun z=>z).2.trans cw⟩;obtain⟨f1,f2⟩:=F (.x f i) fun z=>z;obtain⟨g1,g2⟩:=hf f i hfi;exact⟨f1.trans g1,f2.trans g2⟩
theorem rq{b:Int}:(∃v,(cH K a b).1=.tup [.str "number",.int v])\/(cH K a b).1=.tup [.str "falls"]:=by
 unfold cH;split
 ·exact .inl ⟨_,rfl⟩
 ·split
  ·exact .inr rfl
  ·exact .inl ⟨_,rfl⟩
theorem Fy{u:U}(h:(∃v,u=.tup [.str "number",.int v])\/u=.tup [.str "falls"]):iq false u (.tup [.str "falls"]) S=some (.bl (jk u),S):=by
 have e1:∀{d:PyData} {b:Bool},Dt S u d->lM d->b=d.eqv (.tuple [.str "falls"])->iq false u (.tup [.str "falls"]) S=some (.bl b,S):=fun{d b} h1 h2 h3=>by
  have:=ik (x:=u) (y:=.tup [.str "falls"]) (S:=S) (b:=b) false (.inl ⟨d,.tuple [.str "falls"],h1,.tup (.cons (.str _) .nil),h2,vG (ly (by decide)),h3⟩);simpa using this
 rcases h with⟨v,rfl⟩|rfl
 ·exact e1 (.tup (.cons (.str _) (.cons (.int _) .nil))) (mK lyn) (by simp[PyData.eqv,PyData.eqvAll,jk])
 ·exact e1 (.tup (.cons (.str _) .nil)) (vG (ly (by decide))) (by simp[PyData.eqv,PyData.eqvAll,jk])
theorem Bg(M:Mm pos c T)(R:Kr cK cA 0 pos c K p q)(I:Ki K n)(B:Kb K m)(hm:m<=1000)(hw:pos (.x 9 0)=some lw)(cw:c (.x 9 0)=.lst [.int z])(ha:a∈K.ids)(ho:wOf (K.A a)≠"off")(n0:1<=ni)(hni:ni.toNat=n)(n1:ni<=60)(w0:1<=w)(w1:w<2^60) :
  Wp (oR cK cA [.ref lw,.tup [.int ni,.int w],.ref (p 0),.int a,.str (wOf (K.A a))] T) fun r=>∃k,StO cK cA K n a lw pos c p k r:=by
 have b1:=B.ev;have b2:=B.tk;have b3:=B.ids;have b4:=I.hol;unfold oR;rw[Iq];unfold iC;by_cases ht:wOf (K.A a)="taken"
 ·have zt:decide (wOf (K.A a)="taken")=true:=decide_eq_true ht;obtain⟨op,st⟩:=DR ht;have t:=I.tak a ha op st;obtain⟨tt,hst⟩:=Qm.mp st;cases hu:(K.A a).un with
  |nil=>exact absurd hu t.un
  |cons b r=>
   have hb:b∈(K.A a).pu.map (·.1):=t.sub b (by rw[hu];exact QZ);obtain⟨b0,b1'⟩:=I.pub a ha b hb;have fw:=t.few;rw[hu,QY]at fw;have M1:=M.new (.x 8 0) (.lst [.str "taken",.str "off"]) [];have R1:Kr cK cA 0 (fe pos (.x 8 0) T.length) (aE c (.x 8 0) (.lst [.str "taken",.str "off"])) K p q:=R.fx Fx.new;have t0:=M1.get (R1.pk 0 (by decide)) R1.c0;obtain⟨⟨u,T1⟩,e,eu,N⟩:=qE M1 R1 I.w ha op hst hu b0 b1' (qH hb) (by omega) (fun _ d hd=>by rw[t.hld d hd];rfl) (by omega);dsimp only at eu;subst eu;obtain⟨pos',c',q',M',R',F⟩:=N;have g:=M'.get ((F (.x 8 0) fun z=>z).1.trans d5) ((F (.x 8 0) fun z=>z).2.trans aV);have hs:sNk K (.wr a)=if (bc K a).1="done" then("off":Str)else "taken":=by
    unfold sNk;show(if jk (.str (bc K a).1)=true then _ else if mP (.str (bc K a).1)=true then _ else wOf (K.A a))=_;rw[ht];unfold bc;rw[hu];dsimp only;split
    ·rfl
    ·rfl
   refine⟨(.str (sNk K (.wr a)),T1),?_,.wr a,StO.of' (k:=.wr a) (posb:=fe pos (.x 8 0) T.length) (cb:=aE c (.x 8 0) (.lst [.str "taken",.str "off"])) ⟨ha,op,st⟩ (fun _ h=>Kl.noConfusion h) rfl rfl ⟨pos',c',q',M',R',F⟩ (fun f i hf=>⟨bT (fun h=>by cases h;omega),aw (fun h=>by cases h;omega)⟩) ((bT (by simp)).trans hw) ((aw (by simp)).trans cw)⟩;by_cases hd:(bc K a).1="done"
   ·have zd:decide ((bc K a).1="done")=true:=decide_eq_true hd;rw[hs,if_pos hd];rwa[zt,t0,e,zd,g,wj,if_true]
   ·have zd:decide ((bc K a).1="done")=false:=decide_eq_false hd;rw[hs,if_neg hd];rwa[zt,t0,e,zd,g,wj,Qs,if_false]
 ·have zt:decide (wOf (K.A a)="taken")=false:=decide_eq_false ht;have on:=DS ho ht;have won:wOf (K.A a)="on":=by
   unfold wOf;rw[on.1,if_pos rfl,if_pos on.2]
  have i0:atI [U.int ni,.int w] 0=some (.int ni):=rfl;have i1:atI [U.int ni,.int w] 1=some (.int w):=rfl;obtain⟨d1,z1,e1,M1,d10,d11⟩:=CQ (m:=ni) M hw cw (by omega) (by omega);generalize hT1:T.set lw (.lst [.int z1])=T1 at e1 M1;obtain⟨d2,z2,e2,M2,d20,d21⟩:=CQ (m:=14) M1 hw aV (by decide) (by decide);rw[iK]at M2;generalize hT2:T1.set lw (.lst [.int z2])=T2 at e2 M2;have R2:Kr cK cA 0 pos (aE c (.x 9 0) (.lst [.int z2])) K p q:=R.fx Fx.upd;rw[dz (ρ':=[some (.ref lw),some (.tup [.int ni,.int w]),some (.ref (p 0)),some (.int a),some (.str (wOf (K.A a))),none,none]) (S':=T) (by rwa[zt])];rw[dz (ρ':=[some (.ref lw),some (.tup [.int ni,.int w]),some (.ref (p 0)),some (.int a),some (.str (wOf (K.A a))),some (.int d1),none]) (S':=T1) (by rwa[i0,e1])];rw[dz (ρ':=[some (.ref lw),some (.tup [.int ni,.int w]),some (.ref (p 0)),some (.int a),some (.str (wOf (K.A a))),some (.int d1),some (.int d2)]) (S':=T2) (by rwa[e2])];have fr:∀(l:List U) (f i:Nat),f<8->(fe pos (.x 8 0) T2.length) (.x f i)=pos (.x f i)/\aE (aE c (.x 9 0) (.lst [.int z2])) (.x 8 0) (.lst l) (.x f i)=c (.x f i):=fun l f i hf=>⟨bT (fun h=>by cases h;omega),(aw (fun h=>by cases h;omega)).trans (aw (fun h=>by cases h;omega))⟩;have fw:∀l:List U,(fe pos (.x 8 0) T2.length) (.x 9 0)=some lw/\aE (aE c (.x 9 0) (.lst [.int z2])) (.x 8 0) (.lst l) (.x 9 0)=.lst [.int z2]:=fun l=>⟨(bT (by simp)).trans hw,(aw (by simp)).trans aV⟩;by_cases h1:d2<7
  ·have y1:decide (d2<7)=true:=decide_eq_true h1;have M3:=M2.new (.x 8 0) (.lst [.str "on",.str "off"]) [];have R3:Kr cK cA 0 (fe pos (.x 8 0) T2.length) (aE (aE c (.x 9 0) (.lst [.int z2])) (.x 8 0) (.lst [.str "on",.str "off"])) K p q:=R2.fx Fx.new;have t0:=M3.get (R3.pk 0 (by decide)) R3.c0;have hk:sk K n (.lk a d1):=⟨⟨ha,on⟩,d10,by omega⟩;obtain⟨⟨u,T3⟩,e3,eu,N⟩:=vB M3 R3 I.w ha on.1 on.2 d10 (by omega) (by omega);dsimp only at eu;obtain⟨pos',c',q',M',R',F⟩:=N;have g:=M'.get ((F (.x 8 0) fun z=>z).1.trans d5) ((F (.x 8 0) fun z=>z).2.trans aV);have eq:=Fy (S:=T3) (rq (K:=K) (a:=a) (b:=d1));have hs:sNk K (.lk a d1)=if jk (cH K a d1).1=true then("off":Str)else "on":=by
    have nt:mP (cH K a d1).1=false:=by rcases rq (K:=K) (a:=a) (b:=d1)with⟨v,h⟩|h<;>rw[h]<;>rfl
    unfold sNk;show(if jk (cH K a d1).1=true then _ else if mP (cH K a d1).1=true then _ else wOf (K.A a))=_;rw[won,nt];rfl
   subst eu;refine⟨(.str (sNk K (.lk a d1)),T3),?_,.lk a d1,StO.of' (k:=.lk a d1) hk (fun _ h=>Kl.noConfusion h) rfl rfl ⟨pos',c',q',M',R',F⟩ (fr _) (fw [.str "on",.str "off"]).1 (fw _).2⟩;cases hb:jk (cH K a d1).1 with
   |true=>
    rw[hb]at eq hs;rw[hs,if_pos rfl];rwa[y1,t0,e3,eq,g,wj,if_true]
   |false=>
    rw[hb]at eq hs;rw[hs,if_neg Q9];rwa[y1,t0,e3,eq,g,wj,Qs,if_false]
  ·have y1:decide (d2<7)=false:=decide_eq_false h1;rw[dz (ρ':=[some (.ref lw),some (.tup [.int ni,.int w]),some (.ref (p 0)),some (.int a),some (.str (wOf (K.A a))),some (.int d1),some (.int d2)]) (S':=T2) (by rwa[y1])];by_cases h2:d2<11
   ·have y2:decide (d2<11)=true:=decide_eq_true h2;obtain⟨d3,z3,e3,M3,d30,d31⟩:=CQ (m:=w) M2 hw aV (by omega) w1;rw[iK]at M3;generalize hT3:T2.set lw (.lst [.int z3])=T3 at e3 M3;have R3:Kr cK cA 0 pos (aE c (.x 9 0) (.lst [.int z3])) K p q:=R.fx Fx.upd;have t0:=M2.get (R2.pk 0 (by decide)) R2.c0;obtain⟨⟨u,T4⟩,e4,eu,N⟩:=vI (b:=d1) (v:=d3) M3 R3 I.w ha on.1 on.2 (by omega);dsimp only at eu;subst eu;have s3:=M3.get (R3.pk 0 (by decide)) R3.c0;refine⟨(.str "on",T4),?_,.pt a d1 d3,StO.of' (k:=.pt a d1 d3) ⟨⟨ha,on⟩,d10,by omega⟩ (fun _ h=>Kl.noConfusion h) rfl (by unfold sNk;rw[show(Kl.pt a d1 d3).of=a from rfl,won];rfl) N (fun f i hf=>⟨rfl,aw (fun h=>by cases h;omega)⟩) hw aV⟩;rwa[y2,i1,e3,t0,s3,e4]
   ·have y2:decide (d2<11)=false:=decide_eq_false h2;rw[dz (ρ':=[some (.ref lw),some (.tup [.int ni,.int w]),some (.ref (p 0)),some (.int a),some (.str (wOf (K.A a))),some (.int d1),some (.int d2)]) (S':=T2) (by rwa[y2])];have M3:=M2.new (.x 8 0) (.lst [.str "off",.str "taken"]) [];have R3:Kr cK cA 0 (fe pos (.x 8 0) T2.length) (aE (aE c (.x 9 0) (.lst [.int z2])) (.x 8 0) (.lst [.str "off",.str "taken"])) K p q:=R2.fx Fx.new;have t0:=M3.get (R3.pk 0 (by decide)) R3.c0;obtain⟨⟨u,T3⟩,e3,eu,N⟩:=rE M3 R3 I.w ha on.1 on.2 (by omega) (by omega);dsimp only at eu;subst eu;obtain⟨pos',c',q',M',R',F⟩:=N;have g:=M'.get ((F (.x 8 0) fun z=>z).1.trans d5) ((F (.x 8 0) fun z=>z).2.trans aV);have hs:sNk K (.tk a)=if (bh K a).1="taken" then("taken":Str)else "off":=by
     unfold sNk;show(if jk (.str (bh K a).1)=true then _ else if mP (.str (bh K a).1)=true then _ else wOf (K.A a))=_;unfold bh;split
     ·rfl
     ·split<;>rfl
    refine⟨(.str (sNk K (.tk a)),T3),?_,.tk a,StO.of' (k:=.tk a) ⟨ha,on⟩ (fun _ h=>Kl.noConfusion h) rfl rfl ⟨pos',c',q',M',R',F⟩ (fr _) (fw [.str "off",.str "taken"]).1 (fw _).2⟩;by_cases hd:(bh K a).1="taken"
    ·have zd:decide ((bh K a).1="taken")=true:=decide_eq_true hd;rw[hs,if_pos hd];rwa[t0,e3,zd,g,wj,if_true]
    ·have zd:decide ((bh K a).1="taken")=false:=decide_eq_false hd;rw[hs,if_neg hd];rwa[t0,e3,zd,g,wj,Qs,if_false]
end
inductive EvN(n:Nat):U->Prop where
 |two (w:Str) (h:w∈(["begin","done","fall"]:List Str)) (a:Int):EvN n (.tup [.str w,.int a])
 |four (w:Str) (h:w∈(["look","put"]:List Str)) (a b v:Int) (b0:0<=b) (b1:b<n):EvN n (.tup [.str w,.int a,.int b,.int v])
section
variable{cK cA:Cl}{n m t:Nat}{pos:Pl->Option Nat}{c:Pl->O}{S:Sto}{K:Kc}{p:Nat->Nat}{q:Int->Nat->Nat}{k:Kl}{lw lp:Nat}{a z ni w:Int}{go s0:List Int}{zO:O}{e:U}{r2 r7 r8 r9:Option U}
theorem gq(h:∀x∈K.ev,EvN n x)(he:EvN n e):∀x∈K.ev++[e],EvN n x:=fun x hx=>by
 rcases Qw.mp hx with z|z
 ·exact h x z
 ·rw[QB.mp z];exact he
theorem gN(h:∀x∈K.ev,EvN n x)(hk:sk K n k):∀x∈(fB K k).2.ev,EvN n x:=by
 cases k with
 |bg a=>exact gq h (.two _ (by decide) _)
 |lk a b=>
  show ∀x∈(cH K a b).2.ev,EvN n x;unfold cH;split
  ·exact gq h (.four _ (by decide) _ _ _ hk.2.1 hk.2.2)
  ·split
   ·exact gq h (.two _ (by decide) _)
   ·exact gq h (.four _ (by decide) _ _ _ hk.2.1 hk.2.2)
 |pt a b v=>exact gq h (.four _ (by decide) _ _ _ hk.2.1 hk.2.2)
 |tk a=>
  show ∀x∈(bh K a).2.ev,EvN n x;unfold bh;split
  ·exact gq h (.two _ (by decide) _)
  ·split
   ·exact gq h (.two _ (by decide) _)
   ·exact h
 |wr a=>
  show ∀x∈(bc K a).2.ev,EvN n x;unfold bc;split
  ·exact h
  ·dsimp only;split
   ·exact gq (K:=K) h (.two _ (by decide) _)
   ·exact h
def oO(cK cA:Cl):Fn:=fnU 10 5 (iB i9 (oR cK cA) (iF cK cA) (fM cK) cK)
def wiB(cK cA:Cl):CS:=dR i9 (oR cK cA) (iF cK cA) (fM cK) cK
structure Wd(cK cA:Cl)(s0:List Int)(n t lw lp:Nat)(p:Nat->Nat)(zO:O)(pos:Pl->Option Nat)(c:Pl->O)(K:Kc)(S:Sto):Prop where
 m:Mm pos c S
 r:∃q,Kr cK cA 0 pos c K p q
 v:Kv K s0 n
 b:Kb K t
 ids:∃m,K.ids=rng m/\m<=20
 ev:∀e∈K.ev,EvN n e
 pw:pos (.x 9 0)=some lw
 w:∃z,c (.x 9 0)=.lst [.int z]
 pp:pos (.x 3 0)=some lp
 ph:c (.x 3 0)=.dic (phU K)
 pz:pos (.x 0 0)=some 0
 z:c (.x 0 0)=zO
theorem uG(h:K.ids=rng m):((m:Nat):Int)∉K.ids/\(phU K).length=m:=⟨fun z=>by
 rw[h]at z;obtain⟨i,hi,e⟩:=Qi.mp z;have:=ZY.mp hi;omega,by unfold phU;rw[h];simp[rng]⟩
theorem A9(hns:cA.ns.length=6)(W:Wd cK cA s0 n t lw lp p zO pos c K S)(ht:t<=900)(n0:1<=ni)(hni:ni.toNat=n)(n1:ni<=60)(w0:1<=w)(w1:w<2^60) :
  Wp (wiB cK cA [uR lw,some (.tup [.int ni,.int w]),r2,uI 20,uI 120,uR (p 0),uR lp,r7,r8,r9] S) fun s=>s.1=.nx/\∃r8' r9',s.2.1=[uR lw,some (.tup [.int ni,.int w]),r2,uI 20,uI 120,uR (p 0),uR lp,r7,r8',r9']/\∃pos c K,Wd cK cA s0 n (t+1) lw lp p zO pos c K s.2.2:=by
 obtain⟨q,R⟩:=W.r;obtain⟨m,hids,hm⟩:=W.ids;obtain⟨z,cw⟩:=W.w;obtain⟨hmN,lph⟩:=uG hids;have M:=W.m;have b1:=W.b.ev;have b3:=W.b.ids;have tp:=M.get W.pp W.ph;obtain⟨go,ego⟩:∃go:List Int,go=K.ids.filter fun x=>!decide (wOf (K.A x)="off"):=⟨_,rfl⟩;have hgo:∀x∈go,x∈K.ids/\wOf (K.A x)≠"off":=fun x hx=>by
  rw[ego]at hx;obtain⟨h1,h2⟩:=ZL.mp hx;exact⟨h1,by simpa using h2⟩
 have gl20:go.length<=20:=by
  rw[ego];refine Qb (List.length_filter_le _ _) ?_;rw[hids];simp[rng];exact hm
 have ec:i6 (ah 6) (gNm 0) (aK (cOp fNe (cOp fIx (ah 1) (ah 0)) (cC (.str "off")))) (ah 0) 1 [6] [uR lw,some (.tup [.int ni,.int w]),r2,uI 20,uI 120,uR (p 0),uR lp,r7,r8,r9] S=some (.ref S.length,S++[.lst (go.map U.int)]):=by
  have:=tj (S:=S) (ci:=ah 6) (el:=ah 0) (ct:=aK (cOp fNe (cOp fIx (ah 1) (ah 0)) (cC (.str "off")))) (caps:=[6]) (ρ:=[uR lw,some (.tup [.int ni,.int w]),r2,uI 20,uI 120,uR (p 0),uR lp,r7,r8,r9]) (ld:=lp) (kus:=phU K) (t:=fun e=>match e.2 with|.str x=>!decide (x="off")|_=>false) (v:=fun e=>kU e.1) (r:=[uR lp]) rfl tp rfl (by omega) (fun ep ys e he=>by
   obtain⟨x,hx,rfl⟩:=Qi.mp he;have lt:=(Q6.mp tp).1;have g:(S.set lp (.fdc ep (phU K))++[O.lst ys])[lp]?=some (.fdc ep (phU K)):=av (by rw[Z9,if_pos rfl,if_pos lt]);have v:=uj (f:=fun x=>U.str (wOf (K.A x))) hx;have v':aJ (phU K) (.inl x)=some (.str (wOf (K.A x))):=v;show aK (cOp fNe (cOp fIx (ah 1) (ah 0)) (cC (.str "off"))) [some (.int x),uR lp] _=_;rwa[g,v',Du]) (fun e he Y=>rfl)
  rw[this];have eg:((phU K).filter (fun e=>match e.2 with|.str x=>!decide (x="off")|_=>false)).map (fun e=>kU e.1)=go.map U.int:=by
   unfold phU;rw[List.filter_map,Qo,ego];rfl
  rw[eg]
 have M1:=M.new (.x 4 0) (.lst (go.map U.int)) [];obtain⟨pos1,hp1⟩:∃pos1,pos1=fe pos (.x 4 0) S.length:=⟨_,rfl⟩;obtain⟨c1,hc1⟩:∃c1,c1=aE c (.x 4 0) (.lst (go.map U.int)):=⟨_,rfl⟩;have R1:Kr cK cA 0 pos1 c1 K p q:=by rw[hp1,hc1];exact R.fx Fx.new
 rw[<-hp1,<-hc1]at M1;have pe:∀f,f≠4->pos1 (.x f 0)=pos (.x f 0)/\c1 (.x f 0)=c (.x f 0):=fun f hf=>by rw[hp1,hc1];exact⟨bT (fun h=>by cases h;exact hf rfl),aw (fun h=>by cases h;exact hf rfl)⟩
 have p4:pos1 (.x 4 0)=some S.length:=by rw[hp1];exact d5
 have c4:c1 (.x 4 0)=.lst (go.map U.int):=by rw[hc1];exact aV
 have p3:=(pe 3 (by decide)).1.trans W.pp;have c3:=(pe 3 (by decide)).2.trans W.ph;have p9:=(pe 9 (by decide)).1.trans W.pw;have c9:=(pe 9 (by decide)).2.trans cw;have p0':=(pe 0 (by decide)).1.trans W.pz;have c0':=(pe 0 (by decide)).2.trans W.z;obtain⟨S1,eS1⟩:∃S1,S1=S++[O.lst (go.map U.int)]:=⟨_,rfl⟩;rw[<-eS1]at M1 ec;have G:∀(z:Int) (S':Sto),Mm pos1 (aE c1 (.x 9 0) (.lst [.int z])) S'->S'[lp]?=some (.dic (phU K))/\S'[S.length]?=some (.lst (go.map U.int)):=fun z S' h=>⟨h.get p3 ((aw (by simp)).trans c3),h.get p4 ((aw (by simp)).trans c4)⟩;have eq0:∀(neg:Bool) (z:Int) (S':Sto),Mm pos1 (aE c1 (.x 9 0) (.lst [.int z])) S'->iq neg (.ref S.length) (.ref S'.length) (S'++[.lst []])=some (.bl (if neg then !decide (go=[])else decide (go=[])),S'++[.lst []]):=fun neg z S' h=>by
  have:=mQ neg (S:=S'++[.lst []]) (l:=S.length) (l':=S'.length) (ns:=go) (ms:=[]) (av (G z S' h).2) (by rw[ga0];rfl);exact this
 have D1:Mm pos1 (aE c1 (.x 9 0) (.lst [.int z])) S1:=by rw[A8 c9];exact M1
 have key:∀(pos':Pl->Option Nat) (c':Pl->O) (K':Kc) (S':Sto) (q':Int->Nat->Nat),Mm pos' c' S'->Kr cK cA 0 pos' c' K' p q'->(∃k,sk K n k/\K'=(fB K k).2)->(∃m,K'.ids=rng m/\m<=20)->pos' (.x 9 0)=some lw->(∃z,c' (.x 9 0)=.lst [.int z])->pos' (.x 3 0)=some lp->c' (.x 3 0)=.dic (phU K')->pos' (.x 0 0)=some 0->c' (.x 0 0)=zO->Wd cK cA s0 n (t+1) lw lp p zO pos' c' K' S':=fun pos' c' K' S' q' h1 h2 ⟨k,h3,h4⟩ h5 h6 h7 h8 h9 h10 h11=>by
  subst h4;exact⟨h1,⟨q',h2⟩,W.v.call h3,W.b.call,h5,gN W.ev h3,h6,h7,h8,h9,h10,h11⟩
 have stay:∀(z:Int) (S':Sto),Mm pos1 (aE c1 (.x 9 0) (.lst [.int z])) S'->Wd cK cA s0 n (t+1) lw lp p zO pos1 (aE c1 (.x 9 0) (.lst [.int z])) K S':=fun z S' h=>⟨h,⟨q,R1.fx Fx.upd⟩,W.v,⟨by omega,by have:=W.b.tk;omega,by omega⟩,W.ids,W.ev,p9,⟨z,aV⟩,p3,(aw (by simp)).trans c3,p0',(aw (by simp)).trans c0'⟩;unfold wiB dR;rw[dz (ρ':=[uR lw,some (.tup [.int ni,.int w]),r2,uI 20,uI 120,uR (p 0),uR lp,r7,uR S.length,r9]) (S':=S1) (by rwa[ec])];generalize hρ:([uR lw,some (.tup [.int ni,.int w]),r2,uI 20,uI 120,uR (p 0),uR lp,r7,uR S.length,r9]:Rho)=ρ;have tst:∃b z2 S2,(tF (aK (cOp fLt (cCB kG (ag (ah 6) aG)) (ah 3))) (cOr (aK (cOp (iq false) (ah 8) (kQ aG))) (aK (cOp fEq (cCB i9 (ag (ah 0) (ag (cC (.int 5)) aG))) (cC (.int 0)))))) ρ S1=some (b,S2)/\Mm pos1 (aE c1 (.x 9 0) (.lst [.int z2])) S2/\(b=true->m<20):=by
  rw[<-hρ];have l1:=(G z S1 D1).1;by_cases h6:m<20
  ·have z6:decide (((m:Nat):Int)<20)=true:=decide_eq_true (by omega);have q:=eq0 false z S1 D1;rw[if_neg Q9]at q;by_cases hg:go=[]
   ·rw[decide_eq_true hg]at q;exact⟨true,z,_,by rwa[l1,lph,z6,q],D1.app [.lst []],fun _=>h6⟩
   ·rw[decide_eq_false hg]at q;obtain⟨d,z',e,M',_,_⟩:=CQ (m:=5) (D1.app [.lst []]) p9 aV (by decide) (by decide);rw[iK]at M';exact⟨decide (d=0),z',_,by rwa[l1,lph,z6,q,e],M',fun _=>h6⟩
  ·have z6:decide (((m:Nat):Int)<20)=false:=decide_eq_false (by omega);exact⟨false,z,_,by rwa[l1,lph,z6],D1,fun h=>nomatch h⟩
 obtain⟨b,z2,S2,et,D2,hb⟩:=tst;cases b with
 |true=>
  have ei:∀{c1 c2:CS},fg (tF (aK (cOp fLt (cCB kG (ag (ah 6) aG)) (ah 3))) (cOr (aK (cOp (iq false) (ah 8) (kQ aG))) (aK (cOp fEq (cCB i9 (ag (ah 0) (ag (cC (.int 5)) aG))) (cC (.int 0)))))) c1 c2 ρ S1=c1 ρ S2:=fun{c1 c2}=>by rw[pj,et];rfl
  rw[ei];subst hρ;have R2:Kr cK cA 0 pos1 (aE c1 (.x 9 0) (.lst [.int z2])) K p q:=R1.fx Fx.upd;have t0:=D2.get (R2.pk 0 (by decide)) R2.c0;have t3:=(G z2 S2 D2).1;obtain⟨⟨u,S3⟩,e3,eu,pos',c',q',M3,R3,F⟩:=si hns D2 R2 hmN (by omega) (by omega);dsimp only at eu;subst eu;have v3:=(F (.x 3 0) fun z=>z).1.trans p3;have w3:=(F (.x 3 0) fun z=>z).2.trans ((aw (by simp)).trans c3);have l3:=M3.get v3 w3;have hK:m<LIM:=by unfold LIM;omega
  have ep:cQ (phU K) (.inl ((m:Nat):Int)) (.str "on")=phU (aI K m):=by
   rw[HD hmN];exact qY fun h=>by
    unfold phU at h;rw[Qo]at h;obtain⟨x,hx,e⟩:=Qi.mp h;exact hmN (by rw[<-Sum.inl.inj e];exact hx)
  have M4:=M3.set v3 (.dic (phU (aI K m)));rw[dz (ρ':=[uR lw,some (.tup [.int ni,.int w]),r2,uI 20,uI 120,uR (p 0),uR lp,r7,uR S.length,r9]) (S':=S3) (by rwa[t0,t3,lph,e3])];refine⟨(.nx,[uR lw,some (.tup [.int ni,.int w]),r2,uI 20,uI 120,uR (p 0),uR lp,r7,uR S.length,r9],S3.set lp (.dic (phU (aI K m)))),by rwa[l3,lph,hK,if_true,ep],rfl,_,_,rfl,pos',_,aI K m,key _ _ _ _ q' M4 (R3.fx Fx.upd) ⟨.bg m,hmN,rfl⟩ ⟨m+1,?_,by have:=hb rfl;omega⟩ ((F (.x 9 0) fun z=>z).1.trans p9) ⟨z2,(aw (by simp)).trans ((F (.x 9 0) fun z=>z).2.trans aV)⟩ v3 aV ((F (.x 0 0) fun z=>z).1.trans p0') ((aw (by simp)).trans ((F (.x 0 0) fun z=>z).2.trans ((aw (by simp)).trans c0')))⟩;show K.ids++[(m:Int)]=rng (m+1);rw[hids];simp[rng,List.range_succ]
 |false=>
  have ei:∀{c1 c2:CS},fg (tF (aK (cOp fLt (cCB kG (ag (ah 6) aG)) (ah 3))) (cOr (aK (cOp (iq false) (ah 8) (kQ aG))) (aK (cOp fEq (cCB i9 (ag (ah 0) (ag (cC (.int 5)) aG))) (cC (.int 0)))))) c1 c2 ρ S1=c2 ρ S2:=fun{c1 c2}=>by rw[pj,et];rfl
  rw[ei];subst hρ;have eq2:=eq0 true z2 S2 D2;rw[if_pos rfl]at eq2;by_cases hg:go=[]
  ·rw[decide_eq_true hg]at eq2;exact⟨(.nx,[uR lw,some (.tup [.int ni,.int w]),r2,uI 20,uI 120,uR (p 0),uR lp,r7,uR S.length,r9],S2++[.lst []]),by rwa[eq2],rfl,_,_,rfl,_,_,K,stay z2 _ (D2.app [.lst []])⟩
  ·rw[decide_eq_false hg]at eq2;have D3:=D2.app [.lst []];have ei2:∀{c1 c2:CS},fg (aK (cOp (iq true) (ah 8) (kQ aG))) c1 c2 [uR lw,some (.tup [.int ni,.int w]),r2,uI 20,uI 120,uR (p 0),uR lp,r7,uR S.length,r9] S2=c1 [uR lw,some (.tup [.int ni,.int w]),r2,uI 20,uI 120,uR (p 0),uR lp,r7,uR S.length,r9] (S2++[.lst []]):=fun{c1 c2}=>by rwa[eq2]
   rw[ei2];have gl:=List.length_pos_iff.mpr hg;obtain⟨d4,z4,e4,M4,d40,d41⟩:=CQ (m:=(go.length:Nat)) D3 p9 aV (by omega) (by omega);rw[iK]at M4;generalize hS4:(S2++[O.lst []]).set lw (.lst [.int z4])=S4 at e4 M4;have a4:=CF (xs:=go) d40 d41;obtain⟨a,ea⟩:∃a,a=go.getD d4.toNat 0:=⟨_,rfl⟩;rw[<-ea]at a4;have ha:a∈go:=by
    have hi:d4.toNat<go.length:=by omega
    rw[ea,QH,Q4 hi];exact List.getElem_mem hi
   obtain⟨hai,hao⟩:=hgo a ha;have g3:=(G z2 _ D3).2;have g4:=(G z4 S4 M4).2;rw[dz (ρ':=[uR lw,some (.tup [.int ni,.int w]),r2,uI 20,uI 120,uR (p 0),uR lp,r7,uR S.length,uI a]) (S':=S4) (by rwa[g3,QV,e4,g4,a4])];have R4:Kr cK cA 0 pos1 (aE c1 (.x 9 0) (.lst [.int z4])) K p q:=R1.fx Fx.upd;obtain⟨⟨u,S5⟩,e5,k,O⟩:=Bg M4 R4 W.v.i W.b (by omega) p9 aV hai hao n0 hni n1 w0 w1;have eu:=O.rt;dsimp only at eu;subst eu;obtain⟨pos',c',q',z',M5,R5,F,p5,c5⟩:=O.nx;have v3:=(F 3 0 (by decide)).1.trans p3;have w3:=(F 3 0 (by decide)).2.trans ((aw (by simp)).trans c3);have l4:=(G z4 S4 M4).1;have v4:aJ (phU K) (.inl a)=some (.str (wOf (K.A a))):=uj (f:=fun x=>U.str (wOf (K.A x))) hai;have l5:=M5.get v3 w3;have M6:=M5.set v3 (.dic (phU (fB K k).2));have hK:m<LIM:=by unfold LIM;omega
   have ep:cQ (phU K) (.inl a) (.str (sNk K k))=phU (fB K k).2:=by rw[<-O.of];exact HC O.ok O.nb
   refine⟨(.nx,[uR lw,some (.tup [.int ni,.int w]),r2,uI 20,uI 120,uR (p 0),uR lp,r7,uR S.length,uI a],S5.set lp (.dic (phU (fB K k).2))),by rwa[l4,v4,e5,l5,lph,hK,if_true,ep],rfl,_,_,rfl,pos',_,(fB K k).2,key _ _ _ _ q' M6 (R5.fx Fx.upd) ⟨k,O.ok,rfl⟩ ⟨m,by rw[(uW O.ok O.nb).1];exact hids,hm⟩ p5 ⟨z',(aw (by simp)).trans c5⟩ v3 aV ((F 0 0 (by decide)).1.trans p0') ((aw (by simp)).trans ((F 0 0 (by decide)).2.trans ((aw (by simp)).trans c0')))⟩
def CU:Pl->Option Nat:=fun s=>if s=.x 0 0 then some 0 else none
theorem m0(h:S[0]?=some zO):Mm CU (fun _=>zO) S:=by
 refine⟨fun s p e=>?_,fun s s' p e e'=>?_⟩
 ·unfold CU at e;split at e
  ·cases e;exact h
  ·cases e
 ·unfold CU at e e';split at e
  ·split at e'
   ·rename_i a b;rw[a,b]
   ·cases e'
  ·cases e
structure Wk(cK cA:Cl)(s0:List Int)(n t:Nat)(p:Nat->Nat)(zO:O)(K:Kc)(S:Sto):Prop where
 r:∃pos c q,Mm pos c S/\Kr cK cA 0 pos c K p q
 v:Kv K s0 n
 b:Kb K t
 few:K.ids.length<=200
 ev:∀e∈K.ev,EvN n e
 z:S[0]?=some zO
theorem A4(hnK:cK.ns.length=6)(hnA:cA.ns.length=6)(h0:S[0]?=some zO)(hw:S[lw]?=some (.lst [.int z]))(n0:1<=ni)(hni:ni.toNat=n)(n1:ni<=60)(w0:1<=w)(w1:w<2^60)(hs:s0.length=n)(hz:lw≠0) :
  Wp (oO cK cA [.ref lw,.tup [.int ni,.int w],.tup (s0.map U.int),.int 20,.int 120] S) fun r=>∃p K,r.1=.ref (p 0)/\K.ids.length<=20/\Wk cK cA s0 n 120 p zO K r.2:=by
 have M0:=(m0 h0).newP (p:=lw) hw (fun s' e=>by
  unfold CU at e;split at e
  ·cases e;exact hz rfl
  ·cases e) (.x 9 0)
 obtain⟨⟨u,S1⟩,e1,eu,pos1,c1,M1,R1,F1⟩:=zL (cA:=cA) (j:=0) (st:=s0) (x:=.tup [.int ni,.int w]) hnK (by omega) M0;dsimp only at eu M1 e1;subst eu;have M2:=M1.new (.x 3 0) (.dic []) [];have fx:∀f,f≠3->fe pos1 (.x 3 0) S1.length (.x f 0)=fe CU (.x 9 0) lw (.x f 0)/\aE c1 (.x 3 0) (.dic []) (.x f 0)=aE (fun _=>zO) (.x 9 0) (.lst [.int z]) (.x f 0):=fun f hf=>by
  have:=F1 (.x f 0) fun z=>z;exact⟨(bT (fun h=>by cases h;exact hf rfl)).trans this.1,(aw (fun h=>by cases h;exact hf rfl)).trans this.2⟩
 have W0:Wd cK cA s0 n 0 lw S1.length (oV S.length) zO (fe pos1 (.x 3 0) S1.length) (aE c1 (.x 3 0) (.dic [])) (oW s0) (S1++[.dic []]):=⟨M2,⟨_,R1.fx Fx.new⟩,Kv.new hs (by omega),Kb.new,⟨0,rfl,by omega⟩,(fun e h=>nomatch h),(fx 9 (by decide)).1.trans d5,⟨z,(fx 9 (by decide)).2.trans aV⟩,d5,aV,(fx 0 (by decide)).1.trans ((bT (by simp)).trans (if_pos rfl)),(fx 0 (by decide)).2.trans (aw (by simp))⟩;unfold oO;rw[FF];unfold iB;rw[dz (ρ':=[uR lw,some (.tup [.int ni,.int w]),some (.tup (s0.map U.int)),uI 20,uI 120,uR S.length,none,none,none,none]) (S':=S1) (by rwa[e1])];rw[dz (ρ':=[uR lw,some (.tup [.int ni,.int w]),some (.tup (s0.map U.int)),uI 20,uI 120,uR S.length,uR S1.length,none,none,none]) (S':=S1++[.dic []]) (by rwa[])];have hi:bU (ag (ah 4) aG) [uR lw,some (.tup [.int ni,.int w]),some (.tup (s0.map U.int)),uI 20,uI 120,uR S.length,uR S1.length,none,none,none] (S1++[.dic []])=some ((Qz 120).map fun i:Nat=>U.int (i:Int),fun _=>True,S1++[.dic []]):=by
  rw[kB (n:=120) (S1:=S1++[.dic []]) rfl (by decide) (by decide),show(120:Int).toNat=120 from rfl,lR]
 obtain⟨⟨o,ρ',S3⟩,e3,eo,r7,r8,r9,eρ,pos',c',K',W'⟩:=zp (cb:=wiB cK cA) (gg:=gNm 7) hi (mv (f:=fun i:Nat=>U.int (i:Int)) (R:=fun s=>s.1=.nx/\∃r7 r8 r9,s.2.1=[uR lw,some (.tup [.int ni,.int w]),some (.tup (s0.map U.int)),uI 20,uI 120,uR S.length,uR S1.length,r7,r8,r9]/\∃pos c K,Wd cK cA s0 n 120 lw S1.length (oV S.length) zO pos c K s.2.2)
  (fun xs ρ S'=>xs.length<=120/\∃r7 r8 r9,ρ=[uR lw,some (.tup [.int ni,.int w]),some (.tup (s0.map U.int)),uI 20,uI 120,uR S.length,uR S1.length,r7,r8,r9]/\∃pos c K,Wd cK cA s0 n (120-xs.length) lw S1.length (oV S.length) zO pos c K S')
  (fun ρ S' ⟨_,r7,r8,r9,e,h⟩=>⟨trivial,rfl,r7,r8,r9,e,h⟩) (fun x xs ρ S' ⟨hx,r7,r8,r9,e,pos,c,K,h⟩=>⟨trivial,by
   rw[QY]at hx h;subst e;refine⟨(_,_),rfl,?_⟩;refine(A9 (r2:=some (.tup (s0.map U.int))) (r7:=uI (x:Int)) (r8:=r8) (r9:=r9) hnA h (by omega) n0 hni n1 w0 w1).mono fun s ⟨h1,r8',r9',h2,pos',c',K',h3⟩=>.inl ⟨h1,by omega,_,r8',r9',h2,pos',c',K',?_⟩;rw[show 120-xs.length=120-(xs.length+1)+1 by omega];exact h3⟩) (Qz 120) _ _ ⟨by simp,none,none,none,rfl,_,_,_,by simpa using W0⟩)
 dsimp only at eo eρ;subst eo eρ;have e3':kR (bU (ag (ah 4) aG)) (gNm 7) (dR i9 (oR cK cA) (iF cK cA) (fM cK) cK) [uR lw,some (.tup [.int ni,.int w]),some (.tup (s0.map U.int)),uI 20,uI 120,uR S.length,uR S1.length,none,none,none] (S1++[.dic []])=_:=e3;refine⟨(.ref S.length,S3),?_,oV S.length,K',rfl,?_,?_⟩
 ·rw[dz e3'];rwa[]
 ·obtain⟨m,h1,h2⟩:=W'.ids;rw[h1];simp[rng];exact h2
 ·obtain⟨q,R⟩:=W'.r;refine⟨⟨pos',c',q,W'.m,R⟩,W'.v,W'.b,?_,W'.ev,W'.m.get W'.pz W'.z⟩;obtain⟨m,h1,h2⟩:=W'.ids;rw[h1];simp[rng];omega
end
section
variable{n:Nat}{S T Y:Sto}{ll lo lb lw:Nat}{a b v:Int}{bx:List Int}{e:U}{r0 r2 r3 r4 r5 r6 r7 r8 r9:Option U}{ev:List U}{own P:List (Int×Int)}{lk L:List Int}{w:Str}
def eD:U->PyData
 |.tup [.str w,.int a]=>.tuple [.str w,.int a]
 |.tup [.str w,.int a,.int b,.int v]=>.tuple [.str w,.int a,.int b,.int v]
 |_=>.none
def Jt{l:List Str}(h:w∈l)(hl:∀x∈l,x∈evW):(PyData.str w).canLay0=true:=rS (hl w h)
theorem EvN.dt(h:EvN n e)(S:Sto):Dt S e (eD e)/\(eD e).canLay0=true:=by
 cases h with
 |two w h a=>exact⟨.tup (.cons (.str _) (.cons (.int _) .nil)),by have:=Jt h (by decide);simp[eD,PyData.canLay0,PyData.canLayAll0]at this ⊢;exact this⟩
 |four w h a b v _ _=>exact⟨.tup (.cons (.str _) (.cons (.int _) (.cons (.int _) (.cons (.int _) .nil)))),by have:=Jt h (by decide);simp[eD,PyData.canLay0,PyData.canLayAll0]at this ⊢;exact this⟩
theorem zY(S:Sto):∀{l:List U},(∀e∈l,EvN n e)->DtL S l (l.map eD)/\PyData.canLayAll0 (l.map eD)=true
 |[],_=>⟨.nil,rfl⟩
 |e::r,h=>by
  obtain⟨h1,h2⟩:=(h e QZ).dt S;obtain⟨h3,h4⟩:=zY S fun x hx=>h x (QQ _ hx);exact⟨.cons h1 h3,by simp[PyData.canLayAll0,h2,h4]⟩
theorem zX(h:EvN n e):(eD e).eqv (.tuple [.str "done",.int a])=true↔e=.tup [.str "done",.int a]:=by
 cases h with
 |two w h x=>
  show PyData.eqvAll [.str w,.int x] [.str "done",.int a]=true↔_;have h1:PyData.eqv (.str w) (.str "done")=decide (w="done"):=uy;have h2:PyData.eqv (.int x) (.int a)=decide (x=a):=by
   show(x == a)=_;by_cases z:x=a
   ·subst z;simp
   ·rw[decide_eq_false z];simpa using z
  simp only[PyData.eqvAll,h1,h2,Bool.and_true];simp
 |four w h x b v _ _=>
  have:(eD (.tup [.str w,.int x,.int b,.int v])).eqv (.tuple [.str "done",.int a])=false:=by
   show PyData.eqvAll _ _=false;exact SeqAt.eqvAll_other_length (by simp)
  rw[this];simp
theorem Cv(hl:S[ll]?=some (.lst ev))(he:∀e∈ev,EvN n e):CY false (.tup [.str "done",.int a]) (.ref ll) S=some (.bl (decide (a∈dnE ev)),S):=by
 obtain⟨h1,h2⟩:=zY S he;have ly:(PyData.str "done").canLay0=true:=rS (by decide);have:=Cp (x:=.tup [.str "done",.int a]) (y:=.ref ll) (S:=S) (b:=(ev.map eD).any fun z=>z.eqv (.tuple [.str "done",.int a])) false ⟨.tuple [.str "done",.int a],ev.map eD,.tup (.cons (.str _) (.cons (.int _) .nil)),.inl (.lst hl h1),mK ly,h2,rfl⟩;rw[if_neg Q9]at this;rw[this];congr 3;rw[Zz,decide_eq_true_eq,List.any_map,List.any_eq_true];constructor
 ·rintro⟨x,hx,h⟩;have h':(eD x).eqv (.tuple [.str "done",.int a])=true:=h;exact xD (w:="done") (by decide) (by rw[<-(zX (he x hx)).mp h'];exact hx)
 ·intro h;obtain⟨w,hw,h⟩:=pD h;rw[QB.mp hw]at h;refine⟨_,h,?_⟩;exact(zX (he _ h)).mpr rfl
theorem vA{x y:Str}{l:List Str}(h:w∈l)(b:Bool)(hl:∀z∈l,(z == x||z == y)=b):fIn false (.str w) (.tup [.str x,.str y]) S=some (.bl b,S):=by
 have h1:iZ (.str w)=true/\[U.str x,U.str y].all iZ=true:=⟨rfl,rfl⟩;unfold fIn;dsimp only;rw[if_pos h1,if_neg Q9];congr 3;show(x == w||(y == w||false))=b;rw[<-hl w h,Bool.or_false,Bool.beq_comm (a:=x),Bool.beq_comm (a:=y)]
theorem ev2{x y:U}:Ag (ah 7) (some (cC (.int 2))) none [r0,some (.ref ll),r2,r3,r4,r5,r6,some (.tup [.str w,.int a,x,y]),r8,r9] S=some (.tup [x,y],S):=by
 show some (U.tup (oY [.str w,.int a,x,y] (some 2) none),S)=_;have:oY [.str w,.int a,x,y] (some 2) none=[x,y]:=by
  have hs:HT.sIx [U.str w,.int a,x,y].length 0 (some ((2:Nat):Int))=2:=by rw[HT.sIx_nat];rfl
  unfold oY;rw[show(2:Int)=((2:Nat):Int)from rfl,hs,HT.sIx_none];rfl
 rw[this]
abbrev seR(r0:Option U)(ll:Nat)(r2:Option U)(lb:Nat)(a:Int)(lw:Nat)(r6 r7 r8 r9:Option U):Rho:=[r0,uR ll,r2,uR lb,uI a,uR lw,r6,r7,r8,r9]
theorem Bm(hb:T[lb]?=some (.lst (bx.map U.int)))(hbl:bx.length=n)(he:EvN n e)(h:rp1 a (fun d=>bx.getD d.toNat 0) e (own,lk)=some (P,L))(hn:own.length<9000) :
  ∃r8' r9',cY (seR r0 ll r2 lb a T.length r6 (some e) r8 r9) (T++[.dic (dI own)])=some (.nx,seR r0 ll r2 lb a T.length r6 (some e) r8' r9',T++[.dic (dI P)]):=by
 have g5:(T++[O.dic (dI own)])[T.length]?=some (.dic (dI own)):=by rw[ga0];rfl
 have g3:(T++[O.dic (dI own)])[lb]?=some (.lst (bx.map U.int)):=av hb;unfold cY;cases he with
 |two w hw x=>
  have f:fIn false (.str w) (.tup [.str "look",.str "put"]) (T++[.dic (dI own)])=some (.bl false,T++[.dic (dI own)]):=vA hw false (by decide);have:(own,lk)=(P,L):=by
   rw[dN gJ]at h;exact Option.some.inj h
  cases this;exact⟨r8,r9,by rwa[seR,f]⟩
 |four w hw x b v b0 b1=>
  have f:fIn false (.str w) (.tup [.str "look",.str "put"]) (T++[.dic (dI own)])=some (.bl true,T++[.dic (dI own)]):=vA hw true (by decide);by_cases hx:x=a
  ·subst hx;have zx:decide (x=x)=true:=decide_eq_true rfl;have ab:=CF (xs:=bx) b0 (by rw[hbl];exact b1);have hL:(dI own).length<LIM:=by unfold LIM dI;rw[QV];omega
   have cs:w="look"\/w="put":=by simpa using hw
   refine⟨uI b,uI v,?_⟩;rcases cs with rfl|rfl
   ·have z1:decide (("look":Str)="look")=true:=by decide
    have z2:decide (("look":Str)="put")=false:=by decide
    have hv:v=(aJ own b).getD (bx.getD b.toNat 0)/\P=own:=by
     unfold rp1 at h;dsimp only at h;rw[if_pos rfl,if_pos rfl]at h;split at h
     ·rename_i z hz;split at h
      ·cases h;rename_i hh;rw[hz];exact⟨hh,rfl⟩
      ·cases h
     ·rename_i hz;split at h
      ·cases h;rename_i hh;rw[hz];exact⟨hh,rfl⟩
      ·cases h
    obtain⟨hv,rfl⟩:=hv;have ne:∀o:Option Int,o=aJ P b->((o.map U.int).getD (.int (bx.getD b.toNat 0)))=U.int v:=fun o ho=>by
     rw[hv,<-ho];cases o<;>rfl
    have nv:=ne _ rfl;have zv:(!decide (v=v))=false:=by simp
    rwa[seR,f,zx,ev2,z1,z2,g5,g3,ab,fS,nv,zv]
   ·have z1:decide (("put":Str)="look")=false:=by decide
    have z2:decide (("put":Str)="put")=true:=by decide
    have hp:P=cQ own b v:=by
     rw[zC]at h;exact(Prod.mk.inj (Option.some.inj h)).1.symm
    subst hp;rwa[seR,f,zx,ev2,z1,z2,g5,hL,if_true,nS]
  ·have zx:decide (x=a)=false:=decide_eq_false hx;have:(own,lk)=(P,L):=by
    rw[dN fun w' x' b' v' h'=>by
     injection h' with h';injection h' with _ h';injection h' with h' _;injection h' with h';rw[<-h'];exact hx]at h
    exact Option.some.inj h
   cases this;exact⟨r8,r9,by rwa[seR,f,zx]⟩
theorem qU(hb:T[lb]?=some (.lst (bx.map U.int)))(hl:T[ll]?=some (.lst ev))(hbl:bx.length=n):∀(es:List U) (own:List (Int×Int)) (lk:List Int) (r7 r8 r9:Option U),(∀e∈es,EvN n e)->rpE a (fun d=>bx.getD d.toNat 0) es (own,lk)=some (P,L)->own.length+es.length<=9000->
  ∃r7' r8' r9',dD (fun S=>S[ll]?=some (.lst ev)) (gNm 7) cY es (seR r0 ll r2 lb a T.length r6 r7 r8 r9) (T++[.dic (dI own)])=some (.nx,seR r0 ll r2 lb a T.length r6 r7' r8' r9',T++[.dic (dI P)])
 |[],own,lk,r7,r8,r9,_,h,_=>by
  cases h;exact⟨r7,r8,r9,gM (av hl)⟩
 |e::es,own,lk,r7,r8,r9,he,h,hn=>by
  rw[QY]at hn;obtain⟨⟨o1,k1⟩,h1,h2⟩:=Q0.mp h;obtain⟨r8',r9',e1⟩:=Bm (ll:=ll) (r0:=r0) (r2:=r2) (r6:=r6) (r8:=r8) (r9:=r9) hb hbl (he e QZ) h1 (by omega);have lo:o1.length<=own.length+1:=by
   unfold rp1 at h1;repeat' split at h1
   all_goals (first|(cases h1;exact Nat.le_succ _)|(cases h1;exact iT _ _ _)|cases h1)
  obtain⟨a1,a2,a3,e2⟩:=qU hb hl hbl es o1 k1 (some e) r8' r9' (fun x hx=>he x (QQ _ hx)) h2 (by omega);exact⟨a1,a2,a3,(ji (av hl) rfl e1).trans e2⟩
theorem qX{ep:Nat}(nd:(P.map (·.1)).Nodup)(hne:lb≠lw):∀(ks:List (Int×Int)) (bx:List Int) (r8:Option U) (Y:Sto),(∀p∈ks,p∈P)->(∀p∈P,0<=p.1/\p.1<bx.length)->Y[lb]?=some (.lst (bx.map U.int))->Y[lw]?=some (.fdc ep (dI P))->
  dD (fun S=>S[lw]?=some (.fdc ep (dI P))) (gNm 8) cX (ks.map fun p=>U.int p.1) [r0,uR ll,r2,uR lb,r4,uR lw,r6,r7,r8,r9] Y=some (.nx,[r0,uR ll,r2,uR lb,r4,uR lw,r6,r7,sS (ks.map (·.1)) r8,r9],Y.set lb (.lst ((ovl ks bx).map U.int)))
 |[],bx,r8,Y,_,_,h,hw=>by rw[ZU,show ovl [] bx=bx from rfl,j2 h];exact gM hw
 |p::ks,bx,r8,Y,hk,hr,h,hw=>by
  have hp:=hk p QZ;obtain⟨b0,b1⟩:=hr p hp;have hv:aJ P p.1=some p.2:=by
   unfold aJ;have:P.find? (fun kv=>decide (kv.1=p.1))=some p:=by
    clear hk hr hw h;induction P with
    |nil=>cases hp
    |cons x r ih=>
     rw[Qd];obtain⟨n1,n2⟩:=ZR.mp nd;by_cases z:x.1=p.1
     ·rw[decide_eq_true z];rcases QM.mp hp with w|w
      ·rw[w]
      ·exact absurd (Qi.mpr ⟨p,w,z.symm⟩) n1
     ·rw[decide_eq_false z];rcases QM.mp hp with w|w
      ·rw[w]at z;exact absurd rfl z
      ·exact ih n2 w
   rw[this];rfl
  have lt:=(Q6.mp h).1;have m1:(bx.map U.int).set p.1.toNat (.int p.2)=(bx.set p.1.toNat p.2).map U.int:=by rw[List.map_set]
  have ix:=Il (xs:=bx) b0 b1;have ih:=qX nd hne ks (bx.set p.1.toNat p.2) (uI p.1) (Y.set lb (.lst ((bx.set p.1.toNat p.2).map U.int))) (fun x hx=>hk x (QQ _ hx)) (fun x hx=>by rw[Z8];exact hr x hx) (by rw[Z9,if_pos rfl,if_pos lt]) (by rw[Qg hne];exact hw);rw[List.set_set]at ih;refine(ji (ρ1:=[r0,uR ll,r2,uR lb,r4,uR lw,r6,r7,uI p.1,r9]) (S1:=Y.set lb (.lst ((bx.set p.1.toNat p.2).map U.int))) hw rfl ?_).trans ih;unfold cX;rwa[hw,Du,fS,hv,ZV,h,ix,m1]
end
section
variable{n:Nat}{S T:Sto}{K:Kc}{ll lo lb:Nat}{a x y:Int}{s0 pre suf o:List Int}{e:U}{r0 r2 r4 r5 r6 r7 r8 r9:Option U}{ev:List U}
def jL:Fn:=fnU 10 3 iD
theorem yU:bxE K (pre++[y]) s0=if y∈dnE K.ev then ovl (K.A y).pu (bxE K pre s0)else bxE K pre s0:=by
 unfold bxE;rw[List.foldl_append];rfl
theorem Bl(V:Kv K s0 n)(hs:s0.length=n)(he:∀e∈K.ev,EvN n e)(hl:S[ll]?=some (.lst K.ev))(hn:K.ev.length<=9000)(ho:o.Perm K.ids)(hb:o.Pairwise (BeK K))(e:o=pre++y::suf)(G:Sto) :
  ∃r5' r6' r7' r8' r9' G',dU [r0,uR ll,r2,uR S.length,uI y,r5,r6,r7,r8,r9] (S++(.lst ((bxE K pre s0).map U.int)::G))=some (.nx,[r0,uR ll,r2,uR S.length,uI y,r5',r6',r7',r8',r9'],S++(.lst ((bxE K (pre++[y]) s0).map U.int)::G')):=by
 have hy:y∈K.ids:=ho.mem_iff.mp (by rw[e];simp);have see:=V.sees hs ho hb e;obtain⟨T,hT⟩:∃T,T=S++(O.lst ((bxE K pre s0).map U.int)::G):=⟨_,rfl⟩;have tb:T[S.length]?=some (.lst ((bxE K pre s0).map U.int)):=by rw[hT,ga0];rfl
 have tl:T[ll]?=some (.lst K.ev):=by rw[hT];exact av hl
 have lb:(bxE K pre s0).length=n:=by rw[nj,hs]
 have nT:S.length<T.length:=by rw[hT];simp
 rw[<-hT];have s2:(T++[O.dic []])[ll]?=some (.lst K.ev):=av tl;have d:=Cv (a:=y) s2 he;obtain⟨r7',r8',r9',e1⟩:=qU (r0:=r0) (r2:=r2) (r6:=some (.bl (decide (y∈dnE K.ev)))) tb tl lb K.ev [] [] r7 r8 r9 he see (by simpa using hn);unfold dU;rw[dz (ρ':=[r0,uR ll,r2,uR S.length,uI y,uR T.length,r6,r7,r8,r9]) (S':=T++[.dic []]) (by rwa[])];rw[dz (ρ':=[r0,uR ll,r2,uR S.length,uI y,uR T.length,some (.bl (decide (y∈dnE K.ev))),r7,r8,r9]) (S':=T++[.dic []]) (by rwa[d])];have hi:iTp (ah 1) [r0,uR ll,r2,uR S.length,uI y,uR T.length,some (.bl (decide (y∈dnE K.ev))),r7,r8,r9] (T++[.dic []])=some (K.ev,fun S=>S[ll]?=some (.lst K.ev),T++[.dic []]):=p7 (by rwa[]) s2;have ef:kR (iTp (ah 1)) (gNm 7) cY [r0,uR ll,r2,uR S.length,uI y,uR T.length,some (.bl (decide (y∈dnE K.ev))),r7,r8,r9] (T++[.dic []])=some (.nx,[r0,uR ll,r2,uR S.length,uI y,uR T.length,some (.bl (decide (y∈dnE K.ev))),r7',r8',r9'],T++[.dic (dI (K.A y).pu)]):=by
  unfold kR;rw[hi];exact e1
 rw[dz ef,yU];have g5:(T++[O.dic (dI (K.A y).pu)])[T.length]?=some (.dic (dI (K.A y).pu)):=by rw[ga0];rfl
 by_cases hd:y∈dnE K.ev
 ·rw[decide_eq_true hd,if_pos hd];have ek:(dI (K.A y).pu).map (fun q=>kU q.1)=(K.A y).pu.map fun p=>U.int p.1:=by unfold dI;rw[Qo];rfl
  have run:∃r8'',oF (ah 5) (gNm 8) cX [r0,uR ll,r2,uR S.length,uI y,uR T.length,some (.bl true),r7',r8',r9'] (T++[.dic (dI (K.A y).pu)])=some (.nx,[r0,uR ll,r2,uR S.length,uI y,uR T.length,some (.bl true),r7',r8'',r9'],T.set S.length (.lst ((ovl (K.A y).pu (bxE K pre s0)).map U.int))++[.dic (dI (K.A y).pu)]):=by
   have st:∀ep,(T++[O.dic (dI (K.A y).pu)]).set T.length (.fdc ep (dI (K.A y).pu))=T++[O.fdc ep (dI (K.A y).pu)]:=fun ep=>by rw[gs0];rfl
   have lp:∀ep,dD (fun S=>S[T.length]?=some (.fdc ep (dI (K.A y).pu))) (gNm 8) cX ((K.A y).pu.map fun p=>U.int p.1) [r0,uR ll,r2,uR S.length,uI y,uR T.length,some (.bl true),r7',r8',r9'] (T++[O.fdc ep (dI (K.A y).pu)])=some (.nx,[r0,uR ll,r2,uR S.length,uI y,uR T.length,some (.bl true),r7',sS ((K.A y).pu.map (·.1)) r8',r9'],(T++[O.fdc ep (dI (K.A y).pu)]).set S.length (.lst ((ovl (K.A y).pu (bxE K pre s0)).map U.int))):=fun ep=>
    qX (V.i.pun y hy) (Qy nT) (K.A y).pu (bxE K pre s0) r8' (T++[O.fdc ep (dI (K.A y).pu)]) (fun _ h=>h) (fun p hp=>by rw[lb];exact V.i.pub y hy p.1 (Qi.mpr ⟨p,hp,rfl⟩)) (av tb) (by rw[ga0];rfl)
   refine⟨sS ((K.A y).pu.map (·.1)) r8',?_⟩;have h5:ah 5 [r0,uR ll,r2,uR S.length,uI y,uR T.length,some (.bl true),r7',r8',r9'] (T++[O.dic (dI (K.A y).pu)])=some (.ref T.length,T++[O.dic (dI (K.A y).pu)]):=by rwa[]
   unfold oF;rw[h5,QX];simp only[g5];refine qO fun ep=>?_;rw[st ep,ek,lp ep,QX];have e2:(T++[O.fdc ep (dI (K.A y).pu)]).set S.length (.lst ((ovl (K.A y).pu (bxE K pre s0)).map U.int))=T.set S.length (.lst ((ovl (K.A y).pu (bxE K pre s0)).map U.int))++[O.fdc ep (dI (K.A y).pu)]:=List.set_append_left _ _ nT;have l2:(T.set S.length (.lst ((ovl (K.A y).pu (bxE K pre s0)).map U.int))).length=T.length:=Z8 ..;rw[e2];dsimp only;rw[<-l2,ga0];dsimp only[Zv];rw[gs0];rfl
  obtain⟨r8'',h⟩:=run;refine⟨uR T.length,some (.bl true),r7',r8'',r9',G++[.dic (dI (K.A y).pu)],?_⟩;have e3:T.set S.length (.lst ((ovl (K.A y).pu (bxE K pre s0)).map U.int))++[O.dic (dI (K.A y).pu)]=S++(.lst ((ovl (K.A y).pu (bxE K pre s0)).map U.int)::(G++[.dic (dI (K.A y).pu)])):=by
   rw[hT,gs0,Qk];rfl
  rw[<-e3];rwa[h]
 ·rw[decide_eq_false hd,if_neg hd];refine⟨uR T.length,some (.bl false),r7',r8',r9',G++[.dic (dI (K.A y).pu)],?_⟩;have e3:T++[O.dic (dI (K.A y).pu)]=S++(.lst ((bxE K pre s0).map U.int)::(G++[.dic (dI (K.A y).pu)])):=by
   rw[hT,Qk];rfl
  rw[<-e3];rwa[]
theorem uC(V:Kv K s0 n)(hs:s0.length=n)(he:∀e∈K.ev,EvN n e)(hl:S[ll]?=some (.lst K.ev))(hn:K.ev.length<=9000)(ho:o.Perm K.ids)(hb:o.Pairwise (BeK K))(hlo:S[lo]?=some (.lst (o.map U.int))):∃G,jL [.tup (s0.map U.int),.ref ll,.ref lo] S=some (.tup ((bxE K o s0).map U.int),S++G):=by
 unfold jL;rw[FG];unfold iD;rw[dz (ρ':=[some (.tup (s0.map U.int)),uR ll,uR lo,uR S.length,none,none,none,none,none,none]) (S':=S++[.lst (s0.map U.int)]) (by rwa[])];have hi:iTp (ah 2) [some (.tup (s0.map U.int)),uR ll,uR lo,uR S.length,none,none,none,none,none,none] (S++[.lst (s0.map U.int)])=some (o.map U.int,fun S=>S[lo]?=some (.lst (o.map U.int)),S++[.lst (s0.map U.int)]):=p7 (by rwa[]) (av hlo);obtain⟨⟨u,ρ',S'⟩,e1,eo,r4,r5,r6,r7,r8,r9,eρ,G,eG⟩:=zp (cb:=dU) (gg:=gNm 4) hi (mv (f:=U.int) (R:=fun s=>s.1=.nx/\∃r4 r5 r6 r7 r8 r9,s.2.1=[some (.tup (s0.map U.int)),uR ll,uR lo,uR S.length,r4,r5,r6,r7,r8,r9]/\∃G,s.2.2=S++(.lst ((bxE K o s0).map U.int)::G))
  (fun xs ρ S'=>∃pre,o=pre++xs/\∃r4 r5 r6 r7 r8 r9,ρ=[some (.tup (s0.map U.int)),uR ll,uR lo,uR S.length,r4,r5,r6,r7,r8,r9]/\∃G,S'=S++(.lst ((bxE K pre s0).map U.int)::G))
  (fun ρ S' ⟨pre,e,r4,r5,r6,r7,r8,r9,h,G,h2⟩=>⟨by subst h2;exact av hlo,rfl,r4,r5,r6,r7,r8,r9,h,G,by rw[Qc]at e;rw[e];exact h2⟩)
  (fun x xs ρ S' ⟨pre,e,r4,r5,r6,r7,r8,r9,h,G,h2⟩=>⟨by subst h2;exact av hlo,by
   subst h h2;refine⟨(_,_),rfl,?_⟩;obtain⟨r5',r6',r7',r8',r9',G',e'⟩:=Bl (r0:=some (.tup (s0.map U.int))) (r2:=uR lo) (r5:=r5) (r6:=r6) (r7:=r7) (r8:=r8) (r9:=r9) V hs he hl hn ho hb e G;exact⟨_,e',.inl ⟨rfl,pre++[x],by rw[e,Qk];rfl,_,_,_,_,_,_,rfl,G',rfl⟩⟩⟩) o _ _ ⟨[],rfl,none,none,none,none,none,none,rfl,[],rfl⟩)
 dsimp only at eo eρ eG;subst eo eρ eG;refine⟨.lst ((bxE K o s0).map U.int)::G,?_⟩;rw[dz e1];rwa[]
end
section
variable{n:Nat}{S T:Sto}{K:Kc}{ll lo:Nat}{a b v x y:Int}{s0 o:List Int}{e:U}{r0 r1 r4 r5 r6 r7:Option U}{ev:List U}{F L:List (Int×Int)}{w:Str}{t:Nat}
structure TmD(ev:List U)(t:Nat)(F L:List (Int×Int)):Prop where
 f:∀x i,aJ F x=some i->∃j:Nat,i=j/\j<t/\ev[j]?=some (.tup [.str "begin",.int x])
 l:∀x i,aJ L x=some i->∃j:Nat,i=j/\j<t/\∃w∈(["done","fall"]:List Str),ev[j]?=some (.tup [.str w,.int x])
 a:∀x (j:Nat),j<t->ev[j]?=some (.tup [.str "begin",.int x])->(aJ F x).isSome=true
 n:F.length<=t/\L.length<=t
theorem TmD.more(D:TmD ev t F L)(h:∀x,ev[t]?≠some (.tup [.str "begin",.int x])):TmD ev (t+1) F L:=
 ⟨fun x i h=>let ⟨j,a,b,c⟩:=D.f x i h;⟨j,a,by omega,c⟩,fun x i h=>let ⟨j,a,b,c⟩:=D.l x i h;⟨j,a,by omega,c⟩,fun x j hj he=>by
  by_cases z:j=t
  ·subst z;exact absurd he (h x)
  ·exact D.a x j (by omega) he,by have:=D.n;omega⟩
theorem DV(D:TmD ev t F L)(he:EvN n e)(hg:ev[t]?=some e)(ht:t<9000)(X:Sto) :
  ∃F' L',TmD ev (t+1) F' L'/\bN [r0,r1,uR T.length,uR (T.length+1),uI t,some e,r6,r7] (T++[.dic (dI F),.dic (dI L)])=some (.nx,[r0,r1,uR T.length,uR (T.length+1),uI t,some e,r6,r7],T++[.dic (dI F'),.dic (dI L')]):=by
 have g2:(T++[O.dic (dI F),.dic (dI L)])[T.length]?=some (.dic (dI F)):=by rw[ga0];rfl
 have g3:(T++[O.dic (dI F),.dic (dI L)])[T.length+1]?=some (.dic (dI L)):=by rw[ga];rfl
 have hF:(dI F).length<LIM:=by unfold LIM dI;rw[QV];have:=D.n;omega
 have hL:(dI L).length<LIM:=by unfold LIM dI;rw[QV];have:=D.n;omega
 unfold bN;cases he with
 |two w hw x=>
  have cs:w="begin"\/w="done"\/w="fall":=by simpa using hw
  have put:∀{l:List (Int×Int)} {z i:Int},aJ (cQ l x (t:Int)) z=some i->z=x/\i=t\/aJ l z=some i:=fun{l z i} h=>by
   rw[pC]at h;split at h
   ·cases h;exact .inl ⟨‹_›,rfl⟩
   ·exact .inr h
  rcases cs with rfl|h
  ·have z1:decide (("begin":Str)="begin")=true:=by decide
   have f:∀S,fIn false (.str "begin") (.tup [.str "done",.str "fall"]) S=some (.bl false,S):=fun S=>vA (l:=["begin"]) (by decide) false (by decide);refine⟨cQ F x t,L,⟨fun z i h=>?_,fun z i h=>let ⟨j,a,b,c⟩:=D.l z i h;⟨j,a,by omega,c⟩,fun z j hj he=>?_,?_⟩,?_⟩
   ·rcases put h with⟨h1,h2⟩|h
    ·exact⟨t,h2,by omega,by rw[h1];exact hg⟩
    ·obtain⟨j,a,b,c⟩:=D.f z i h;exact⟨j,a,by omega,c⟩
   ·rw[pC];split
    ·rfl
    ·rename_i hz;refine D.a z j ?_ he;by_cases q:j=t
     ·subst q;rw[hg]at he;injection he with he;injection he with he;injection he with _ he;injection he with he _;injection he with he;exact absurd he.symm hz
     ·omega
   ·have:=iT F x (t:Int);have:=D.n;omega
   ·rwa[z1,g2,hF,if_true,nS,f]
  ·have z1:decide (w="begin")=false:=by rcases h with rfl|rfl<;>decide
   have f:∀S,fIn false (.str w) (.tup [.str "done",.str "fall"]) S=some (.bl true,S):=fun S=>vA (l:=["done","fall"]) (by rcases h with rfl|rfl<;>decide) true (by decide);refine⟨F,cQ L x t,⟨fun z i h=>let ⟨j,a,b,c⟩:=D.f z i h;⟨j,a,by omega,c⟩,fun z i h'=>?_,fun z j hj he=>?_,?_⟩,?_⟩
   ·rcases put h' with⟨h1,h2⟩|h'
    ·exact⟨t,h2,by omega,w,by rcases h with rfl|rfl<;>decide,by rw[h1];exact hg⟩
    ·obtain⟨j,a,b,c⟩:=D.l z i h';exact⟨j,a,by omega,c⟩
   ·refine D.a z j ?_ he;by_cases q:j=t
    ·subst q;rw[hg]at he;injection he with he;injection he with he;injection he with he _;injection he with he;rw[he]at h;rcases h with h|h<;>exact absurd h (by decide)
    ·omega
   ·have:=iT L x (t:Int);have:=D.n;omega
   ·rwa[z1,g3,hL,if_true,nS,f]
 |four w hw x b v b0 b1=>
  have cs:w="look"\/w="put":=by simpa using hw
  have z1:decide (w="begin")=false:=by rcases cs with rfl|rfl<;>decide
  have f:∀S,fIn false (.str w) (.tup [.str "done",.str "fall"]) S=some (.bl false,S):=fun S=>vA hw false (by decide);refine⟨F,L,D.more fun z h=>?_,by rwa[z1,f]⟩;rw[hg]at h;injection h with h;injection h with h;injection h with _ h;injection h with _ h;cases h
def oQ:Fn:=fnU 8 2 dk
theorem Io{j:Nat}(h:ev[j]?=some e){i:Nat}(hi:j<i):e∈ev.take i:=by
 rw[List.mem_take_iff_getElem];obtain⟨h1,h2⟩:=Q6.mp h;exact⟨j,by omega,h2⟩
theorem FK(V:Kv K s0 n){F L:List (Int×Int)}(D:TmD K.ev K.ev.length F L)(hb:BeK K y x){i j:Int}(h1:aJ L x=some i)(h2:aJ F y=some j):¬i<j:=fun lt=>by
 obtain⟨i',rfl,_,w,hw,e1⟩:=D.l x i h1;obtain⟨j',rfl,hj,e2⟩:=D.f y j h2;refine V.time hb (e1:=K.ev.take j') (e2:=K.ev.drop j') (List.take_append_drop _ _).symm ?_ ?_
 ·exact xD hw (Io e1 (by omega))
 ·refine xD (w:="begin") (by decide) ?_;obtain⟨g1,g2⟩:=Q6.mp e2;rw[List.drop_eq_getElem_cons hj,g2];exact QZ
theorem Ba(V:Kv K s0 n)(he:∀e∈K.ev,EvN n e)(hl:S[ll]?=some (.lst K.ev))(hn:K.ev.length<=9000)(ho:o.Perm K.ids)(hb:o.Pairwise (BeK K))(hlo:S[lo]?=some (.lst (o.map U.int)))(ho2:o.length<=900):∃G,oQ [.ref ll,.ref lo] S=some (.bl true,S++G):=by
 unfold oQ;rw[Ip];unfold dk;rw[dz (ρ':=[uR ll,uR lo,uR S.length,none,none,none,none,none]) (S':=S++[.dic []]) (by rwa[])];rw[dz (ρ':=[uR ll,uR lo,uR S.length,uR (S.length+1),none,none,none,none]) (S':=S++[.dic [],.dic []]) (by rwa[];simp)];have hi:yC (ah 0) [uR ll,uR lo,uR S.length,uR (S.length+1),none,none,none,none] (S++[.dic [],.dic []])=some (sY K.ev,fun S=>S[ll]?=some (.lst K.ev),S++[.dic [],.dic []]):=by
  have g:(S++[O.dic [],.dic []])[ll]?=some (.lst K.ev):=av hl;have h0:ah 0 [uR ll,uR lo,uR S.length,uR (S.length+1),none,none,none,none] (S++[.dic [],.dic []])=some (.ref ll,S++[.dic [],.dic []]):=by rwa[]
  unfold yC;rw[h0,QX];simp only[D9,g,QX]
 have hen:sY K.ev=(List.range' 0 K.ev.length).map fun i:Nat=>U.tup [.int (i:Int),K.ev.getD i .non]:=by
  unfold sY;refine List.ext_getElem? fun k=>?_;rw[Qu,Qu,List.getElem?_zipIdx];by_cases h:k<K.ev.length
  ·rw[List.getElem?_range' h,Q4 h];simp[h]
  ·rw[ZD (by omega),ZD (by simpa using h)];rfl
 obtain⟨⟨u,ρ1,S1⟩,e1,eo,r4,r5,eρ,F,L,D,eS⟩:=zp (cb:=bN) (gg:=gTp [4,5]) (hen▸hi) (mv (R:=fun s=>s.1=.nx/\∃r4 r5,s.2.1=[uR ll,uR lo,uR S.length,uR (S.length+1),r4,r5,none,none]/\∃F L,TmD K.ev K.ev.length F L/\s.2.2=S++[.dic (dI F),.dic (dI L)])
  (fun xs ρ S'=>∃k r4 r5,k<=K.ev.length/\xs=List.range' k (K.ev.length-k)/\ρ=[uR ll,uR lo,uR S.length,uR (S.length+1),r4,r5,none,none]/\∃F L,TmD K.ev k F L/\S'=S++[.dic (dI F),.dic (dI L)])
  (fun ρ S' ⟨k,r4,r5,hk,hx,h,F,L,D,h2⟩=>⟨by subst h2;exact av hl,rfl,r4,r5,h,F,L,by
   have:=congrArg List.length hx;rw[List.length_nil,List.length_range']at this;rw[show K.ev.length=k by omega];exact D,h2⟩)
  (fun x xs ρ S' ⟨k,r4,r5,hk,hx,h,F,L,D,h2⟩=>⟨by subst h2;exact av hl,by
   subst h h2;have hk':k<K.ev.length:=by
    have:=congrArg List.length hx;rw[QY,List.length_range']at this;omega
   rw[show K.ev.length-k=(K.ev.length-(k+1))+1 by omega,List.range'_succ]at hx;obtain⟨rfl,rfl⟩:=List.cons.inj hx;have hg:K.ev[x]?=some (K.ev.getD x .non):=by rw[QH,Q4 hk'];rfl
   have hm:K.ev.getD x .non∈K.ev:=Zg hg;obtain⟨F',L',D',e'⟩:=DV (T:=S) (r0:=uR ll) (r1:=uR lo) (r6:=none) (r7:=none) D (he _ hm) hg (by omega) [];exact⟨_,rfl,_,e',.inl ⟨rfl,x+1,_,_,by omega,rfl,rfl,F',L',D',rfl⟩⟩⟩) (List.range' 0 K.ev.length) _ _ ⟨0,none,none,Z6 _,rfl,rfl,[],[],⟨(fun x i h=>nomatch h),(fun x i h=>nomatch h),(fun x j h=>by omega),by simp⟩,rfl⟩)
 dsimp only at eo eρ eS;subst eo eρ eS;rw[dz e1];obtain⟨T,hT⟩:∃T,T=S++[O.dic (dI F),.dic (dI L)]:=⟨_,rfl⟩;have g2:T[S.length]?=some (.dic (dI F)):=by rw[hT,ga0];rfl
 have g3:T[S.length+1]?=some (.dic (dI L)):=by rw[hT,ga];rfl
 have go:T[lo]?=some (.lst (o.map U.int)):=by rw[hT];exact av hlo
 rw[<-hT];have hr:bU (ag (cCB kG (ag (ah 1) aG)) aG) [uR ll,uR lo,uR S.length,uR (S.length+1),r4,r5,none,none] T=some ((Qz o.length).map fun i:Nat=>U.int (i:Int),fun _=>True,T):=by
  have:ag (cCB kG (ag (ah 1) aG)) aG [uR ll,uR lo,uR S.length,uR (S.length+1),r4,r5,none,none] T=some ([.int (o.length:Nat)],T):=by rwa[go,QV]
  rw[kB this (by omega) (by omega),Zx,lR]
 have inn:∀(i:Nat) (hi:i<o.length) (r7:Option U) (G:Sto),∃r7' G',cM [uR ll,uR lo,uR S.length,uR (S.length+1),r4,r5,uI i,r7] (T++G)=some (.nx,[uR ll,uR lo,uR S.length,uR (S.length+1),r4,r5,uI i,r7'],T++G'):=by
  intro i hi r7 G;have gG:∀X,(T++X)[lo]?=some (.lst (o.map U.int)):=fun X=>av go;have hc:oY (o.map U.int) (some ((i:Int)+1)) none=(o.drop (i+1)).map U.int:=by
   have hs:HT.sIx (o.map U.int).length 0 (some ((i+1:Nat):Int))=i+1:=by rw[HT.sIx_nat,QV];omega
   unfold oY;rw[show((i:Int)+1)=((i+1:Nat):Int)by omega,hs,HT.sIx_none,QV,List.map_drop];exact List.take_of_length_le (by rw[List.length_drop,QV];omega)
  have es:cSl (ah 1) (some (cOp l7 (ah 6) (cC (.int 1)))) none [uR ll,uR lo,uR S.length,uR (S.length+1),r4,r5,uI i,r7] (T++G)=some (.ref (T++G).length,T++G++[.lst ((o.drop (i+1)).map U.int)]):=by
   have h1:ah 1 [uR ll,uR lo,uR S.length,uR (S.length+1),r4,r5,uI i,r7] (T++G)=some (.ref lo,T++G):=by rwa[]
   unfold cSl;rw[h1,QX];have:qq (some (cOp l7 (ah 6) (cC (.int 1)))) [uR ll,uR lo,uR S.length,uR (S.length+1),r4,r5,uI i,r7] (T++G)=some (some ((i:Int)+1),T++G):=by
    unfold qq;rwa[]
   rw[this,QX];show fSl (.ref lo) (some ((i:Int)+1)) none (T++G)=_;simp only[fSl,gG,hc]
  obtain⟨Z,hZ⟩:∃Z,Z=T++G++[O.lst ((o.drop (i+1)).map U.int)]:=⟨_,rfl⟩;have gz:Z[(T++G).length]?=some (.lst ((o.drop (i+1)).map U.int)):=by rw[hZ,ga0];rfl
  have z2:Z[S.length]?=some (.dic (dI F)):=by rw[hZ];exact av (av g2)
  have z3:Z[S.length+1]?=some (.dic (dI L)):=by rw[hZ];exact av (av g3)
  have zo:Z[lo]?=some (.lst (o.map U.int)):=by rw[hZ];exact av (gG _)
  have hii:iTp (cSl (ah 1) (some (cOp l7 (ah 6) (cC (.int 1)))) none) [uR ll,uR lo,uR S.length,uR (S.length+1),r4,r5,uI i,r7] (T++G)=some ((o.drop (i+1)).map U.int,fun S=>S[(T++G).length]?=some (.lst ((o.drop (i+1)).map U.int)),Z):=p7 (by rw[hZ];exact es) gz;have ey:=CF (xs:=o) (b:=(i:Int)) (by omega) (by omega);rw[Zx]at ey;obtain⟨y,hy⟩:∃y,y=o.getD i 0:=⟨_,rfl⟩;have hyo:o[i]?=some y:=by rw[hy,QH,Q4 hi];rfl
  rw[<-hy]at ey;have hyi:y∈K.ids:=ho.mem_iff.mp (Zg hyo);obtain⟨jf,hjf⟩:∃jf,aJ F y=some jf:=by
   rw[<-V.t.bg]at hyi;obtain⟨w,hw,hm⟩:=pD hyi;rw[QB.mp hw]at hm;obtain⟨j,hj,ej⟩:=Zh.mp hm;exact Qm.mp (D.a y j hj (by rw[Q4 hj,ej]))
  have bef:∀z∈o.drop (i+1),BeK K y z:=fun z hz=>by
   have h1:o=o.take (i+1)++o.drop (i+1):=(List.take_append_drop _ _).symm;rw[h1,List.pairwise_append]at hb;refine hb.2.2 y ?_ z hz;rw[List.mem_take_iff_getElem];obtain⟨q1,q2⟩:=Q6.mp hyo;exact⟨i,by omega,q2⟩
  obtain⟨⟨u,ρ2,S2⟩,e2,eo2,r7',eρ2,eS2⟩:=zp (cb:=cN) (gg:=gNm 7) hii (mv (f:=U.int) (R:=fun s=>s.1=.nx/\∃r7,s.2.1=[uR ll,uR lo,uR S.length,uR (S.length+1),r4,r5,uI i,r7]/\s.2.2=Z)
   (fun xs ρ S'=>(∀z∈xs,BeK K y z)/\∃r7,ρ=[uR ll,uR lo,uR S.length,uR (S.length+1),r4,r5,uI i,r7]/\S'=Z)
   (fun ρ S' ⟨_,r7,h,h2⟩=>⟨by subst h2;exact gz,rfl,r7,h,h2⟩)
   (fun z xs ρ S' ⟨hz,r7,h,h2⟩=>⟨by subst h2;exact gz,by
    subst h h2;refine⟨_,rfl,(.nx,[uR ll,uR lo,uR S.length,uR (S.length+1),r4,r5,uI i,uI z],S'),?_,.inl ⟨rfl,fun x hx=>hz x (QQ _ hx),_,rfl,rfl⟩⟩;unfold cN;cases hv:aJ L z with
    |none=>rwa[z3,fS,hv,Option.map_none,Option.isSome_none,Qs,if_false]
    |some jl=>
     have lt:decide (jl<jf)=false:=decide_eq_false (FK V D (hz z QZ) hv hjf);rwa[z3,z2,zo,fS,hv,hjf,ey,ZV,Zr,Qs,if_false,lt]⟩) (o.drop (i+1)) _ _ ⟨bef,r7,rfl,rfl⟩)
  dsimp only at eo2 eρ2 eS2;subst eo2 eρ2 eS2;exact⟨r7',G++[.lst ((o.drop (i+1)).map U.int)],by rw[<-Qk];exact hZ▸e2⟩
 obtain⟨⟨u,ρ3,S3⟩,e3,eo3,r6',r7',eρ3,G,eS3⟩:=zp (cb:=cM) (gg:=gNm 6) hr (mv (f:=fun i:Nat=>U.int (i:Int)) (R:=fun s=>s.1=.nx/\∃r6 r7,s.2.1=[uR ll,uR lo,uR S.length,uR (S.length+1),r4,r5,r6,r7]/\∃G,s.2.2=T++G)
  (fun xs ρ S'=>(∀i∈xs,i<o.length)/\∃r6 r7,ρ=[uR ll,uR lo,uR S.length,uR (S.length+1),r4,r5,r6,r7]/\∃G,S'=T++G)
  (fun ρ S' ⟨_,r6,r7,h,G,h2⟩=>⟨trivial,rfl,r6,r7,h,G,h2⟩)
  (fun i xs ρ S' ⟨hi,r6,r7,h,G,h2⟩=>⟨trivial,by
   subst h h2;obtain⟨r7',G',e'⟩:=inn i (hi i QZ) r7 G;exact⟨_,rfl,_,e',.inl ⟨rfl,fun x hx=>hi x (QQ _ hx),_,_,rfl,G',rfl⟩⟩⟩) (Qz o.length) _ _ ⟨fun i hi=>ZY.mp hi,none,none,rfl,[],(Qc T).symm⟩)
 dsimp only at eo3 eρ3 eS3;subst eo3 eρ3 eS3;refine⟨[O.dic (dI F),.dic (dI L)]++G,?_⟩;rw[dz e3,hT,<-Qk];rwa[]
end
section
variable{cK cA:Cl}{n:Nat}{pos:Pl->Option Nat}{c:Pl->O}{T S:Sto}{K:Kc}{p:Nat->Nat}{q:Int->Nat->Nat}{ll:Nat}{a b v x y i:Int}{s0:List Int}{e:U}{r0 r1 r2 r3 r4 r5 r7 r8 r9 r10:Option U}{ev pre:List U}{P:List (Int×Int)}{L:List Int}{w:Str}{zO:O}{f:Int->Int}{s:List (Int×Int)×List Int}
def eF(cK cA:Cl)(z:O):Fn:=fnU 1 1 (d9 (mj cA) cK cA z)
theorem jj{j l:Nat}{z:O}(M:Mm pos c T)(R:Kr cK cA j pos c K p q)(hz:T[l]?=some z)(h64:qA K.ids.length (K.ids.map fun a=>dB (K.A a))):eF cK cA z [.ref (p 0)] T=some (.ref T.length,T++[.lst ((bw K).map U.int)]):=by
 have t0:=M.get (R.pk 0 (by decide)) R.c0;have t5:=M.get (R.pk 5 (by decide)) R.c5;have run:∀ids:List Int,(∀a∈ids,a∈K.ids)->w6 (bp cA (mj cA) (cOp fIx (bE cK 5 (ah 1)) (ah 0)) aG) (.ref (p 0)) ids T=some (ids.map fun a=>dB (K.A a),T):=by
  intro ids;induction ids with
  |nil=>intro _;rfl
  |cons a r ih=>
   intro h;have ha:=h a QZ;have v:=je (q:=q) ha;have tr:=M.get (R.pa a ha 0 (by decide)) (R.a0 a ha);have e:=Cj M R ha;have ec:bp cA (mj cA) (cOp fIx (bE cK 5 (ah 1)) (ah 0)) aG [uI a,uR (p 0)] T=some (.tup [.int (dB (K.A a)).1,.int (dB (K.A a)).2],T):=by rwa[t0,t5,v,tr,e]
   unfold w6;rw[ec,QX];simp only[ih fun x hx=>h x (QQ _ hx),QX,QN]
 have kk:∀ids:List Int,mM (ids.map fun a=>((.inl a:Key),U.ref (q a 0)))=some ids:=by
  intro ids;induction ids with
  |nil=>rfl
  |cons a r ih=>show(mM _).map (a::·)=_;rw[ih];rfl
 have ef:bE cK 5 (ah 0) [uR (p 0)] T=some (.ref (p 5),T):=by rwa[t0]
 have es:sf z 0 (bE cK 5 (ah 0)) (bp cA (mj cA) (cOp fIx (bE cK 5 (ah 1)) (ah 0)) aG) [uR (p 0)] T=some (.ref T.length,T++[.lst ((bw K).map U.int)]):=by
  unfold sf;rw[ef,QX];simp only[t5,kk,QX];rw[if_pos ⟨l,hz⟩];simp only[Zv,Option.join_some,QX,run K.ids fun _ h=>h];rw[if_pos h64];rfl
 unfold eF;rw[wt];unfold d9;rwa[es]
theorem By{l:List (Int×Int)}:cQ l b v≠[]:=by
 unfold cQ;split
 ·rename_i h;intro z;rw[List.map_eq_nil_iff]at z;rw[z]at h;cases h
 ·simp
theorem uF:∀(l:List U) (s:List (Int×Int)×List Int),(∀e∈l,EvN n e)->rpE a f l s=some (P,L)->(P≠[]↔s.1≠[]\/∃b v,U.tup [.str "put",.int a,.int b,.int v]∈l)
 |[],s,_,h=>by cases h;simp
 |e::r,s,he,h=>by
  obtain⟨u,h1,h2⟩:=Q0.mp h;have key:u.1≠[]↔s.1≠[]\/∃b v,e=U.tup [.str "put",.int a,.int b,.int v]:=by
   cases he e QZ with
   |two w hw x=>
    rw[dN gJ]at h1;cases h1;simp
   |four w hw x b v _ _=>
    have cs:w="look"\/w="put":=by simpa using hw
    unfold rp1 at h1;dsimp only at h1;by_cases hx:x=a
    ·rw[if_pos hx]at h1;rcases cs with rfl|rfl
     ·rw[if_pos rfl]at h1;have:u.1=s.1:=by
       split at h1
       ·split at h1
        ·cases h1;rfl
        ·cases h1
       ·split at h1
        ·cases h1;rfl
        ·cases h1
      have lp:("look":Str)≠"put":=by decide
      rw[this];simp[lp]
     ·rw[if_neg (by decide),if_pos rfl]at h1;cases h1;exact⟨fun _=>.inr ⟨b,v,by rw[hx]⟩,fun _=>By⟩
    ·rw[if_neg hx]at h1;cases h1;simp[hx]
  rw[uF r u (fun x hx=>he x (QQ _ hx)) h2,key];constructor
  ·rintro((h|⟨b,v,h⟩)|⟨b,v,h⟩)
   ·exact .inl h
   ·exact .inr ⟨b,v,by rw[h];exact QZ⟩
   ·exact .inr ⟨b,v,QQ _ h⟩
  ·rintro(h|⟨b,v,h⟩)
   ·exact .inl (.inl h)
   ·rcases QM.mp h with h|h
    ·exact .inl (.inr ⟨b,v,h.symm⟩)
    ·exact .inr ⟨b,v,h⟩
def pB(a:Int):U->Bool
 |.tup (.str w::.int x::_)=>decide (w="put")&&decide (x=a)
 |_=>false
theorem Ju{x y:U}{r:List U}{ρ:Rho}:Ag (ah 0) none (some (cC (.int 2))) (some (.tup (x::y::r))::ρ) S=some (.tup [x,y],S):=by
 show some (U.tup (oY (x::y::r) none (some 2)),S)=_;have:oY (x::y::r) none (some 2)=[x,y]:=by
  have hs:HT.sIx (x::y::r).length (x::y::r).length (some ((2:Nat):Int))=2:=by rw[HT.sIx_nat,QY,QY];omega
  unfold oY;rw[show(2:Int)=((2:Nat):Int)from rfl,hs,HT.sIx_none];rfl
 rw[this]
theorem zq(hw:w∈evW):iq false (.tup [.str w,.int x]) (.tup [.str "put",.int a]) S=some (.bl (decide (w="put")&&decide (x=a)),S):=by
 have h1:PyData.eqv (.str w) (.str "put")=decide (w="put"):=uy;have h2:PyData.eqv (.int x) (.int a)=decide (x=a):=by
  show(x == a)=_;by_cases z:x=a
  ·subst z;simp
  ·rw[decide_eq_false z];simpa using z
 have:=ik (x:=.tup [.str w,.int x]) (y:=.tup [.str "put",.int a]) (S:=S) (b:=(PyData.tuple [.str w,.int x]).eqv (.tuple [.str "put",.int a])) false (.inl ⟨_,_,.tup (.cons (.str _) (.cons (.int _) .nil)),.tup (.cons (.str _) (.cons (.int _) .nil)),mK (rS hw),mK (rS (by decide)),rfl⟩);rw[if_neg Q9]at this;rw[this];congr 3;show PyData.eqvAll _ _=_;simp only[PyData.eqvAll,h1,h2,Bool.and_true]
theorem yP(he:∀e∈ev,EvN n e)(hl:S[ll]?=some (.lst ev))(hn:ev.length<=9000):Wp (fJ (iTp (ah 6)) (gNm 0) (aK (cOp (iq false) (Ag (ah 0) none (some (cC (.int 2)))) (kN (ag (cC (.str "put")) (ag (cOp fIx (ah 1) (cC (.int 1))) aG))))) (ah 0) 1 [10] [r0,r1,r2,r3,r4,r5,uR ll,r7,r8,r9,some (.tup [.str w,.int a])] S) fun r=>r.1=.ref S.length/\∃G,r.2=S++(.lst (ev.filter (pB a))::G):=by
 refine uh (xs:=ev) (f:=id) (v:=id) (p:=pB a) (S1:=S) (cs:=[some (.tup [.str w,.int a])]) (by rw[List.map_id];exact p7 (by rwa[]) hl) (fun G=>av hl) hn rfl (fun x hx G=>?_) fun G=>⟨rfl,G,by rw[List.map_id]⟩;have t:∃b,aK (cOp (iq false) (Ag (ah 0) none (some (cC (.int 2)))) (kN (ag (cC (.str "put")) (ag (cOp fIx (ah 1) (cC (.int 1))) aG)))) [some x,some (.tup [.str w,.int a])] (S++G)=some (b,S++G)/\b=pB a x:=by
  have ia:atI [U.str w,.int a] 1=some (.int a):=rfl;cases he x hx with
  |two w' hw x'=>
   have e:=zq (S:=S++G) (w:=w') (x:=x') (a:=a) (List.mem_of_elem_eq_true (by simp at hw;rcases hw with rfl|rfl|rfl<;>decide));exact⟨_,by rwa[Ju,ia,e];rfl,rfl⟩
  |four w' hw x' b v _ _=>
   have e:=zq (S:=S++G) (w:=w') (x:=x') (a:=a) (List.mem_of_elem_eq_true (by simp at hw;rcases hw with rfl|rfl<;>decide));exact⟨_,by rwa[Ju,ia,e];rfl,rfl⟩
 obtain⟨b,t1,t2⟩:=t;refine .of t1 ⟨t2,[],by simp,fun _=>.of (r:=(x,S++G++[])) (by rwa[id]) ⟨rfl,[],by simp⟩⟩
def tkC(K:Kc)(l:List U):Nat:=((dnE l).filter fun x=>decide ((K.A x).pu≠[])).length
theorem xH:tkC K (pre++[e])=tkC K pre+tkC K [e]:=by
 unfold tkC dnE;rw[Qp,List.filter_append,Qr]
def tkB(cK cA:Cl)(zO:O)(dM:Fn):CS:=qy oP ja (oO cK cA) jL oQ dM (kZ cK) (eF cK cA zO) (jd cK) (kY cK) cK
theorem xF{dM:Fn}(V:Kv K s0 n)(he:∀e∈K.ev,EvN n e)(hm:e∈K.ev)(hl:S[ll]?=some (.lst K.ev))(hn:K.ev.length<=9000):Wp (tkB cK cA zO dM [r0,r1,r2,r3,r4,r5,uR ll,r7,r8,uI i,some e] S) fun s=>s.1=.nx/\s.2.1=[r0,r1,r2,r3,r4,r5,uR ll,r7,r8,uI (i+tkC K [e]),some e]/\∃G,s.2.2=S++G:=by
 unfold tkB qy;have no:∀w l,e=.tup (.str w::l)->w≠"done"->tkC K [e]=0->Wp ((fg (tF (aK (cOp fEq (cOp fIx (ah 10) (cC (.int 0))) (cC (.str "done")))) (aK (cOp (iq true) (fJ (iTp (ah 6)) (gNm 0) (aK (cOp (iq false) (Ag (ah 0) none (some (cC (.int 2)))) (kN (ag (cC (.str "put")) (ag (cOp fIx (ah 1) (cC (.int 1))) aG))))) (ah 0) 1 [10]) (kQ aG)))) (eI 9 (cOp l7 (ah 9) (cC (.int 1)))) bX) [r0,r1,r2,r3,r4,r5,uR ll,r7,r8,uI i,some e] S) fun s=>s.1=.nx/\s.2.1=[r0,r1,r2,r3,r4,r5,uR ll,r7,r8,uI (i+tkC K [e]),some e]/\∃G,s.2.2=S++G:=fun w l h1 h2 h3=>by
  have z:decide (w="done")=false:=decide_eq_false h2;subst h1;refine .of (r:=(.nx,[r0,r1,r2,r3,r4,r5,uR ll,r7,r8,uI i,some (.tup (.str w::l))],S)) (by rwa[z]) ⟨rfl,?_,[],by simp⟩;rw[h3];simp
 cases he e hm with
 |two w hw x=>
  by_cases hd:w="done"
  ·subst hd;have hx:x∈K.ids:=V.s.evi _ _ [] hm;have tk:tkC K [.tup [.str "done",.int x]]=if (K.A x).pu≠[]then 1 else 0:=by
    unfold tkC;rw[show dnE [.tup [.str "done",.int x]]=[x]from rfl,ZO];by_cases z:(K.A x).pu=[]<;>simp[z]
   have pu:(K.A x).pu≠[]↔K.ev.filter (pB x)≠[]:=by
    rw[uF K.ev _ he (V.s.e x hx)];constructor
    ·rintro(h|⟨b,v,h⟩)
     ·exact absurd rfl h
     ·exact fun z=>by
       have:=ZL.mpr ⟨h,(by simp[pB]:pB x (U.tup [.str "put",.int x,.int b,.int v])=true)⟩;rw[z]at this;cases this
    ·intro h;obtain⟨e,he'⟩:=List.exists_mem_of_ne_nil _ h;obtain⟨h1,h2⟩:=ZL.mp he';cases he e h1 with
     |two w hw y=>
      have:w="put"/\y=x:=by simpa [pB] using h2
      rw[this.1]at hw;exact absurd hw (by decide)
     |four w hw y b v _ _=>
      have:w="put"/\y=x:=by simpa [pB] using h2
      rw[this.1,this.2]at h1;exact .inr ⟨b,v,h1⟩
   have z1:decide (("done":Str)="done")=true:=by decide
   obtain⟨⟨u,S1⟩,e1,rfl,G,rfl⟩:=yP (r0:=r0) (r1:=r1) (r2:=r2) (r3:=r3) (r4:=r4) (r5:=r5) (r7:=r7) (r8:=r8) (r9:=uI i) (w:="done") (a:=x) he hl hn;have nn:=EX true (S:=S++(O.lst (K.ev.filter (pB x))::G)++[.lst []]) (l:=S.length) (l':=(S++(O.lst (K.ev.filter (pB x))::G)).length) (us:=K.ev.filter (pB x)) (av (by rw[ga0];rfl)) (by rw[ga0];rfl);rw[if_pos rfl]at nn;generalize hT:S++(O.lst (K.ev.filter (pB x))::G)=T at e1 nn;have eT:T++[O.lst []]=S++(.lst (K.ev.filter (pB x))::(G++[.lst []])):=by rw[<-hT];simp
   by_cases hp:(K.A x).pu=[]
   ·have:K.ev.filter (pB x)=[]:=Classical.byContradiction fun z=>(pu.mpr z) hp;rw[decide_eq_true this]at nn;refine .of (r:=(.nx,[r0,r1,r2,r3,r4,r5,uR ll,r7,r8,uI i,some (.tup [.str "done",.int x])],T++[.lst []])) (by rwa[z1,e1,nn]) ⟨rfl,?_,_,eT⟩;rw[tk,if_neg (by simpa using hp)];simp
   ·rw[decide_eq_false (pu.mp hp)]at nn;refine .of (r:=(.nx,[r0,r1,r2,r3,r4,r5,uR ll,r7,r8,uI (i+1),some (.tup [.str "done",.int x])],T++[.lst []])) (by rwa[z1,e1,nn]) ⟨rfl,?_,_,eT⟩;rw[tk,if_pos hp];simp
  ·refine no w _ rfl hd ?_;unfold tkC;rw[show dnE [.tup [.str w,.int x]]=[]by simp[dnE,twE,hd]];rfl
 |four w hw x b v _ _=>exact no w _ rfl (by rintro rfl;exact absurd hw (by decide)) rfl
theorem Cy(he:∀e∈ev,EvN n e)(hl:S[ll]?=some (.lst ev))(hn:ev.length<=9000):Wp (fJ (iTp (ah 6)) (gNm 0) (aK (cOp fEq (cOp fIx (ah 0) (cC (.int 0))) (cC (.str "begin")))) (cOp fIx (ah 0) (cC (.int 1))) 1 [] [r0,r1,r2,r3,r4,r5,uR ll,r7,r8,r9,r10] S) fun r=>r.1=.ref S.length/\∃G,r.2=S++(.lst ((bgE ev).map U.int)::G):=by
 have fm:∀l:List U,(∀e∈l,EvN n e)->(l.filter fun e=>match e with|.tup (.str w::_)=>decide (w="begin")|_=>false).map (fun e=>match e with|.tup (_::y::_)=>y|_=>U.non)=(bgE l).map U.int:=fun l=>by
  induction l with
  |nil=>intro _;rfl
  |cons e r ih=>
   intro h;have ih:=ih fun x hx=>h x (QQ _ hx);unfold bgE at ih ⊢;rw[ZO,List.filterMap_cons];cases h e QZ with
   |two w hw x=>
    by_cases z:w="begin"
    ·subst z;rw[show twE ["begin"] (.tup [.str "begin",.int x])=some x from rfl];simp[ih]
    ·rw[show twE ["begin"] (.tup [.str w,.int x])=none by simp[twE,z]];simp[z,ih]
   |four w hw x b v _ _=>
    have z:w≠"begin":=by rintro rfl;exact absurd hw (by decide)
    rw[show twE ["begin"] (.tup [.str w,.int x,.int b,.int v])=none from rfl];simp[z,ih]
 refine uh (xs:=ev) (f:=id) (v:=fun e=>match e with|.tup (_::y::_)=>y|_=>U.non) (p:=fun e=>match e with|.tup (.str w::_)=>decide (w="begin")|_=>false) (S1:=S) (cs:=[]) (by rw[List.map_id];exact p7 (by rwa[]) hl) (fun G=>av hl) hn rfl (fun x hx G=>?_) fun G=>⟨rfl,G,by rw[fm ev he]⟩;cases he x hx with
 |two w hw x=>
  have i0:atI [U.str w,.int x] 0=some (.str w):=rfl;have i1:atI [U.str w,.int x] 1=some (.int x):=rfl;refine .of (r:=(decide (w="begin"),S++G)) (by rwa[id,i0]) ⟨rfl,[],by simp,fun _=>.of (r:=(.int x,S++G++[])) (by rwa[id,i1]) ⟨rfl,[],by simp⟩⟩
 |four w hw x b v _ _=>
  have i0:atI [U.str w,.int x,.int b,.int v] 0=some (.str w):=rfl;have i1:atI [U.str w,.int x,.int b,.int v] 1=some (.int x):=rfl;refine .of (r:=(decide (w="begin"),S++G)) (by rwa[id,i0]) ⟨rfl,[],by simp,fun _=>.of (r:=(.int x,S++G++[])) (by rwa[id,i1]) ⟨rfl,[],by simp⟩⟩
end
section
variable{cK cA:Cl}{n:Nat}{pos:Pl->Option Nat}{c:Pl->O}{T S:Sto}{K:Kc}{p:Nat->Nat}{q:Int->Nat->Nat}{ll lo l:Nat}{a b v x i k:Int}{s0 o ns:List Int}{e:U}{r0 r1 r2 r3 r4 r5 r6 r7 r8 r9 r10:Option U}{ev pre:List U}{dM:Fn}{z zO:O}
def ceB(cK cA:Cl)(zO:O)(dM:Fn):CS:=qw oP ja (oO cK cA) jL oQ dM (kZ cK) (eF cK cA zO) (jd cK) (kY cK) cK
def uz(h:o.Perm ns):bz o=bz ns:=mz ((dW o).trans h) (jy o)
theorem xG(V:Kv K s0 n)(he:∀e∈K.ev,EvN n e)(hl:T[ll]?=some (.lst K.ev))(hn:K.ev.length<=9000):∃r10' G,kR (iTp (ah 6)) (gNm 10) (tkB cK cA zO dM) [r0,r1,r2,r3,r4,r5,uR ll,r7,r8,uI 0,r10] T=some (.nx,[r0,r1,r2,r3,r4,r5,uR ll,r7,r8,uI (tkC K K.ev:Nat),r10'],T++G):=by
 have hi:iTp (ah 6) [r0,r1,r2,r3,r4,r5,uR ll,r7,r8,uI 0,r10] T=some (K.ev.map id,fun S=>S[ll]?=some (.lst K.ev),T):=by rw[List.map_id];exact p7 (by rwa[]) hl
 obtain⟨⟨u,ρ,S'⟩,e1,eo,r10',eρ,G,eS⟩:=zp (cb:=tkB cK cA zO dM) (gg:=gNm 10) hi (mv (f:=id) (R:=fun s=>s.1=.nx/\∃r10,s.2.1=[r0,r1,r2,r3,r4,r5,uR ll,r7,r8,uI (tkC K K.ev:Nat),r10]/\∃G,s.2.2=T++G)
  (fun xs ρ S'=>∃pre,K.ev=pre++xs/\∃r10,ρ=[r0,r1,r2,r3,r4,r5,uR ll,r7,r8,uI (tkC K pre:Nat),r10]/\∃G,S'=T++G)
  (fun ρ S' ⟨pre,e,r10,h,G,h2⟩=>⟨by subst h2;exact av hl,rfl,r10,by rw[Qc]at e;rw[e];exact h,G,h2⟩)
  (fun x xs ρ S' ⟨pre,e,r10,h,G,h2⟩=>⟨by subst h2;exact av hl,by
   subst h h2;have hm:x∈K.ev:=by rw[e];simp
   refine⟨_,rfl,(xF (r0:=r0) (r1:=r1) (r2:=r2) (r3:=r3) (r4:=r4) (r5:=r5) (r7:=r7) (r8:=r8) (i:=(tkC K pre:Nat)) V he hm (av hl) hn).mono fun s ⟨h1,h2,G',h3⟩=>.inl ⟨h1,pre++[x],by rw[e,Qk];rfl,some x,?_,G++G',by rw[h3,Qk]⟩⟩;rw[h2,xH];rfl⟩) K.ev _ _ ⟨[],rfl,r10,rfl,[],(Qc T).symm⟩)
 dsimp only at eo eρ eS;subst eo eρ eS;exact⟨r10',G,e1⟩
theorem Cz(hnK:cK.ns.length=6)(hnA:cA.ns.length=6)(h0:S[0]?=some zO)(k0:0<=k):Wp (ceB cK cA zO dM [some (.kl ns),uI k,r2,r3,r4,r5,r6,r7,r8,r9,r10] S) fun s=>s.1=.nx/\(∃r2 r3 r4 r5 r6 r7 r8 r9 r10,s.2.1=[some (.kl ns),uI k,r2,r3,r4,r5,r6,r7,r8,r9,r10])/\s.2.2[0]?=some zO:=by
 obtain⟨z1,ew⟩:=A6 (S:=S) ns k0;have sl:0<S.length:=(Q6.mp h0).1;have W1:Ws (fe CU (.x 9 0) S.length) (fun _=>zO) (S++[.lst [.int z1]]):=⟨z1,(m0 h0).new (.x 9 0) (.lst [.int z1]) []⟩;obtain⟨⟨u2,S2⟩,e2,n1,w1,s1,eu,n10,n11,w10,w11,l1,⟨z2,M2⟩,_⟩:=vw W1 d5 (fun s p h=>let ⟨_,M⟩:=W1;M.lt h);dsimp only at eu M2;subst eu;have h2:S2[0]?=some zO:=M2.get (s:=.x 0 0) ((bT (by simp)).trans (if_pos rfl)) (aw (by simp));have hw2:=M2.get (s:=.x 9 0) d5 aV;obtain⟨⟨u3,S3⟩,e3,p,K,eu,few,W⟩:=A4 (s0:=s1) (n:=n1.toNat) hnK hnA h2 hw2 n10 rfl (by omega) w10 (by omega) l1 (by omega);dsimp only at eu W;subst eu;obtain⟨pos,c,q,M3,R3⟩:=W.r;have V:=W.v;have be:=W.b.ev;have h3:=W.z;have ho:(bw K).Perm K.ids:=rg;have hb:(bw K).Pairwise (BeK K):=zK V.i.ids;have lo:(bw K).length<=20:=by rw[ho.length_eq];exact few
 have l64:qA K.ids.length (K.ids.map fun a=>dB (K.A a)):=.inl (by omega);have t3:=M3.get (R3.pk 0 (by decide)) R3.c0;have e4:=vK M3 R3;obtain⟨S4,hS4⟩:∃S4,S4=S3++[O.lst K.ev]:=⟨_,rfl⟩;have M4:Mm pos c S4:=by rw[hS4];exact M3.app _
 have t4:=M4.get (R3.pk 0 (by decide)) R3.c0;have g4:S4[S3.length]?=some (.lst K.ev):=by rw[hS4,ga0];rfl
 have e5:=jj (z:=zO) (l:=0) M4 R3 (by rw[hS4];exact av h3) l64;obtain⟨S5,hS5⟩:∃S5,S5=S4++[O.lst ((bw K).map U.int)]:=⟨_,rfl⟩;have M5:Mm pos c S5:=by rw[hS5];exact M4.app _
 have g5:S5[S3.length]?=some (.lst K.ev):=by rw[hS5];exact av g4
 have o5:S5[S4.length]?=some (.lst ((bw K).map U.int)):=by rw[hS5,ga0];rfl
 rw[<-hS4]at e4;rw[<-hS5]at e5;have h5:S5[0]?=some zO:=by rw[hS5,hS4];exact av (av h3)
 generalize hl4:S3.length=l4 at *;generalize hl5:S4.length=l5 at *;have i5:=ky (bw K);have s6:d8 [.ref l5] S5=some (.ref S5.length,S5++[.lst ((bz (bw K)).map U.int)]):=by
  have:(bw K).length<64:=by omega
  simp only[d8,o5,i5,QX,this,if_true]
 obtain⟨S6,hS6⟩:∃S6,S6=S5++[O.lst ((bz (bw K)).map U.int)]:=⟨_,rfl⟩;rw[<-hS6]at s6;have g6:S6[l4]?=some (.lst K.ev):=by rw[hS6];exact av g5
 have z6:S6[S5.length]?=some (.lst ((bz (bw K)).map U.int)):=by rw[hS6,ga0];rfl
 obtain⟨⟨u7,S7⟩,e7,eu,G7,eS7⟩:=Cy (r0:=some (.kl ns)) (r1:=uI k) (r2:=uR S.length) (r3:=some (.tup [.int n1,.int w1])) (r4:=some (.tup (s1.map U.int))) (r5:=uR (p 0)) (r7:=uR l5) (r8:=r8) (r9:=r9) (r10:=r10) W.ev g6 (by omega);dsimp only at eu eS7;subst eu;rw[V.t.bg]at eS7;have g7:S7[S6.length]?=some (.lst (K.ids.map U.int)):=by rw[eS7,ga0];rfl
 have s8:d8 [.ref S6.length] S7=some (.ref S7.length,S7++[.lst ((bz K.ids).map U.int)]):=by
  have:K.ids.length<64:=by omega
  simp only[d8,g7,ky,QX,this,if_true]
 obtain⟨S8,hS8⟩:∃S8,S8=S7++[O.lst ((bz K.ids).map U.int)]:=⟨_,rfl⟩;rw[<-hS8]at s8;have ap8:∃X,S8=S5++X:=⟨_,by rw[hS8,eS7,hS6,Qk,Qk]⟩;have q1:S8[S5.length]?=some (.lst ((bz (bw K)).map U.int)):=by rw[hS8,eS7];exact av (av z6)
 have q2:S8[S7.length]?=some (.lst ((bz K.ids).map U.int)):=by rw[hS8,ga0];rfl
 have ne:=mQ true q1 q2;rw[if_pos rfl,uz ho,decide_eq_true rfl]at ne;obtain⟨X8,hX8⟩:=ap8;have M8:Mm pos c S8:=by rw[hX8];exact M5.app _
 have g8:S8[l4]?=some (.lst K.ev):=by rw[hX8];exact av g5
 have o8:S8[l5]?=some (.lst ((bw K).map U.int)):=by rw[hX8];exact av o5
 have h8:S8[0]?=some zO:=by rw[hX8];exact av h5
 obtain⟨G9,e9⟩:=uC V l1 W.ev g8 (by omega) ho hb o8;obtain⟨S9,hS9⟩:∃S9,S9=S8++G9:=⟨_,rfl⟩;rw[<-hS9]at e9;have g9:S9[l4]?=some (.lst K.ev):=by rw[hS9];exact av g8
 have o9:S9[l5]?=some (.lst ((bw K).map U.int)):=by rw[hS9];exact av o8
 obtain⟨G10,e10⟩:=Ba V W.ev g9 (by omega) ho hb o9 (by omega);obtain⟨S10,hS10⟩:∃S10,S10=S9++G10:=⟨_,rfl⟩;rw[<-hS10]at e10;have g10:S10[l4]?=some (.lst K.ev):=by rw[hS10];exact av g9
 have nn:∀us S,Co (.tup us) .non S=some (.bl false,S):=fun _ _=>rfl;obtain⟨r10',G11,e11⟩:=xG (cK:=cK) (cA:=cA) (zO:=zO) (dM:=dM) (r0:=some (.kl ns)) (r1:=uI k) (r2:=uR S.length) (r3:=some (.tup [.int n1,.int w1])) (r4:=some (.tup (s1.map U.int))) (r5:=uR (p 0)) (r7:=uR l5) (r8:=some (.tup ((bxE K (bw K) s1).map U.int))) (r10:=r10) V W.ev g10 (by omega);obtain⟨S11,hS11⟩:∃S11,S11=S10++G11:=⟨_,rfl⟩;rw[<-hS11]at e11;have M11:Mm pos c S11:=by rw[hS11,hS10,hS9];exact((M8.app _).app _).app _
 have h11:S11[0]?=some zO:=by rw[hS11,hS10,hS9];exact av (av (av h8))
 have t11:=M11.get (R3.pk 0 (by decide)) R3.c0;have ec:=vP M11 R3;have en:=vJ M11 R3;unfold ceB qw;unfold tkB at e11;rw[dz (ρ':=[some (.kl ns),uI k,uR S.length,r3,r4,r5,r6,r7,r8,r9,r10]) (S':=S++[.lst [.int z1]]) (by rwa[ew])];rw[dz (ρ':=[some (.kl ns),uI k,uR S.length,some (.tup [.int n1,.int w1]),some (.tup (s1.map U.int)),r5,r6,r7,r8,r9,r10]) (S':=S2) (by rwa[e2])];rw[dz (ρ':=[some (.kl ns),uI k,uR S.length,some (.tup [.int n1,.int w1]),some (.tup (s1.map U.int)),uR (p 0),r6,r7,r8,r9,r10]) (S':=S3) (by rwa[e3])];rw[dz (ρ':=[some (.kl ns),uI k,uR S.length,some (.tup [.int n1,.int w1]),some (.tup (s1.map U.int)),uR (p 0),uR l4,r7,r8,r9,r10]) (S':=S4) (by rwa[t3,e4])];rw[dz (ρ':=[some (.kl ns),uI k,uR S.length,some (.tup [.int n1,.int w1]),some (.tup (s1.map U.int)),uR (p 0),uR l4,uR l5,r8,r9,r10]) (S':=S5) (by rwa[t4,e5])];rw[dz (ρ':=[some (.kl ns),uI k,uR S.length,some (.tup [.int n1,.int w1]),some (.tup (s1.map U.int)),uR (p 0),uR l4,uR l5,r8,r9,r10]) (S':=S8) (by rwa[s6,e7,s8,ne])];rw[dz (ρ':=[some (.kl ns),uI k,uR S.length,some (.tup [.int n1,.int w1]),some (.tup (s1.map U.int)),uR (p 0),uR l4,uR l5,some (.tup ((bxE K (bw K) s1).map U.int)),r9,r10]) (S':=S9) (by rwa[e9])];rw[dz (ρ':=[some (.kl ns),uI k,uR S.length,some (.tup [.int n1,.int w1]),some (.tup (s1.map U.int)),uR (p 0),uR l4,uR l5,some (.tup ((bxE K (bw K) s1).map U.int)),r9,r10]) (S':=S10) (by rwa[nn,e10])];rw[dz (ρ':=[some (.kl ns),uI k,uR S.length,some (.tup [.int n1,.int w1]),some (.tup (s1.map U.int)),uR (p 0),uR l4,uR l5,some (.tup ((bxE K (bw K) s1).map U.int)),uI 0,r10]) (S':=S10) (by rwa[])];rw[dz e11];by_cases hd:((tkC K K.ev:Nat):Int)=K.tk
 ·have zd:decide (((tkC K K.ev:Nat):Int)=K.tk)=true:=decide_eq_true hd;have all:=V.last l1 ho hb (V.all (by rw[<-hd];rfl));rw[all];have nt:iq true (.tup (K.bx.map U.int)) (.tup (K.bx.map U.int)) S11=some (.bl false,S11):=gE.ne (gE.refl Lay.ints) (by decide);exact .of (r:=(.nx,[some (.kl ns),uI k,uR S.length,some (.tup [.int n1,.int w1]),some (.tup (s1.map U.int)),uR (p 0),uR l4,uR l5,some (.tup (K.bx.map U.int)),uI (tkC K K.ev:Nat),r10'],S11)) (by rwa[t11,ec,en,zd,nt]) ⟨rfl,⟨_,_,_,_,_,_,_,_,_,rfl⟩,h11⟩
 ·have zd:decide (((tkC K K.ev:Nat):Int)=K.tk)=false:=decide_eq_false hd;exact .of (r:=(.nx,[some (.kl ns),uI k,uR S.length,some (.tup [.int n1,.int w1]),some (.tup (s1.map U.int)),uR (p 0),uR l4,uR l5,some (.tup ((bxE K (bw K) s1).map U.int)),uI (tkC K K.ev:Nat),r10'],S11)) (by rwa[t11,ec,zd]) ⟨rfl,⟨_,_,_,_,_,_,_,_,_,rfl⟩,h11⟩
end
section
variable{n m t:Nat}{K:Kc}{p:Nat->Nat}{q:Int->Nat->Nat}{a b v x:Int}{s0:List Int}{k:Kl}{z:O}
theorem oB(h:x≠k.of):(fB K k).2.A x=K.A x:=by
 cases k with
 |bg a=>exact if_neg h
 |lk a b=>
  show(cH K a b).2.A x=_;unfold cH;split
  ·rfl
  ·split
   ·exact if_neg h
   ·exact if_neg h
 |pt a b v=>exact if_neg h
 |tk a=>
  show(bh K a).2.A x=_;unfold bh;split
  ·exact if_neg h
  ·split
   ·exact if_neg h
   ·exact if_neg h
 |wr a=>
  show(bc K a).2.A x=_;unfold bc;split
  ·rfl
  ·dsimp only;split
   ·exact(if_neg h).trans (if_neg h)
   ·exact if_neg h
structure Lg(K:Kc)(s0:List Int)(n t:Nat):Prop where
 v:Kv K s0 n
 b:Kb K (5*t)
 ids:K.ids=rng t
 cl:∀x∈K.ids,(K.A x).op=false
 up:(K.ids.map fun x=>dB (K.A x)).Pairwise fun p q=>ltP q p=false
 ev:∀e∈K.ev,EvN n e
theorem Lg.free(L:Lg K s0 n t):∀b,aJ K.ho b=none:=fun b=>by
 cases z:aJ K.ho b with
 |none=>rfl
 |some x=>
  obtain⟨h1,h2,_⟩:=L.v.s.hld b x z;rw[L.cl x h1]at h2;cases h2
theorem Kv.few(V:Kv K s0 n)(hx:x∈K.ids):ltP (K.tk,1) (dB (K.A x))=false:=by
 have g:=V.s.g x hx;unfold dB ltP;cases z:(K.A x).st with
 |none=>simp only[decide_eq_false_iff_not];omega
 |some s=>have:=V.s.r x hx s z;simp only[decide_eq_false_iff_not];omega
def lgN(K:Kc)(t:Nat):Kc:=(cH (aI K t) t ((t:Int) % 2)).2
def lgP(K:Kc)(t:Nat):Kc:=if (t:Int) % 3=0 then CV (lgN K t) t ((t:Int) % 2) ((t:Int) % 5)else lgN K t
theorem zM(L:Lg K s0 2 t):(t:Int)∉(K.ids)/\((lgN K t).A t)=⟨K.tk,[(t:Int) % 2],[],none,[],true⟩/\(lgN K t).ids=K.ids++[(t:Int)]/\(lgN K t).tk=K.tk/\(lgN K t).ma=K.ma/\(lgN K t).ho=K.ho:=by
 have nt:=(uG L.ids).1;have b0:0<=(t:Int) % 2:=by omega
 obtain⟨m0,m1,_⟩:=L.v.s.now ((t:Int) % 2) b0 (by omega) (L.free _);have at0:(aI K t).A t=a0 K.tk:=if_pos rfl;have hw:xA (aI K t) t ((t:Int) % 2)=false:=by
  unfold xA;have h1:brd (aI K t) t [(t:Int) % 2]=false:=by
   unfold brd;rw[ZH,show aJ (aI K t).ho ((t:Int) % 2)=none from L.free _];simp
  have h2:decide ((aI K t).ma.getD ((t:Int) % 2).toNat 0<=((aI K t).A t).g)=true:=by
   rw[at0];exact decide_eq_true m1
  rw[h1,h2];rfl
 have e:lgN K t=((aI K t).anew t ((t:Int) % 2)).say (.tup [.str "look",.int t,.int ((t:Int) % 2),.int ((aI K t).bx.getD ((t:Int) % 2).toNat 0)]):=by
  unfold lgN cH;rw[at0];show(if xA (aI K t) t ((t:Int) % 2)=true then _ else _:U×Kc).2=_;rw[if_neg (by rw[hw];exact Q9)]
 refine⟨nt,?_,by rw[e];rfl,by rw[e];rfl,by rw[e];rfl,by rw[e];rfl⟩;rw[e];show(if (t:Int)=t then _ else _:Ac)=_;rw[if_pos rfl,at0];have ng:¬K.tk<(aI K t).ma.getD ((t:Int) % 2).toNat 0:=by
  have:(aI K t).ma.getD ((t:Int) % 2).toNat 0<=K.tk:=m1;omega
 show(⟨if K.tk<(aI K t).ma.getD ((t:Int) % 2).toNat 0 then(aI K t).tk else K.tk,jP [] ((t:Int) % 2),[],none,[],true⟩:Ac)=_;rw[if_neg ng];rfl
theorem vF(L:Lg K s0 2 t):((lgP K t).A t)=⟨K.tk,[(t:Int) % 2],if (t:Int) % 3=0 then[((t:Int) % 2,(t:Int) % 5)]else[],none,[],true⟩/\(lgP K t).ids=K.ids++[(t:Int)]/\(lgP K t).tk=K.tk/\(lgP K t).ma=K.ma/\(lgP K t).ho=K.ho:=by
 obtain⟨_,h1,h2,h3,h4,h5⟩:=zM L;unfold lgP;split
 ·refine⟨?_,h2,h3,h4,h5⟩;show(if (t:Int)=t then _ else _:Ac)=_;rw[if_pos rfl,h1];rfl
 ·exact⟨h1,h2,h3,h4,h5⟩
theorem km(L:Lg K s0 2 t):((t:Int) % 3=0->(bh (lgP K t) t).1="taken"/\(bh (lgP K t) t).2.A t=⟨K.tk,[(t:Int) % 2],[((t:Int) % 2,(t:Int) % 5)],some (K.tk+1),[(t:Int) % 2],true⟩)/\((t:Int) % 3≠0->(bh (lgP K t) t).1="done"/\(bh (lgP K t) t).2.A t=⟨K.tk,[(t:Int) % 2],[],none,[],false⟩):=by
 obtain⟨h1,h2,h3,h4,h5⟩:=vF L;obtain⟨m0,m1,_⟩:=L.v.s.now ((t:Int) % 2) (by omega) (by omega) (L.free _);have nb:brd (lgP K t) t [(t:Int) % 2]=false:=by
  unfold brd;rw[h5,ZH,L.free];simp
 constructor
 ·intro h;rw[if_pos h]at h1;have nc:w9 (lgP K t) t=false:=by
   unfold w9;rw[h1,h4,ZH];simp only[List.any_nil,Bool.or_false,decide_eq_false_iff_not];omega
  unfold bh;rw[h1];dsimp only;rw[if_neg (by simp),nc,nb];simp only[QN,ZU,nb,Bool.or_self,Qs,if_false];refine⟨trivial,?_⟩;show(if (t:Int)=t then _ else _:Ac)=_;rw[if_pos rfl,h3,show bz [(t:Int) % 2]=[(t:Int) % 2]from List.perm_singleton.mp (dW _)]
 ·intro h;rw[if_neg h]at h1;unfold bh;rw[h1];dsimp only;rw[if_pos rfl];refine⟨rfl,?_⟩;show(if (t:Int)=t then _ else _:Ac)=_;rw[if_pos rfl,h1]
def lgE(K:Kc)(t:Nat):Kc:=if (t:Int) % 3=0 then(bc (bh (lgP K t) t).2 t).2 else(bh (lgP K t) t).2
theorem rB(L:Lg K s0 2 t):sk K 2 (.bg t)/\sk (aI K t) 2 (.lk t ((t:Int) % 2))/\sk (lgN K t) 2 (.pt t ((t:Int) % 2) ((t:Int) % 5))/\sk (lgP K t) 2 (.tk t)/\((t:Int) % 3=0->sk (bh (lgP K t) t).2 2 (.wr t)):=by
 obtain⟨nt,h1,h2,_⟩:=zM L;obtain⟨p1,p2,_⟩:=vF L;have at0:(aI K t).A t=a0 K.tk:=if_pos rfl;refine⟨nt,⟨⟨QR _ (QB.mpr rfl),by rw[at0];rfl,by rw[at0];rfl⟩,by omega,by omega⟩,⟨⟨by rw[h2];simp,by rw[h1],by rw[h1]⟩,by omega,by omega⟩,⟨by rw[p2];simp,by rw[p1],by rw[p1]⟩,fun h=>?_⟩;obtain⟨_,q1⟩:=(km L).1 h;refine⟨?_,by rw[q1],by rw[q1];rfl⟩;unfold bh;split
 ·show(t:Int)∈(lgP K t).ids;rw[p2];simp
 ·split
  ·show(t:Int)∈(lgP K t).ids;rw[p2];simp
  ·show(t:Int)∈(lgP K t).ids;rw[p2];simp
theorem Lg.next(L:Lg K s0 2 t):Lg (lgE K t) s0 2 (t+1):=by
 obtain⟨c1,c2,c3,c4,c5⟩:=rB L;have at_:∀x,x≠(t:Int)->(lgE K t).A x=K.A x:=fun x hx=>by
  have e1:(lgN K t).A x=K.A x:=(oB (K:=aI K t) (k:=.lk t ((t:Int) % 2)) hx).trans (oB (K:=K) (k:=.bg t) hx);have e2:(lgP K t).A x=K.A x:=by
   unfold lgP;split
   ·exact(oB (K:=lgN K t) (k:=.pt t ((t:Int) % 2) ((t:Int) % 5)) hx).trans e1
   ·exact e1
  have e3:(bh (lgP K t) t).2.A x=K.A x:=(oB (K:=lgP K t) (k:=.tk t) hx).trans e2;unfold lgE;split
  ·exact(oB (K:=(bh (lgP K t) t).2) (k:=.wr t) hx).trans e3
  ·exact e3
 have V2:Kv (lgN K t) s0 2:=(L.v.call c1).call c2;have B2:Kb (lgN K t) (5*t+1+1):=(L.b.call (k:=.bg t)).call (k:=.lk t ((t:Int) % 2));have E2:∀e∈(lgN K t).ev,EvN 2 e:=gN (k:=.lk t ((t:Int) % 2)) (gN (k:=.bg t) L.ev c1) c2;have more:∀{K:Kc} {m m':Nat},m<=m'->Kb K m->Kb K m':=fun h B=>⟨Qb B.ev h,by have:=B.tk;omega,Qb B.ids h⟩;have V3:Kv (lgP K t) s0 2/\Kb (lgP K t) (5*t+3)/\∀e∈(lgP K t).ev,EvN 2 e:=by
  unfold lgP;split
  ·exact⟨V2.call c3,B2.call (k:=.pt t ((t:Int) % 2) ((t:Int) % 5)),gN (k:=.pt t ((t:Int) % 2) ((t:Int) % 5)) E2 c3⟩
  ·exact⟨V2,more (by omega) B2,E2⟩
 have V4:=V3.1.call c4;have B4:=V3.2.1.call (k:=.tk t);have E4:=gN (k:=.tk t) V3.2.2 c4;obtain⟨p1,p2,p3,_⟩:=vF L;have i4:(bh (lgP K t) t).2.ids=K.ids++[(t:Int)]:=by
  rw[<-p2];unfold bh;split
  ·rfl
  ·split<;>rfl
 have fin:Kv (lgE K t) s0 2/\Kb (lgE K t) (5*t+5)/\(∀e∈(lgE K t).ev,EvN 2 e)/\(lgE K t).ids=K.ids++[(t:Int)]/\((lgE K t).A t).op=false/\ltP (dB ((lgE K t).A t)) (K.tk,1)=false:=by
  unfold lgE;split
  ·rename_i h;obtain⟨q0,q1⟩:=(km L).1 h;refine⟨V4.call (c5 h),B4.call (k:=.wr t),gN (k:=.wr t) E4 (c5 h),?_,?_,?_⟩
   ·rw[<-i4];unfold bc;split
    ·rfl
    ·dsimp only;split<;>rfl
   ·unfold bc;rw[q1];dsimp only;rw[if_pos rfl];show(if (t:Int)=t then _ else _:Ac).op=_;rw[if_pos rfl]
   ·have:(bc (bh (lgP K t) t).2 t).2.A t={ (bh (lgP K t) t).2.A t with un:=[],op:=false }:=by
     unfold bc;rw[q1];dsimp only;rw[if_pos rfl];show(if (t:Int)=t then _ else _:Ac)=_;rw[if_pos rfl];show({ (if (t:Int)=t then _ else _:Ac)with op:=false }:Ac)=_;rw[if_pos rfl]
    rw[this,q1];unfold dB ltP;simp only[decide_eq_false_iff_not];omega
  ·rename_i h;obtain⟨q0,q1⟩:=(km L).2 h;refine⟨V4,more (by omega) B4,E4,i4,by rw[q1],?_⟩;rw[q1];unfold dB ltP;simp only[decide_eq_false_iff_not];omega
 obtain⟨f1,f2,f3,f4,f5,f6⟩:=fin;have nt:=c1;have ne:∀x∈K.ids,x≠(t:Int):=fun x hx e=>nt (by rw[<-e];exact hx);refine⟨f1,f2,?_,fun x hx=>?_,?_,f3⟩
 ·rw[f4,L.ids];simp[rng,List.range_succ]
 ·rw[f4]at hx;rcases Qw.mp hx with hx|hx
  ·rw[at_ x (ne x hx)];exact L.cl x hx
  ·rw[QB.mp hx];exact f5
 ·rw[f4,List.map_append,List.pairwise_append];refine⟨?_,List.pairwise_singleton _ _,fun p hp q hq=>?_⟩
  ·rw[show(K.ids.map fun x=>dB ((lgE K t).A x))=K.ids.map fun x=>dB (K.A x)from Ql fun x hx=>by rw[at_ x (ne x hx)]];exact L.up
  ·obtain⟨x,hx,rfl⟩:=Qi.mp hp;rw[QN,ZU]at hq;rw[QB.mp hq,at_ x (ne x hx)];have h1:=Kv.few L.v hx;simp only[ltP,decide_eq_false_iff_not]at h1 f6 ⊢;omega
end
section
variable{cK cA:Cl}{n m j t:Nat}{pos:Pl->Option Nat}{c:Pl->O}{S:Sto}{K:Kc}{p:Nat->Nat}{q:Int->Nat->Nat}{a b v x:Int}{ns:List Int}{k:Kl}{z zO:O}{r1:Option U}
def dM(cK cA:Cl)(zO:O):Fn:=fnU 2 0 (dj jL (iF cK cA) (oS cK cA) (mi cK cA) (kX cK cA) (jb cK cA) (eF cK cA zO) (kZ cK) (kY cK) (fM cK) cK)
def loB(cK cA:Cl)(zO:O):CS:=cL jL (iF cK cA) (oS cK cA) (mi cK cA) (kX cK cA) (jb cK cA) (eF cK cA zO) (kZ cK) (kY cK) (fM cK) cK
structure Lw(cK cA:Cl)(p:Nat->Nat)(zO:O)(t:Nat)(S:Sto):Prop where
 x:∃K pos c q,Mm pos c S/\Kr cK cA 0 pos c K p q/\Lg K [0,0] 2 t/\pos (.x 0 0)=some 0/\c (.x 0 0)=zO
theorem E1(hns:cA.ns.length=6)(L:Lw cK cA p zO t S)(ht:t<200):Wp (loB cK cA zO [uR (p 0),uI t] S) fun s=>s.1=.nx/\s.2.1=[uR (p 0),uI t]/\Lw cK cA p zO (t+1) s.2.2:=by
 obtain⟨K,pos,c,q,M,R,G,hp,hc⟩:=L.x;obtain⟨c1,c2,c3,c4,c5⟩:=rB G;have be:=G.b.ev;have bi:=G.b.ids;have bt:=G.b.tk;have hol:=G.v.i.hol;have k1:=M.get (R.pk 0 (by decide)) R.c0;obtain⟨⟨u1,S1⟩,e1,eu,pos1,cc1,q1,M1,R1,F1⟩:=si hns M R c1 (by omega) (by omega);dsimp only at eu;subst eu;have I1:Ki (aI K t) 2:=G.v.i.begin c1;have B1:=(G.b.call (k:=.bg t));have x1:=B1.ev;have k2:=M1.get (R1.pk 0 (by decide)) R1.c0;have md:∀(m:Int) (S:Sto),0<m->lJ (.int (t:Int)) (.int m) S=some (.int ((t:Int) % m),S):=fun m S h=>tN h;have md2:=fun S=>md 2 S (by decide);have md3:=fun S=>md 3 S (by decide);have md5:=fun S=>md 5 S (by decide);obtain⟨⟨u2,S2⟩,e2,eu2,pos2,cc2,q2,M2,R2,F2⟩:=vB M1 R1 I1.w c2.1.1 c2.1.2.1 c2.1.2.2 c2.2.1 c2.2.2 (by have:(aI K t).ev.length<=5*t+1:=x1;omega);dsimp only at eu2;have I2:Ki (lgN K t) 2:=I1.call c2;have B2:Kb (lgN K t) (5*t+1+1):=B1.call (k:=.lk t ((t:Int) % 2));have x2:=B2.ev;have k3:=M2.get (R2.pk 0 (by decide)) R2.c0;obtain⟨S3,pos3,cc3,q3,M3,R3,F3,e3⟩:∃S3 pos3 cc3 q3,Mm pos3 cc3 S3/\Kr cK cA 0 pos3 cc3 (lgP K t) p q3/\Fm 0 pos2 cc2 pos3 cc3/\fg (aK (cOp fEq (cOp lJ (ah 1) (cC (.int 3))) (cC (.int 0)))) (fH (bp cK (mi cK cA) (ah 0) (ag (ah 1) (ag (cOp lJ (ah 1) (cC (.int 2))) (ag (cOp lJ (ah 1) (cC (.int 5))) aG))))) bX [uR (p 0),uI t] S2=some (.nx,[uR (p 0),uI t],S3):=by
  by_cases h:(t:Int) % 3=0
  ·have zd:decide ((t:Int) % 3=0)=true:=decide_eq_true h;obtain⟨⟨u,S3⟩,e,eu,pos3,cc3,q3,M3,R3,F3⟩:=vI (b:=(t:Int) % 2) (v:=(t:Int) % 5) M2 R2 I2.w c3.1.1 c3.1.2.1 c3.1.2.2 (by have:(lgN K t).ev.length<=5*t+1+1:=x2;exact Qb this (by omega));dsimp only at eu;subst eu;refine⟨S3,pos3,cc3,q3,M3,by unfold lgP;rw[if_pos h];exact R3,F3,?_⟩;rwa[md3,zd,k3,md2,md5,e]
  ·have zd:decide ((t:Int) % 3=0)=false:=decide_eq_false h;refine⟨S2,pos2,cc2,q2,M2,by unfold lgP;rw[if_neg h];exact R2,Fm.refl,?_⟩;rwa[md3,zd]
 have V3:Ki (lgP K t) 2/\Kb (lgP K t) (5*t+3):=by
  unfold lgP;split
  ·exact⟨I2.call c3,B2.call (k:=.pt t ((t:Int) % 2) ((t:Int) % 5))⟩
  ·exact⟨I2,⟨by omega,by have:=B2.tk;omega,by have:=B2.ids;omega⟩⟩
 have x3:=V3.2.ev;have h3:=V3.1.hol;have y3:=V3.2.tk;have k4:=M3.get (R3.pk 0 (by decide)) R3.c0;obtain⟨⟨u4,S4⟩,e4,eu4,pos4,cc4,q4,M4,R4,F4⟩:=rE M3 R3 V3.1.w c4.1 c4.2.1 c4.2.2 (by omega) (by omega);dsimp only at eu4;subst eu4;have I4:Ki (bh (lgP K t) t).2 2:=V3.1.call c4;have B4:Kb (bh (lgP K t) t).2 (5*t+3+1):=V3.2.call (k:=.tk t);have x4:=B4.ev;have pp:pos4 (.x 0 0)=some 0/\cc4 (.x 0 0)=zO:=by
  have f1:=F1 (.x 0 0) fun z=>z;have f2:=F2 (.x 0 0) fun z=>z;have f3:=F3 (.x 0 0) fun z=>z;have f4:=F4 (.x 0 0) fun z=>z;exact⟨f4.1.trans (f3.1.trans (f2.1.trans (f1.1.trans hp))),f4.2.trans (f3.2.trans (f2.2.trans (f1.2.trans hc)))⟩
 unfold loB cL;rw[dz (ρ':=[uR (p 0),uI t]) (S':=S1) (by rwa[k1,e1])];rw[dz (ρ':=[uR (p 0),uI t]) (S':=S2) (by rwa[k2,md2,e2])];rw[dz e3];have N:=G.next;by_cases h:(t:Int) % 3=0
 ·have w1:=(km G).1 h;have zd:decide ((bh (lgP K t) t).1="taken")=true:=decide_eq_true w1.1;obtain⟨h5,h6,h7⟩:=c5 h;have tkn:=I4.tak _ h5 h6 h7;have un:((bh (lgP K t) t).2.A t).un=[(t:Int) % 2]:=by rw[w1.2]
  have st:((bh (lgP K t) t).2.A t).st=some (K.tk+1):=by rw[w1.2]
  have hb:=tkn.sub ((t:Int) % 2) (by rw[un];exact QB.mpr rfl);have k5:=M4.get (R4.pk 0 (by decide)) R4.c0;obtain⟨⟨u5,S5⟩,e5,eu5,pos5,cc5,q5,M5,R5,F5⟩:=qE M4 R4 I4.w h5 h6 st un (by omega) (by omega) (qH hb) (Z6 _) (fun _ d hd=>by rw[tkn.hld d hd];rfl) (by omega);dsimp only at eu5;subst eu5;have f5:=F5 (.x 0 0) fun z=>z;have eE:lgE K t=(bc (bh (lgP K t) t).2 t).2:=by unfold lgE;rw[if_pos h]
  exact .of (r:=(.nx,[uR (p 0),uI t],S5)) (by rwa[k4,e4,zd,k5,e5]) ⟨rfl,rfl,⟨lgE K t,pos5,cc5,q5,M5,by rw[eE];exact R5,N,f5.1.trans pp.1,f5.2.trans pp.2⟩⟩
 ·have w1:=(km G).2 h;have zd:decide ((bh (lgP K t) t).1="taken")=false:=decide_eq_false (by rw[w1.1];decide);have eE:lgE K t=(bh (lgP K t) t).2:=by unfold lgE;rw[if_neg h]
  exact .of (r:=(.nx,[uR (p 0),uI t],S4)) (by rwa[k4,e4,zd]) ⟨rfl,rfl,⟨lgE K t,pos4,cc4,q4,M4,by rw[eE];exact R4,N,pp⟩⟩
theorem yk(up:(K.ids.map fun x=>dB (K.A x)).Pairwise fun p q=>ltP q p=false):bw K=K.ids:=by
 unfold bw k8;rw[vh up,QV];refine List.ext_getElem? fun i=>?_;rw[Qu];by_cases h:i<K.ids.length
 ·rw[List.getElem?_range h,Q4 h,ZV,QH,Q4 h];rfl
 ·rw[ZD (by simpa using h),ZD (by omega)];rfl
theorem B7(hnK:cK.ns.length=6)(hnA:cA.ns.length=6)(h0:S[0]?=some zO):∃S',dM cK cA zO [] S=some (.bl true,S'):=by
 obtain⟨⟨u1,S1⟩,e1,eu,pos1,c1,M1,R1,F1⟩:=zL (cA:=cA) (j:=0) (st:=[0,0]) (x:=.tup [.int 2,.int 5]) hnK (by decide) (m0 h0);dsimp only at eu M1 e1;subst eu;have L0:Lw cK cA (oV S.length) zO 0 S1:=⟨oW [0,0],pos1,c1,_,M1,R1,⟨Kv.new rfl (by decide),Kb.new,rfl,(fun x hx=>nomatch hx),List.Pairwise.nil,(fun x hx=>nomatch hx)⟩,(F1 (.x 0 0) fun z=>z).1.trans (if_pos rfl),(F1 (.x 0 0) fun z=>z).2⟩;have p0:oV S.length 0=S.length:=rfl;have hi:bU (ag (cC (.int 200)) aG) [uR S.length,none] S1=some ((Qz 200).map fun i:Nat=>U.int (i:Int),fun _=>True,S1):=by
  rw[kB (n:=200) (S1:=S1) rfl (by decide) (by decide),show(200:Int).toNat=200 from rfl,lR]
 obtain⟨⟨o,ρ',S3⟩,e3,eo,r1,eρ,W⟩:=zp (cb:=loB cK cA zO) (gg:=gNm 1) hi (mv (f:=fun i:Nat=>U.int (i:Int)) (R:=fun s=>s.1=.nx/\∃r1,s.2.1=[uR S.length,r1]/\Lw cK cA (oV S.length) zO 200 s.2.2)
  (fun xs ρ S'=>∃t,t<=200/\xs=List.range' t (200-t)/\∃r1,ρ=[uR S.length,r1]/\Lw cK cA (oV S.length) zO t S')
  (fun ρ S' ⟨t,ht,hx,r1,h,h2⟩=>⟨trivial,rfl,r1,h,by
   have:=congrArg List.length hx;rw[List.length_nil,List.length_range']at this;rw[show 200=t by omega];exact h2⟩)
  (fun x xs ρ S' ⟨t,ht,hx,r1,h,h2⟩=>⟨trivial,by
   have ht':t<200:=by
    have:=congrArg List.length hx;rw[QY,List.length_range']at this;omega
   rw[show 200-t=(200-(t+1))+1 by omega,List.range'_succ]at hx;obtain⟨rfl,rfl⟩:=List.cons.inj hx;subst h;exact⟨_,rfl,(E1 hnA h2 ht').mono fun s ⟨h1,h3,h4⟩=>.inl ⟨h1,x+1,by omega,rfl,_,h3,h4⟩⟩⟩) (Qz 200) _ _ ⟨0,by omega,(List.range_eq_range' ..),none,rfl,L0⟩)
 dsimp only at eo eρ W;subst eo eρ;obtain⟨K,pos,c,q,M,R,G,hp,hc⟩:=W.x;have V:=G.v;have be:=G.b.ev;have l200:K.ids.length=200:=by rw[G.ids];simp[rng]
 have t3:=M.get (R.pk 0 (by decide)) R.c0;have h3:S3[0]?=some zO:=M.get hp hc;have ok:qA K.ids.length (K.ids.map fun a=>dB (K.A a)):=.inr ⟨l200,G.up⟩;have e4:=jj (z:=zO) (l:=0) M R h3 ok;obtain⟨S4,hS4⟩:∃S4,S4=S3++[O.lst ((bw K).map U.int)]:=⟨_,rfl⟩;rw[<-hS4]at e4;have g4:S4[S3.length]?=some (.lst ((bw K).map U.int)):=by rw[hS4,ga0];rfl
 have er:gO (ag (cC (.int 200)) aG) [uR S.length,r1] S4=some (.ref S4.length,S4++[.lst ((rng 200).map U.int)]):=by
  unfold gO;have:ag (cC (.int 200)) aG [uR S.length,r1] S4=some ([.int 200],S4):=by rwa[]
  rw[this,QX];show(if (0:Int)<=200/\(200:Int)<=1000 then _ else _:Option (U×Sto))=_;rw[if_pos (by decide),show(200:Int).toNat=200 from rfl,lR];unfold rng;rw[Qo];rfl
 obtain⟨S5,hS5⟩:∃S5,S5=S4++[O.lst ((rng 200).map U.int)]:=⟨_,rfl⟩;rw[<-hS5]at er;have eq1:=mQ false (S:=S5) (l:=S3.length) (l':=S4.length) (ns:=bw K) (ms:=rng 200) (by rw[hS5];exact av g4) (by rw[hS5,ga0];rfl);rw[if_neg Q9,yk G.up,G.ids,decide_eq_true rfl]at eq1;have M5:Mm pos c S5:=by rw[hS5,hS4];exact(M.app _).app _
 have t5:=M5.get (R.pk 0 (by decide)) R.c0;have e6:=vK M5 R;obtain⟨S6,hS6⟩:∃S6,S6=S5++[O.lst K.ev]:=⟨_,rfl⟩;rw[<-hS6]at e6;have M6:Mm pos c S6:=by rw[hS6];exact M5.app _
 have t6:=M6.get (R.pk 0 (by decide)) R.c0;have g6:S6[S5.length]?=some (.lst K.ev):=by rw[hS6,ga0];rfl
 have e7:=jj (z:=zO) (l:=0) M6 R (M6.get hp hc) ok;obtain⟨S7,hS7⟩:∃S7,S7=S6++[O.lst ((bw K).map U.int)]:=⟨_,rfl⟩;rw[<-hS7]at e7;have g7:S7[S5.length]?=some (.lst K.ev):=by rw[hS7];exact av g6
 have o7:S7[S6.length]?=some (.lst ((bw K).map U.int)):=by rw[hS7,ga0];rfl
 have ho:(bw K).Perm K.ids:=rg;have hb:(bw K).Pairwise (BeK K):=zK V.i.ids;obtain⟨G8,e8⟩:=uC V rfl G.ev g7 (by omega) ho hb o7;rw[V.last rfl ho hb fun x hx _=>G.cl x hx]at e8;obtain⟨S8,hS8⟩:∃S8,S8=S7++G8:=⟨_,rfl⟩;rw[<-hS8]at e8;have M8:Mm pos c S8:=by rw[hS8,hS7];exact(M6.app _).app _
 have t8:=M8.get (R.pk 0 (by decide)) R.c0;have e9:=vJ M8 R;have eq2:iq false (.tup (K.bx.map U.int)) (.tup (K.bx.map U.int)) S8=some (.bl true,S8):=gE.eq (gE.refl Lay.ints) (by decide);refine⟨S8,?_⟩;have e1':kF cK (fM cK) [.tup [.int 2,.int 5],.tup [.int 0,.int 0]] S=some (.ref S.length,S1):=e1;have e8':jL [.tup [.int 0,.int 0],.ref S5.length,.ref S6.length] S7=some (.tup (K.bx.map U.int),S8):=e8;unfold dM;rw[ID];unfold dj;unfold loB at e3;rw[dz (ρ':=[uR S.length,none]) (S':=S1) (by rwa[e1'])];rw[dz e3];rw[p0]at t3 t5 t6 t8 e4 e6 e7 e9;rwa[t3,e4,er,eq1,t5,e6,t6,e7,e8',t8,e9,eq2]
theorem E3(hnK:cK.ns.length=6)(hnA:cA.ns.length=6)(ns:List Int)(hl:ns.length<=63):∃ρ' S',CB oP ja (oO cK cA) jL oQ (dM cK cA zO) (kZ cK) (eF cK cA zO) (jd cK) (kY cK) cK [some (.kl ns),none,none,none,none,none,none,none,none,none,none] [zO]=some (.rt (.bl true),ρ',S'):=by
 obtain⟨n,hn,n0,n1⟩:∃n:Int,ag (cCB Gh (ag (cC (.int 2)) (ag (cCB Gg (ag (cC (.int 4)) (ag (cCB kG (ag (ah 0) aG)) aG))) aG))) aG [some (.kl ns),none,none,none,none,none,none,none,none,none,none] [zO]=some ([.int n],[zO])/\0<=n/\n<=4:=by
  have h1:∀i j:Int,Gg [.int i,.int j] [zO]=some (.int (if j<i then j else i),[zO]):=fun i j=>rfl;have h2:∀i j:Int,Gh [.int i,.int j] [zO]=some (.int (if j>i then j else i),[zO]):=fun i j=>rfl;refine⟨if (if ((ns.length:Nat):Int)<4 then((ns.length:Nat):Int)else 4)>2 then(if ((ns.length:Nat):Int)<4 then((ns.length:Nat):Int)else 4)else 2,?_,by omega,by omega⟩;have h3:kG [.kl ns] [zO]=some (.int (ns.length:Nat),[zO]):=rfl;rwa[h1,h2,h3]
 have hi:=(kB hn n0 (by omega)).trans (by rw[lR]);obtain⟨⟨o,ρ',S3⟩,e3,eo,eρ,h3⟩:=zp (cb:=ceB cK cA zO (dM cK cA zO)) (gg:=gNm 1) hi (mv (f:=fun i:Nat=>U.int (i:Int)) (R:=fun s=>s.1=.nx/\(∃r1 r2 r3 r4 r5 r6 r7 r8 r9 r10,s.2.1=[some (.kl ns),r1,r2,r3,r4,r5,r6,r7,r8,r9,r10])/\s.2.2[0]?=some zO)
  (fun xs ρ S'=>(∃r1 r2 r3 r4 r5 r6 r7 r8 r9 r10,ρ=[some (.kl ns),r1,r2,r3,r4,r5,r6,r7,r8,r9,r10])/\S'[0]?=some zO)
  (fun ρ S' ⟨h,h2⟩=>⟨trivial,rfl,h,h2⟩)
  (fun x xs ρ S' ⟨⟨r1,r2,r3,r4,r5,r6,r7,r8,r9,r10,h⟩,h2⟩=>⟨trivial,by
   subst h;exact⟨_,rfl,(Cz hnK hnA h2 (by omega)).mono fun s ⟨h1,⟨r2,r3,r4,r5,r6,r7,r8,r9,r10,h3⟩,h4⟩=>.inl ⟨h1,⟨_,r2,r3,r4,r5,r6,r7,r8,r9,r10,h3⟩,h4⟩⟩⟩) (Qz n.toNat) _ _ ⟨⟨none,none,none,none,none,none,none,none,none,none,rfl⟩,rfl⟩)
 obtain⟨r1,r2,r3,r4,r5,r6,r7,r8,r9,r10,eρ⟩:=eρ;dsimp only at eo eρ h3;subst eo eρ;obtain⟨S4,e4⟩:=B7 (cK:=cK) (cA:=cA) hnK hnA h3;unfold CB;unfold ceB at e3;rw[dz e3];exact⟨[some (.kl ns),r1,r2,r3,r4,r5,r6,r7,r8,r9,r10],S4,by rwa[e4]⟩
end
theorem B8{P:Qv}{w:Qe}{K:Q1}{h:Heap}{mg:Str->Option Q2}{st:Z0}{k:Nat}{sp:Sp}{fa:Addr}(d:FW K "law" st)(X:K.In h)(G:h.Ns mainGlobals mg)(hfa:mg "law"=some (.ref fa))(ok:∀fd,Fun K "law" "law" st fa fd->∀base:Heap,wY mg base->jx P w K mg base CX0 k fa fd ["script"] sp)
  (b:∀(kV doc pm:Q2) (an:Option Addr) (cdv ct v:Q2),bindArgs (PySem.W.fnOf "law" "law" (iA st) (cI st) (aq st) .none kV doc pm an cdv ct) ⟨[v],[]⟩=pure [(("script":Str),v)]:=by intros;rfl) :
  ∃fd:ZN,(∀(s:Q3) (v:Q2),BindsTo s fd ⟨[v],[]⟩ [("script",v)])/\∀base:Heap,K.In base->base.Ns mainGlobals mg->wY mg base->jx P w K mg base CX0 k fa fd ["script"] sp:=by
 obtain⟨f,a,fd,F⟩:=d;cases hfa.symm.trans (PySem.W.mg_of X G a);refine⟨fd,fun s v=>?_,fun base _ _ bm=>ok fd F base bm⟩;obtain⟨oc,od,kV,doc,pm,an,cdv,ct,osl,rfl,lk,hcd⟩:=F.ex;exact .of_eq (b kV doc pm an cdv ct v)
theorem FL{l:PySem.W.OpenLaw}{w:Qe}{K:Q1}{h:Heap}{mg:Str->Option Q2}{fa:Addr}(X:K.In h)(G:h.Ns mainGlobals mg)(hfa:mg "law"=some (.ref fa))
  {CAttempt:Addr}
  {CKeeper:Addr}
  (ds:FV K [("_law_well",hR),("_law_sip",jh),("_law_world",fY),("_law_step",hU),("_law_wild",hJ),("_law_sees",hV),("_law_keeps_time",de),("_law_long_right",dc),("law",Bn)])
  (cl_Attempt:C3 K "Attempt" CAttempt ["glance","looked","puts","stamp","unwritten","is_open"] [("__init__","Attempt.__init__",eW),("instant","Attempt.instant",dg)])
  (cl_Keeper:C3 K "Keeper" CKeeper ["boxes","marks","holders","ticks","events","known"] [("__init__","Keeper.__init__",fA),("end","Keeper.end",gb),("found","Keeper.found",eR),("untaken","Keeper.untaken",dC),("is_barred","Keeper.is_barred",cU),("has_changed","Keeper.has_changed",cf),("would_fall","Keeper.would_fall",cD),("look_anew","Keeper.look_anew",cT),("begin","Keeper.begin",eV),("look","Keeper.look",fz),("put","Keeper.put",fZ),("take","Keeper.take",fu),("write","Keeper.write",eP),("log","Keeper.log",f9),("order","Keeper.order",eQ),("now","Keeper.now",f7),("clock","Keeper.clock",eU)])
  (zs:Gn K Jv)
  {cO pO:Addr} (cod:CP K CKeeper "order" cO pO) :
  ∃fd:ZN,(∀(s:Q3) (v:Q2),BindsTo s fd ⟨[v],[]⟩ [("script",v)])/\∀base:Heap,K.In base->base.Ns mainGlobals mg->wY mg base->jx l.prog w K mg base CX0 7 fa fd ["script"] (qQ pO K):=by
 obtain⟨d__law_well,d__law_sip,d__law_world,d__law_step,d__law_wild,d__law_sees,d__law_keeps_time,d__law_long_right,d_law,-⟩:=ds;obtain⟨m_Attempt_init,m_Attempt_instant,-⟩:=cl_Attempt.ms;have TAttempt:=cl_Attempt.tc;obtain⟨m_Keeper_init,m_Keeper_end,m_Keeper_found,m_Keeper_untaken,m_Keeper_is_barred,m_Keeper_has_changed,m_Keeper_would_fall,m_Keeper_look_anew,m_Keeper_begin,m_Keeper_look,m_Keeper_put,m_Keeper_take,m_Keeper_write,m_Keeper_log,m_Keeper_order,m_Keeper_now,m_Keeper_clock,-⟩:=cl_Keeper.ms;have TKeeper:=cl_Keeper.tc;have B:=zs.blt X G;refine B8 d_law X G hfa fun fd F_law base bm=>?_;have M_Attempt_init:=lH (P:=l.prog) (w:=w) (base:=base) (k:=0) (cl_Attempt.mkd m_Attempt_init X G) B TAttempt;have M_Attempt_instant:=jo (P:=l.prog) (w:=w) (base:=base) (k:=0) (m_Attempt_instant.mt) B TAttempt;have M_Keeper_init:=mV (P:=l.prog) (w:=w) (base:=base) (k:=0) (cl_Keeper.mkd m_Keeper_init X G) B TKeeper;have M_Keeper_end:=oh (P:=l.prog) (w:=w) (base:=base) (k:=0) (m_Keeper_end.mt) B TKeeper TAttempt;have M_Keeper_found:=lE (P:=l.prog) (w:=w) (base:=base) (k:=0) (m_Keeper_found.mt) B TKeeper TAttempt;have M_Keeper_untaken:=jN (P:=l.prog) (w:=w) (base:=base) (k:=1) (m_Keeper_untaken.mt) B TKeeper TAttempt M_Keeper_found;have M_Keeper_is_barred:=iY (P:=l.prog) (w:=w) (base:=base) (k:=0) (m_Keeper_is_barred.mt) B TKeeper;have M_Keeper_has_changed:=gQ (P:=l.prog) (w:=w) (base:=base) (k:=0) (m_Keeper_has_changed.mt) B TKeeper TAttempt;have M_Keeper_would_fall:=ie (P:=l.prog) (w:=w) (base:=base) (k:=1) (m_Keeper_would_fall.mt) B TKeeper TAttempt M_Keeper_is_barred M_Keeper_has_changed;have M_Keeper_look_anew:=iX (P:=l.prog) (w:=w) (base:=base) (k:=0) (m_Keeper_look_anew.mt) B TKeeper TAttempt;have M_Keeper_begin:=lG (P:=l.prog) (w:=w) (base:=base) (k:=1) (m_Keeper_begin.mt) B TKeeper TAttempt M_Attempt_init;have M_Keeper_look:=mU (P:=l.prog) (w:=w) (base:=base) (k:=2) (m_Keeper_look.mt) B TKeeper TAttempt M_Keeper_untaken M_Keeper_would_fall (M_Keeper_end.mono (by decide)) (M_Keeper_look_anew.mono (by decide));have M_Keeper_put:=oa (P:=l.prog) (w:=w) (base:=base) (k:=2) (m_Keeper_put.mt) B TKeeper TAttempt M_Keeper_untaken;have M_Keeper_take:=mS (P:=l.prog) (w:=w) (base:=base) (k:=2) (m_Keeper_take.mt) B TKeeper TAttempt M_Keeper_untaken (M_Keeper_end.mono (by decide)) (M_Keeper_is_barred.mono (by decide)) (M_Keeper_has_changed.mono (by decide));have M_Keeper_write:=lC (P:=l.prog) (w:=w) (base:=base) (k:=1) (m_Keeper_write.mt) B TKeeper TAttempt M_Keeper_found M_Keeper_end;have M_Keeper_log:=og (P:=l.prog) (w:=w) (base:=base) (k:=0) (m_Keeper_log.mt) B TKeeper;have M_Keeper_order:=lD (P:=l.prog) (w:=w) (base:=base) (k:=1) (m_Keeper_order.mt) cod bm B TKeeper TAttempt M_Attempt_instant;have M_Keeper_now:=oe (P:=l.prog) (w:=w) (base:=base) (k:=0) (m_Keeper_now.mt) B TKeeper;have M_Keeper_clock:=lF (P:=l.prog) (w:=w) (base:=base) (k:=0) (m_Keeper_clock.mt) B TKeeper;have iH:=qb (P:=l.prog) (w:=w) (base:=base) (k:=0) (d__law_well.df X G) B;have bb:=sU (P:=l.prog) (w:=w) (base:=base) (k:=0) (d__law_sip.df X G) B;have gI:=n9 (P:=l.prog) (w:=w) (base:=base) (k:=1) (d__law_world.df X G) B bb;have iI:=qc (P:=l.prog) (w:=w) (base:=base) (k:=3) (d__law_step.df X G) B TKeeper (Has.mono bb (by decide)) (M_Keeper_write.mono (by decide)) M_Keeper_look M_Keeper_put M_Keeper_take;have iG:=p8 (P:=l.prog) (w:=w) (base:=base) (k:=3) (d__law_wild.df X G) B TKeeper (Has.mono bb (by decide)) iI (M_Keeper_begin.mono (by decide)) (M_Keeper_init.mono (by decide));have dq:=qd (P:=l.prog) (w:=w) (base:=base) (k:=0) (d__law_sees.df X G) B;have du:=jn (P:=l.prog) (w:=w) (base:=base) (k:=0) (d__law_keeps_time.df X G) B;have dr:=jm (P:=l.prog) (w:=w) (base:=base) (k:=4) (d__law_long_right.df X G) B TKeeper (Has.mono dq (by decide)) (M_Keeper_begin.mono (by decide)) (M_Keeper_look.mono (by decide)) (M_Keeper_put.mono (by decide)) (M_Keeper_take.mono (by decide)) (M_Keeper_write.mono (by decide)) M_Keeper_order (M_Keeper_log.mono (by decide)) (M_Keeper_now.mono (by decide)) (M_Keeper_init.mono (by decide));exact Im (P:=l.prog) (w:=w) (base:=base) (k:=6) F_law B TKeeper (Has.mono iH (by decide)) (Has.mono gI (by decide)) (Has.mono iG (by decide)) (Has.mono dq (by decide)) (Has.mono du (by decide)) dr (M_Keeper_log.mono (by decide)) (M_Keeper_order.mono (by decide)) (M_Keeper_clock.mono (by decide)) (M_Keeper_now.mono (by decide)) fun ns hl=>E3 (cK:=⟨CKeeper,_⟩) (cA:=⟨CAttempt,_⟩) rfl rfl ns hl
theorem JM{l:PySem.W.OpenLaw}{q:Qv}{bZ:List Str}{XP:(Str->Option Q2)->Heap->Prop}{YP:Qe->Heap->Prop}{d:DefRec}{K:Params->Q1}(p:Addr)(hn:l.most=some 63)(hdf:d.params.defaults=[])
  (hY:∀(w:Qe) (h:Heap),YP w h->(K w.params).In h/\h.get? p=some (PySem.W.tabObj #[])) (hK:∀w:Qe,(K w.params).lookup p=none) (hC:∀w:Qe,∃c,PySem.W.codeHdIn (K w.params) c p=true)
  (F:∀(w:Qe) (mg:Str->Option Q2) (fa:Addr) (h:Heap),(K w.params).In h->h.Ns mainGlobals mg->mg d.name=some (.ref fa)->
   ∃fd:ZN,(∀(s:Q3) (u:Q2),BindsTo s fd ⟨[u],[]⟩ [("script",u)])/\∀base:Heap,(K w.params).In base->base.Ns mainGlobals mg->wY mg base->jx l.prog w (K w.params) mg base CX0 7 fa fd ["script"] (qQ p (K w.params))) :
  PySem.W.WalkO q bZ XP YP l.row.toRowW d [] (fun f vs=>PySem.call f vs):=
 L2.xB (n:=63) (k:=7) (x:="script") (p:=p) (sp:=fun w=>qQ p (K w.params)) hn (by decide) hdf ⟨rfl,by decide,by decide,rfl⟩ hY hK hC F (fun _ _ a ns hl hO hS=>⟨a,ns,rfl,E5 hO hS,hl,hO.1,fun _=>rfl⟩)
end OL
namespace PySem.W.Fast
def tw1997952041644746359:=0
def tw3839993832324876757:=0
def tw6043284958078458540:=0
def tw16319809502318754134:=0
def tw15950148931976913455:=0
def tw17630230190985348005:=0
def tw4664330088939002450:=0
def tw11107694015167870478:=0
def tw9109295922256118373:=0
def tw8590422373530854612:=0
def tw17658338667962171527:=0
def tw10083868738071562735:=0
def tw5521774454142571063:=0
def tw6751111194069149476:=0
def tw5358417391020683980:=0
def tw2079963207952713255:=0
def tw13599396126019158897:=0
def tw17781096954999106457:=0
def tw7673692421939063427:=0
def tw12495855269332696500:=0
def tw12756437362834028332:=0
def tw3111948760718761091:=0
def tw3972248117701515011:=0
def tw1472551860085426966:=0
def tw2955193363333572745:=0
def tw15046622582570314929:=0
def tw13734399450013794969:=0
def tw867411171096687223:=0
def tw8380554503761553502:=0
def tw12170290800222555699:=0
def tw13521493990073125800:=0
def tw17552750994978186449:=0
def tw11410455132695221599:=0
def tw15918667941870911101:=0
def tw6993380767243484401:=0
def tw16257389961037602065:=0
def tw13692113113086314763:=0
def tw12019126672792058900:=0
def tw292944889014121394:=0
def tw6185083877315309994:=0
def tw7507913637736527982:=0
def tw17236149840134548200:=0
def tw10779694569257888593:=0
def tw18152879485140643412:=0
def tw13477515969984524752:=0
def tw10850144801535988012:=0
def tw12187240531531311595:=0
def tw18375382866014385954:=0
def tw13043939965352689629:=0
def tw3797833586103102581:=0
def tw13264300093941219254:=0
def tw8600317606363543225:=0
def tw13472825780198006457:=0
def tw4991021712533209015:=0
def tw327401073067006203:=0
def tw10530195045617456969:=0
def tw7391610712927836334:=0
def tw10777973063276316829:=0
def tw4579658394041009446:=0
def tw113340678322635204:=0
def tw18227888870031218275:=0
def tw4718427647754840904:=0
def tw6482346569469097041:=0
def tw12326318718706920637:=0
def tw9289214685705294585:=0
def tw2652822883247446495:=0
def tw10841308183984995950:=0
def tw12060829945943073337:=0
def tw15578177623072630034:=0
def tw1007505644625008472:=0
def tw125554674372605676:=0
def tw9076898133508101230:=0
def tw16652984514330592252:=0
def tw13836647880921679521:=0
def tw14269388069529173383:=0
def tw11704616285249675965:=0
def tw6047752907292818937:=0
def tw1609114357330058984:=0
def tw17347722212611165888:=0
def tw1291035851859719465:=0
def tw13881322105964357944:=0
def tw3042492916956411328:=0
def tw15599827590940322231:=0
def tw5693228321368853057:=0
def tw4877841192581118:=0
def tw3873260497641481120:=0
def tw8674881856520083062:=0
def tw10751399791585066760:=0
def tw2454787694325609404:=0
def tw4433892413690058066:=0
def tw53666198835841076:=0
def tw4976015012102790439:=0
def tw1231841736336145276:=0
def tw15309263321273547453:=0
def tw2104569174551824879:=0
def tw13696191314293060122:=0
def tw9476721772817705631:=0
def tw9932118941088989687:=0
def tw5838683492810181593:=0
def tw15927467636903156014:=0
def tw5967664290053124378:=0
def tw15804810978273383577:=0
def tw880271032120627620:=0
def tw14146382314977045231:=0
def tw14771089979034079901:=0
def tw14144810949418189472:=0
def tw5624746320245210840:=0
def tw13786523264124850033:=0
def tw18059417826158090290:=0
def tw9509824811041900886:=0
def tw1880595361408811731:=0
def tw8962833896539955959:=0
def tw10655075850512246269:=0
def tw7157481379855543517:=0
def tw13977576779843294776:=0
def tw17752641094383782589:=0
def tw18140021971721578666:=0
def tw13936234949382169923:=0
def tw3745838270265149491:=0
def tw13975810320257474570:=0
def tw15070429684492662712:=0
def tw16580849043451207395:=0
def tw17889613613557946823:=0
def tw14909491435331424470:=0
def tw16428866571410024593:=0
def tw8780568547456403601:=0
def tw13994895609748712767:=0
def tw6205946046230333732:=0
def tw17576124160914573009:=0
def tw14304754795683216677:=0
def tw14738409053089146232:=0
def tw11422885763426593736:=0
def tw15324672150392867484:=0
def tw16959887055031448721:=0
def tw17739084793414454233:=0
def tw12795590639979144915:=0
def tw395931991184635659:=0
def tw6009184142496168195:=0
def tw2667945668901549580:=0
def tw12224726126237662492:=0
def tw12336758596772524278:=0
def tw14115116519065073906:=0
def tw18079276124628684351:=0
def tw6299530222027349053:=0
def tw15445313882311348995:=0
def tw5836370583591657041:=0
def tw4402881458127471416:=0
def tw5880194813694101993:=0
def tw4159111031904810292:=0
def tw15160988441405501765:=0
def tw16122753869065669642:=0
def tw2725847387281670477:=0
def tw16059091155994129456:=0
def tw3641353122772863195:=0
def tw7124176259379552806:=0
def tw5511283305472014034:=0
def tw15208205019676312551:=0
def tw4238030954149249376:=0
def tw4177294166172358923:=0
def tw12311329909228313337:=0
def tw6101566699004193091:=0
def tw14010165334630187063:=0
def tw13350611129881634279:=0
def tw1127715259665940865:=0
def tw5290866848698714236:=0
def tw3376551070410620273:=0
def tw17078357508013797821:=0
def tw7928367247295639246:=0
def tw1918286869233746346:=0
def tw15544444490601483431:=0
def tw6017611109124149659:=0
def tw15485283138076356203:=0
def tw4971580676395039979:=0
def tw17433480501445116958:=0
def tw1298540894548488881:=0
def tw5774909205972517986:=0
def tw2965060818046078779:=0
def tw12408319293065956504:=0
def tw16351651928979395420:=0
def tw10442866734631107057:=0
def tw8106793048313302411:=0
def tw15936465061970957188:=0
def tw16436805821952499680:=0
def tw4575431643352404736:=0
def tw11701556165557034188:=0
def tw4672153954113103414:=0
def tw15907947190350632252:=0
def tw16028997581609540303:=0
def tw5304091075290200904:=0
def tw17885512837057840961:=0
def tw10222143784696278593:=0
def tw3011735005984541689:=0
def tw15200920987235218356:=0
def tw10395161003574850874:=0
def tw9620220015429151994:=0
def tw11005112859879989994:=0
def tw17074776186354727754:=0
def tw5980250850991161644:=0
def tw4442049206649863869:=0
def tw7955593821966934466:=0
def tw8085223253041468462:=0
end PySem.W.Fast
open PySem PySem.W PyProof.Rows
open OP in
set_option maxRecDepth 100000 in
set_option maxHeartbeats 0 in
theorem PySem.Challenge.cw_oneglance_k35_moments_of_many_attempts_holds : PySem.Challenge.rw_oneglance_k35_moments_of_many_attempts.Holds := by
 w_on; o_law; k_head; (case hw => w_witness2)
 k_fill
 refine OL.JM (l := PySem.Challenge.rw_oneglance_k35_moments_of_many_attempts) 203 rfl rfl (fun w h Y => ⟨PySem.W.km_in_of Y, PySem.W.km_tabs_of Y 203 (by simp)⟩) (fun w => by kernel_rfl) (fun w => ⟨207, by kernel_rfl⟩) ?F;case F =>
  intro w mg fa h KX G hmg;refine' OL.FL KX G hmg ?ds ?cl_Attempt ?cl_Keeper ?zs ?cod
  (case ds => (repeat (refine' ⟨JX ?a ?l ?c ?k, ?_⟩; (case a => k_is); (case l => k_is); (case c => k_is); (case k => k_is))); exact trivial)
  (case cl_Attempt => (refine' ⟨?a, ?b, ?c, ?d, ?e, ?f, ?g, ?n, ?m⟩; (case a => k_is); (case b => k_is); (case c => k_is); (case d => k_is); (case e => k_is); (case f => k_is); (case g => k_is); (case n => (repeat (refine' ⟨?a, ?_⟩; (case a => k_is))); exact trivial); (case m => (repeat (refine' ⟨Jd ?a ?i ?l ?c ?k, ?_⟩; (case a => k_is); (case i => k_is); (case l => k_is); (case c => k_is); (case k => k_is))); exact trivial)))
  (case cl_Keeper => (refine' ⟨?a, ?b, ?c, ?d, ?e, ?f, ?g, ?n, ?m⟩; (case a => k_is); (case b => k_is); (case c => k_is); (case d => k_is); (case e => k_is); (case f => k_is); (case g => k_is); (case n => (repeat (refine' ⟨?a, ?_⟩; (case a => k_is))); exact trivial); (case m => (repeat (refine' ⟨Jd ?a ?i ?l ?c ?k, ?_⟩; (case a => k_is); (case i => k_is); (case l => k_is); (case c => k_is); (case k => k_is))); exact trivial)))
  (case zs => (repeat (refine' ⟨?a, ?_⟩; (case a => k_is))); exact trivial)
  (case cod => exact ⟨_, _, _, by k_is, by k_is, rfl, rfl, by kernel_rfl⟩)
