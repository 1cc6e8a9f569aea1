import PyProof.Rows.All
import Wide.All
import OpenK.AllK
import Wide.FinOn
import Lean
import PyProof.EqAt
import PyProof.EqKinds
import PyProof.TupleCall
import PySem.Challenge.RW_oneglance_k61_texts_judged
local macro_rules|`(tactic|trivial)=>`(tactic|exact Or.inl rfl)
local macro_rules|`(tactic|trivial)=>`(tactic|exact Or.inr rfl)
set_option maxHeartbeats 4000000
set_option Elab.async false
set_option linter.all false
set_option maxRecDepth 100000
noncomputable section
open Option renaming bind_eq_some_iff→Q0, bind_some→Q3, map_eq_some_iff→ZV
open PySem.W renaming Frag→Q1
open PySem renaming Value→Q2, wpAny_bind→Q4, starEach→Q7, Shared→Q8, Expr→QK, sizeLine→QB, wpAny_pure→QC, Program→QL, model→Qq, World→Qu, Stmt→Qg, Around→Qe, backTo→Qa, bootBuiltins→Qn, wpAny_mono→Z6, FuncData→Z8, swapsWith→Z9, wpAny_field→ZZ
open List renaming length_cons→Q5, getElem?_eq_some_iff→Q6, replicate→Q9, append_assoc→QQ, mem_cons_of_mem→QZ, length_append→QJ, length_map→QV, mem_cons_self→QY, size_toArray→QH, map_cons→QF, getElem?_set_ne→QM, append_nil→QN, mem_cons→Qz, getElem?_append_left→Qx, cons_append→Qj, getElem?_eq_getElem→Qr, getElem?_append_right→Qb, cons_ne_nil→Qh, map_nil→Qc, map_append→Qm, mem_append_right→Qp, mem_append→Qt, nil_append→Qi, not_mem_nil→Qo, replicate_succ→Qs, getElem?_map→Z0, length_nil→Z7, getElem?_replicate→ZX, find?_cons→ZJ, getElem?_set_self→ZK, mem_of_getElem?→ZU, getElem?_set→ZG, flatten_cons→ZH, map_eq_nil_iff→ZD, any_cons→ZN, length_replicate→ZP, getElem?_eq_none→ZT, getD_eq_getElem?_getD→ZL
open PySem.Heap renaming get?_push_of_some→QX, lt_size→QD, get?_push_size→Qy, get?_update_other→Ql, get?_update_self→ZR
open Bool renaming false_ne_true→QR, and_eq_true→ZQ
open Nat renaming le_refl→QU, lt_of_lt_of_le→Qv, le_trans→Qk, ne_of_lt→Qw, le_of_ble_eq_true→Qd, lt_irrefl→ZE, zero_le→ZF, lt_of_le_of_lt→ZC
open Array renaming getElem?_eq_some_iff→ZY
namespace L2
open PySem PySem.Spec PyProof.Rows
abbrev Key:=Sum Int Str
def wJ:Key->Q2->Bool
 |.inl k,v=>Value.isInt k v
 |.inr x,v=>Value.isStrOf x v
def Pb(w:Qu):Key->Int
 |.inl k=>hashInt k
 |.inr x=>hashStr w x
theorem cU:∀{k:Key} {v:Q2},wJ k v=true->(∃i t,k=Sum.inl i/\v=Value.int i t)\/(∃x t,k=Sum.inr x/\v=Value.str x t)
 |.inl i,v,h=>by
  obtain⟨t,e⟩:=Value.isInt_shape (k:=i) (v:=v) h;exact .inl ⟨i,t,rfl,e⟩
 |.inr x,v,h=>by
  obtain⟨t,e⟩:=Value.isStrOf_shape (x:=x) (v:=v) h;exact .inr ⟨x,t,rfl,e⟩
def yV(i:Int)(t:Tok):wJ (.inl i) (.int i t)=true:=by simp[wJ,Value.isInt]
def yU(x:Str)(t:Tok):wJ (.inr x) (.str x t)=true:=by simp[wJ,Value.isStrOf]
theorem JS(a b:Int):decide ((Sum.inl a:Key)=Sum.inl b)=(a == b):=by
 by_cases e:a=b
 ·subst e;simp
 ·have h:¬(Sum.inl a:Key)=Sum.inl b:=fun q=>e (Sum.inl.inj q);rw[decide_eq_false h];exact(beq_eq_false_iff_ne.mpr e).symm
theorem JP(a b:Str):decide ((Sum.inr a:Key)=Sum.inr b)=decide (a=b):=by
 by_cases e:a=b
 ·subst e;simp
 ·have h:¬(Sum.inr a:Key)=Sum.inr b:=fun q=>e (Sum.inr.inj q);rw[decide_eq_false h,decide_eq_false e]
def JR(a:Int)(b:Str):decide ((Sum.inl a:Key)=Sum.inr b)=false:=decide_eq_false (fun q=>nomatch q)
def JQ(a:Str)(b:Int):decide ((Sum.inr a:Key)=Sum.inl b)=false:=decide_eq_false (fun q=>nomatch q)
def dH(prog:QL)(w:Qu):PySem.KeyKind prog w Key where
 is:=wJ
 hash:=Pb w
 inj:=fun v a b ha hb=>by
  rcases cU ha with⟨i,t,rfl,rfl⟩|⟨x,t,rfl,rfl⟩
  ·rcases cU hb with⟨j,u,rfl,e⟩|⟨y,u,rfl,e⟩
   ·injection e with e1 _;rw[e1]
   ·exact nomatch e
  ·rcases cU hb with⟨j,u,rfl,e⟩|⟨y,u,rfl,e⟩
   ·exact nomatch e
   ·injection e with e1 _;rw[e1]
 byValue:=fun k v h=>by
  rcases cU h with⟨i,t,rfl,rfl⟩|⟨x,t,rfl,rfl⟩<;>rfl
 pyHash:=fun hv h=>by
  rcases cU hv with⟨i,t,rfl,rfl⟩|⟨x,t,rfl,rfl⟩
  ·exact wpAny_pyHash_int h
  ·exact wpAny_pyHash_str h
 eqBool:=fun hu hv h=>by
  rcases cU hu with⟨i,t,rfl,rfl⟩|⟨x,t,rfl,rfl⟩
  ·rcases cU hv with⟨j,u,rfl,rfl⟩|⟨y,u,rfl,rfl⟩
   ·rw[JS]at h;exact wpAny_eqBool_int h
   ·rw[JR]at h;exact SeqAt.EqAt.int_str i t y u _ _ _ _ h
  ·rcases cU hv with⟨j,u,rfl,rfl⟩|⟨y,u,rfl,rfl⟩
   ·rw[JQ]at h;exact SeqAt.EqAt.str_int x t j u _ _ _ _ h
   ·rw[JP]at h;exact wpAny_eqBool_str h
 «strs»:=fun k x t v h=>by
  rcases cU h with⟨i,u,rfl,e⟩|⟨y,u,rfl,e⟩
  ·exact nomatch e
  ·injection e with e1 _;subst e1;cases v<;>rfl
def ui(prog:QL)(w:Qu)(i:Int)(t:Tok):(dH prog w).is (.inl i) (.int i t)=true:=yV i t
def uh(prog:QL)(w:Qu)(x:Str)(t:Tok):(dH prog w).is (.inr x) (.str x t)=true:=yU x t
inductive V where
 |non|bl (b:Bool)|int (i:Int)|str (x:Str)|byt (b:Array UInt8)|flt (b:UInt64)|ref (a:Addr)|ty (n:String)
 deriving DecidableEq
def dD:V->Q2->Prop
 |.non,u=>u=Value.none
 |.bl b,u=>u=Value.bool b
 |.int i,u=>∃t,u=Value.int i t
 |.str x,u=>∃t,u=Value.str x t
 |.byt b,u=>∃t,u=Value.bytes b t
 |.flt b,u=>∃t,u=Value.float b t
 |.ref a,u=>u=Value.ref a
 |.ty n,u=>u=Value.type n
abbrev cG:List V->List Q2->Prop:=Paired dD
def cG.length{xs:List V}{us:List Q2}(r:cG xs us):xs.length=us.length:=Paired.length r
theorem cG.get:∀{xs:List V} {us:List Q2} {i:Nat} {x:V},cG xs us->xs[i]?=some x->∃u,us[i]?=some u/\dD x u
 |_,_,_,_,.nil,e=>by simp at e
 |_,_,0,_,.cons r _,e=>by simp at e;subst e;exact⟨_,rfl,r⟩
 |_,_,i+1,x,.cons _ t,e=>by
  obtain⟨u,h1,h2⟩:=cG.get (i:=i) (x:=x) t (by simpa using e);exact⟨u,by simpa using h1,h2⟩
theorem cG.set{x:V}{u:Q2}(r:dD x u):∀{xs:List V} {us:List Q2} (i:Nat),cG xs us->cG (xs.set i x) (us.set i u)
 |_,_,_,.nil=>.nil
 |_,_,0,.cons _ t=>.cons r t
 |_,_,i+1,.cons q t=>.cons q (cG.set r i t)
theorem cG.append:∀{xs ys:List V} {us ws:List Q2},cG xs us->cG ys ws->cG (xs++ys) (us++ws)
 |_,_,_,_,.nil,s=>s
 |_,_,_,_,.cons r t,s=>.cons r (cG.append t s)
theorem cG.take:∀{xs:List V} {us:List Q2} (n:Nat),cG xs us->cG (xs.take n) (us.take n)
 |_,_,0,_=>.nil
 |_,_,_+1,.nil=>.nil
 |_,_,n+1,.cons r t=>.cons r (cG.take n t)
theorem cG.drop:∀{xs:List V} {us:List Q2} (n:Nat),cG xs us->cG (xs.drop n) (us.drop n)
 |_,_,0,r=>r
 |_,_,_+1,.nil=>.nil
 |_,_,n+1,.cons _ t=>cG.drop n t
def qF:Option V->Option Q2->Prop
 |some v,some u=>dD v u
 |none,none=>True
 |_,_=>False
def KV{κ:Type}:List (κ×V)->List (κ×Q2)->Prop:=Paired fun(p:κ×V) (q:κ×Q2)=>p.1=q.1/\dD p.2 q.2
def kV:Key->V
 |.inl i=>.int i
 |.inr x=>.str x
inductive HO where
 |lst (xs:List V)
 |tup (xs:List V)
 |dK (kvs:List (Key×V))|dT (kvs:List (List Key×V))
 |set (S:Int->Bool) (n:Nat)
 |ins (C dx:Addr) (fs:List (Str×V))
 |own (x:Addr)
 |xd (fs:List (Str×V))
 |met (f x:Addr)
 |rng (lo hi:Int)
 |frz (o:Obj) (u:HO)
 |tbl (ps:Array Q2)
 |ext (φ:Heap->Prop)
abbrev Hp:=Addr->Option HO
def upd(H:Hp)(a:Addr)(o:HO):Hp:=fun b=>if b=a then some o else H b
def aU{H:Hp}{a:Addr}{o:HO}:upd H a o a=some o:=by unfold upd;rw[if_pos rfl]
def aY{H:Hp}{a b:Addr}{o:HO}(h:b≠a):upd H a o b=H b:=by unfold upd;rw[if_neg h]
theorem MV{H:Hp}{a b:Addr}{o u:HO}(h:H a=some o)(h':H b=some u)(d:o≠u):a≠b:=by
 intro e;subst e;rw[h]at h';exact d (Option.some.inj h')
theorem dS{H:Hp}{a b:Addr}{o:HO}(h:H a=some o)(h':H b=none):a≠b:=by
 intro e;subst e;rw[h]at h';cases h'
def An(h:Heap)(a:Addr)(items:Array Q2):Prop:=∃o,h.get? a=some o/\(o.cls=.type "tuple"/\o.dict=none)/\∃n,o.data=.seq items n
def An.tup{h:Heap}{a:Addr}{items:Array Q2}(x:An h a items):IsTup h a items:=let ⟨o,g,c,d⟩:=x;⟨o,g,c.1,d⟩
theorem An.new(h:Heap)(items:Array Q2):An (h.push { cls:=.type "tuple",data:=.seq items }) h.objs.size items:=⟨_,Qy _ rfl,⟨rfl,rfl⟩,_,rfl⟩
section
variable(P:QL)(w:Qu)
def dB(H:Hp)(h:Heap)(a:Addr):HO->Prop
 |.lst xs=>xs.length<=QB/\∃(its:List Q2) (n:Nat),cG xs its/\h.get? a=some { cls:=.type "list",data:=.seq its.toArray n }
 |.tup xs=>xs.length<=QB/\∃its:List Q2,cG xs its/\An h a its.toArray
 |.dK kvs=>kvs.length<=QB/\(a == sysModules)=false/\∃vs,KV kvs vs/\h.DictOf (dH P w) a vs
 | .dT kvs=>kvs.length<=QB/\(a == sysModules)=false/\∃xs:List (List Key×Addr×Q2),
   Paired (fun(p:List Key×V) (q:List Key×Addr×Q2)=>p.1=q.1/\H q.2.1=some (.tup (p.1.map kV))/\dD p.2 q.2.2) kvs xs/\
   ∃o es ep,h.get? a=some o/\o.ExactDict/\o.data=.dict es ep/\es.toList=xs.map (entryOfKey (tupleKind (dH P w)))/\(xs.map (·.1)).Nodup
 |.set S n=>h.SetOf (intKind P w) a S n
 | .ins C dx fs=>H dx=some (.own a)/\fs.length<=1000/\dx≠a/\h.get? a=some (PySem.W.instObj C dx)/\
   ∃mA,h.Ns1 dx mA/\(∀f,qF (fs.lookup f) (mA f))/\PySem.Within mA (fs.map (·.1))
 |.own _=>∃o,h.get? a=some o
 |.xd fs=>∃mA,h.Ns1 a mA/\∀f,qF (fs.lookup f) (mA f)
 |.rng lo hi=>∃t u v,h.get? a=some { cls:=.type "range",data:=.fields #[.int lo t,.int hi u,.int 1 v] }
 |.frz o u=>h.get? a=some o/\dB H h a u
 |.tbl ps=>h.get? a=some { cls:=.none,data:=.fields ps }
 |.met f x=>h.get? a=some (PySem.W.methodObj (.ref f) (.ref x))
 |.ext φ=>φ h/\(∃o,h.get? a=some o)/\∀h1 h2:Heap,φ h1->(∀o,h1.get? a=some o->h2.get? a=some o)->φ h2
def HOk(H:Hp)(h:Heap):Prop:=∀a o,H a=some o->dB P w H h a o
end
section
variable{P:QL}{w:Qu}{H H':Hp}{h h':Heap}{a:Addr}{o:HO}
theorem dB.lt(x:dB P w H h a o):a<h.objs.size:=by
 cases o with
 |lst xs=>obtain⟨_,_,_,_,e⟩:=x;exact QD e
 |tup xs=>obtain⟨_,_,_,p⟩:=x;exact p.tup.lt
 |dK kvs=>obtain⟨_,_,_,_,o,_,_,e,_⟩:=x;exact QD e
 |dT kvs=>obtain⟨_,_,_,_,o,_,_,e,_⟩:=x;exact QD e
 |set S n=>obtain⟨o,_,_,_,e,_⟩:=x;exact QD e
 |ins C dx fs=>obtain⟨_,_,_,e,_⟩:=x;exact QD e
 |own y=>obtain⟨_,e⟩:=x;exact QD e
 |xd fs=>obtain⟨_,⟨_,_,_,e,_⟩,_⟩:=x;exact QD e
 |rng lo hi=>obtain⟨_,_,_,e⟩:=x;exact QD e
 |frz ob u=>obtain⟨e,_⟩:=x;exact QD e
 |tbl ps=>exact QD (show h.get? a=some _ from x)
 |met f y=>exact QD (show h.get? a=some _ from x)
 |ext φ=>obtain⟨_,⟨_,e⟩,_⟩:=x;exact QD e
theorem Paired.mapP{α β:Type}{F G:α->β->Prop}:∀{l₁:List α} {l₂:List β},Paired F l₁ l₂->(∀a b,F a b->G a b)->Paired G l₁ l₂
 |_,_,.nil,_=>.nil
 |_,_,.cons r t,f=>.cons (f _ _ r) (Paired.mapP t f)
theorem dB.stay(x:dB P w H h a o)(k:∀b u,(b=a\/H b=some (.own a))->h.get? b=some u->h'.get? b=some u)
  (ho:∀b,H b=some (.own a)->H' b=some (.own a)) (ht:∀b xs,H b=some (.tup xs)->H' b=some (.tup xs)):dB P w H' h' a o:=by
 induction o with
 |lst xs=>obtain⟨z,its,n,r,e⟩:=x;exact⟨z,its,n,r,k _ _ (.inl rfl) e⟩
 |tup xs=>obtain⟨z,its,r,ob,e,c⟩:=x;exact⟨z,its,r,ob,k _ _ (.inl rfl) e,c⟩
 |dK kvs=>obtain⟨z,y,vs,r,ob,es,ep,e,c⟩:=x;exact⟨z,y,vs,r,ob,es,ep,k _ _ (.inl rfl) e,c⟩
 |dT kvs=>
  obtain⟨z,y,xs,r,ob,es,ep,e,c⟩:=x;exact⟨z,y,xs,Paired.mapP r fun p q z=>⟨z.1,ht _ _ z.2.1,z.2.2⟩,ob,es,ep,k _ _ (.inl rfl) e,c⟩
 |set S n=>obtain⟨ob,es,ep,t,e,c⟩:=x;exact⟨ob,es,ep,t,k _ _ (.inl rfl) e,c⟩
 |ins C dx fs=>
  obtain⟨d,z,ne,e,mA,⟨od,es,ep,e2,c⟩,r⟩:=x;exact⟨ho _ d,z,ne,k _ _ (.inl rfl) e,mA,⟨od,es,ep,k _ _ (.inr d) e2,c⟩,r⟩
 |own y=>obtain⟨ob,e⟩:=x;exact⟨ob,k _ _ (.inl rfl) e⟩
 |xd fs=>obtain⟨mA,⟨od,es,ep,e,c⟩,r⟩:=x;exact⟨mA,⟨od,es,ep,k _ _ (.inl rfl) e,c⟩,r⟩
 |rng lo hi=>obtain⟨t,u,v,e⟩:=x;exact⟨t,u,v,k _ _ (.inl rfl) e⟩
 |frz ob u ih=>obtain⟨e,q⟩:=x;exact⟨k _ _ (.inl rfl) e,ih q⟩
 |tbl ps=>
  have e:h.get? a=some { cls:=.none,data:=.fields ps }:=x;show h'.get? a=some { cls:=.none,data:=.fields ps };exact k a _ (.inl rfl) e
 |met f y=>
  have e:h.get? a=some (PySem.W.methodObj (.ref f) (.ref y)):=x;show h'.get? a=some (PySem.W.methodObj (.ref f) (.ref y));exact k a _ (.inl rfl) e
 |ext φ=>obtain⟨p,⟨o,e⟩,st⟩:=x;exact⟨st _ _ p fun o q=>k _ _ (.inl rfl) q,⟨o,k _ _ (.inl rfl) e⟩,st⟩
def HOk.lt(x:HOk P w H h)(e:H a=some o):a<h.objs.size:=(x a o e).lt
theorem HOk.fresh(x:HOk P w H h)(e:h.objs.size<=a):H a=none:=by
 cases q:H a with
 |none=>rfl
 |some u=>exact absurd (Qv (x.lt q) e) (ZE _)
theorem HOk.kept(x:HOk P w H h)(k:∀b u,h.get? b=some u->h'.get? b=some u):HOk P w H h':=fun a o e=>
 (x a o e).stay (fun b u _ q=>k b u q) (fun _ q=>q) fun _ _ q=>q
theorem HOk.laid(x:HOk P w H h)(k:∀b u,h.get? b=some u->h'.get? b=some u)(hp:h.objs.size<=a)(new:dB P w (upd H a o) h' a o):HOk P w (upd H a o) h':=fun b u e=>by
 have hn:=x.fresh hp;by_cases hb:b=a
 ·subst hb;rw[aU]at e;cases e;exact new
 ·rw[aY hb]at e;exact(x b u e).stay (fun c v _ q=>k c v q) (fun c q=>by rw[aY (dS q hn)];exact q) fun c xs q=>by rw[aY (dS q hn)];exact q
end
def Rd(H:Hp)(a:Addr)(u:HO):Prop:=H a=some u\/∃o,H a=some (.frz o u)
theorem Rd.ok{P:QL}{w:Qu}{H:Hp}{h:Heap}{a:Addr}{u:HO}(r:Rd H a u)(x:HOk P w H h):dB P w H h a u:=by
 rcases r with r|⟨o,r⟩
 ·exact x a u r
 ·obtain⟨_,q⟩:=x a _ r;exact q
def Mut:Option HO->Prop
 |some (.lst _)=>True
 |some (.dK _)=>True
 |some (.dT _)=>True
 |some (.set _ _)=>True
 |some (.ins _ _ _)=>True
 |some (.ext _)=>True
 |_=>False
section
variable{P:QL}{w:Qu}{H:Hp}{h h':Heap}{x e:Addr}{o':HO}
theorem HOk.write(ok:HOk P w H h)(mu:Mut (H x))(he:e=x\/H e=some (.own x))(k:∀b u,b≠e->h.get? b=some u->h'.get? b=some u)(heo:∃u,h'.get? e=some u)
  (new:dB P w (upd H x o') h' x o'):HOk P w (upd H x o') h':=fun b u q=>by
 have nown:∀c y,H c=some (.own y)->c≠x:=fun c y r z=>by subst z;rw[r]at mu;exact mu
 have ntup:∀c xs,H c=some (.tup xs)->c≠x:=fun c xs r z=>by subst z;rw[r]at mu;exact mu
 by_cases hb:b=x
 ·subst hb;rw[aU]at q;cases q;exact new
 ·rw[aY hb]at q;by_cases hbe:b=e
  ·have q':H b=some (.own x):=by
    rcases he with z|z
    ·exact absurd (hbe.trans z) hb
    ·rw[hbe];exact z
   rw[q]at q';cases q';obtain⟨v,hv⟩:=heo;exact⟨v,by rw[hbe];exact hv⟩
  ·refine(ok b u q).stay (fun c v hc r=>k c v ?_ r) (fun c r=>by rw[aY (nown c b r)];exact r) fun c xs r=>by rw[aY (ntup c xs r)];exact r
   rcases hc with rfl|hc
   ·exact hbe
   ·rintro rfl;rcases he with z|z
    ·exact nown c b hc z
    ·rw[hc]at z;cases z;exact hb rfl
end
structure Un(fs ex:List Addr)(H H':Hp)(h h':Heap):Prop where
 keep:∀b o,h.get? b=some o->H b=none->b∉fs->b∉ex->h'.get? b=some o
 slot:∀b o,h.get? b=some o->H b=none->b∈fs->b∉ex->∃sl,h'.get? b=some { o with slots:=sl }
 free:∀b o,h.get? b=some o->H b=none->b∉ex->H' b=none
 there:∀b o,h.get? b=some o->b∉ex->∃o',h'.get? b=some o'
 tups:∀b xs,H b=some (.tup xs)->H' b=some (.tup xs)
 frzs:∀b o u,H b=some (.frz o u)->H' b=some (.frz o u)
 tbls:∀b ps,H b=some (.tbl ps)->∃more,H' b=some (.tbl (ps++more))
section
variable{fs ex:List Addr}{H H1:Hp}{h h1 h':Heap}{a x e:Addr}{o:HO}
theorem Un.any(u:Un fs ex H H1 h h1){b:Addr}{ob:Obj}(q:h.get? b=some ob)(n:H b=none)(hx:b∉ex):∃sl,h1.get? b=some { ob with slots:=sl }:=by
 by_cases hb:b∈fs
 ·exact u.slot b ob q n hb hx
 ·exact⟨ob.slots,u.keep b ob q n hb hx⟩
theorem Un.kept(k:∀b u,h.get? b=some u->h'.get? b=some u):Un fs ex H H h h':=
 ⟨fun b ob q _ _ _=>k b ob q,fun b ob q _ _ _=>⟨ob.slots,k b ob q⟩,fun _ _ _ n _=>n,fun b ob q _=>⟨ob,k b ob q⟩,fun _ _ q=>q,fun _ _ _ q=>q,fun _ ps q=>⟨#[],by rw[q];simp⟩⟩
def Un.refl:Un fs ex H H h h:=Un.kept fun _ _ q=>q
theorem Un.laid(k:∀b u,h.get? b=some u->h'.get? b=some u)(hp:h.objs.size<=a)(hn:H a=none):Un fs ex H (upd H a o) h h' where
 keep:=fun b u q _ _ _=>k b u q
 slot:=fun b u q _ _ _=>⟨u.slots,k b u q⟩
 free:=fun b u q n _=>by rw[aY (Qw (Qv (QD q) hp))];exact n
 there:=fun b u q _=>⟨u,k b u q⟩
 tups:=fun b xs q=>by rw[aY (dS q hn)];exact q
 frzs:=fun b u xs q=>by rw[aY (dS q hn)];exact q
 tbls:=fun b ps q=>⟨#[],by rw[aY (dS q hn),q];simp⟩
theorem Un.write(mu:Mut (H x))(he:e=x\/H e=some (.own x))(k:∀b u,b≠e->h.get? b=some u->h'.get? b=some u)(heo:∃u,h'.get? e=some u):Un fs ex H (upd H x o) h h':=by
 have hx:∀b,H b=none->b≠x:=fun b n z=>by subst z;rw[n]at mu;exact mu
 have hb:∀b,H b=none->b≠e:=fun b n z=>by
  subst z;rcases he with r|r
  ·exact hx b n r
  ·rw[n]at r;cases r
 have hm:∀b u,H b=some u->¬Mut (some u)->b≠x:=fun b u q nm z=>by subst z;rw[q]at mu;exact nm mu
 refine⟨fun b u q n _ _=>k b u (hb b n) q,fun b u q n _ _=>⟨u.slots,k b u (hb b n) q⟩,fun b u q n _=>by rw[aY (hx b n)];exact n,fun b u q _=>?_,
  fun b xs q=>by rw[aY (hm b _ q fun z=>z)];exact q,fun b u xs q=>by rw[aY (hm b _ q fun z=>z)];exact q,fun b ps q=>⟨#[],by rw[aY (hm b _ q fun z=>z),q];simp⟩⟩
 by_cases hbe:b=e
 ·subst hbe;exact heo
 ·exact⟨u,k b u hbe q⟩
end
def trk(h:Heap)(H:Hp):List Addr:=(List.range h.objs.size).filter fun a=>(H a).isSome
def BO(h:Heap)(H:Hp):Heap:=PySem.W.hideAll h (trk h H)
def zi(h:Heap)(H:Hp):(BO h H).objs.size=h.objs.size:=PySem.W.hideAll_size _ _
theorem BN{h:Heap}{H:Hp}{b:Addr}{o:Obj}(e:h.get? b=some o)(n:H b=none):(BO h H).get? b=some o:=
 PySem.W.hideAll_get _ e fun hm=>by
  have q:(H b).isSome=true:=(List.mem_filter.mp hm).2;rw[n]at q;simp at q
theorem Fj{h:Heap}{H:Hp}{b:Addr}{o:Obj}(e:(BO h H).get? b=some o):h.get? b=some o/\H b=none:=by
 have e':h.get? b=some o:=PySem.W.of_hideAll (trk h H) e;refine⟨e',?_⟩;cases q:H b with
 |none=>rfl
 |some x=>
  have hm:b∈trk h H:=List.mem_filter.mpr ⟨List.mem_range.mpr (QD e'),by simp[q]⟩;have z:(BO h H).get? b=none:=PySem.W.hideAll_none (trk h H) hm;rw[z]at e;cases e
structure Mod(K:Q1)(mg:Str->Option Q2)(base:Heap):Prop where
 kin:K.In base
 glob:base.Ns mainGlobals mg
 blt:∃mb,base.Ns builtinsNs mb/\∀x:Str,x≠"__name__"->mb x=Qn x
 nolimit:base.NoLimit
structure Cx where
 prog:QL
 w:Qu
 K:Q1
 mg:Str->Option Q2
 base:Heap
 A:Qe
 N:List Str
 s₀:Q8
 H₀:Hp
 env:Env
 outer:List Env
 stack:List Env
 ex:List Addr
 fn:Str->Bool
 calm:Bool
 pn:List (Addr×Obj)
 xe:Q2->Q8->Prop
def frs(l:List Env):List Addr:=l.filterMap (·.frame)
abbrev Cx.fs(X:Cx):List Addr:=frs X.outer
def Vis(sc:Scope)(x:Str):Prop:=sc.names.lookup x=some .local\/sc.names.lookup x=some .cell\/sc.names.lookup x=some .free
def Loc(sc:Scope)(x:Str):Prop:=sc.names.lookup x=some .local\/sc.names.lookup x=some .cell
def Look(env:Env)(h:Heap)(m:Str->Option Q2)(x:Str)(u:Q2):Prop:=
 (env.kindOf x=some .local/\m x=some u)\/((env.kindOf x=some .cell\/env.kindOf x=some .free)/\∃c,env.cells.lookup x=some c/\h.IsCell c (some u))
structure Cx.Ok(X:Cx):Prop where
 mod:Mod X.K X.mg X.base
 kind:X.env.scope.kind=.function
 glob:X.env.globals=mainGlobals
 blt:X.env.builtins=builtinsNs
 above:X.s₀.heap.objs.size<=X.env.locals
 inj:∀x y c,X.env.cells.lookup x=some c->X.env.cells.lookup y=some c->x=y
 has:∀x,(X.env.kindOf x=some .cell\/X.env.kindOf x=some .free)->∃c,X.env.cells.lookup x=some c
 cab:∀x c,X.fn x=true->X.env.cells.lookup x=some c->X.s₀.heap.objs.size<=c
 hd:X.calm=true->X.A.handled=none
 frames:X.A.frames=some X.stack
 stk:X.stack=X.outer\/(X.stack=X.env::X.outer/\X.env.frame=some X.env.locals)
 exf:∀b∈X.ex,b≠X.env.locals/\∀x c,X.env.cells.lookup x=some c->c≠b
 bs:∀b o,X.base.get? b=some o->X.s₀.heap.get? b=some o/\X.H₀ b=none
 bsz:X.base.objs.size<=X.s₀.heap.objs.size
 noex:∀b o,X.base.get? b=some o->b∉X.ex
 exfs:∀b∈X.ex,b∉X.fs
 funs:X.s₀.heap.FunFrames X.base X.outer
 frf:∀b∈X.fs,X.H₀ b=none
structure Inv(X:Cx)(pins:List (Addr×Obj))(σ:List (Option V))(H:Hp)(s:Q8):Prop where
 ok:X.Ok
 os:s.os=X.s₀.os
 bare:AllBare s.gens
 base:Un X.fs X.ex X.H₀ H X.s₀.heap s.heap
 loc:∃m,s.heap.Ns X.env.locals m/\∀(i:Nat) (x:Str) (v:V),X.N[i]?=some x->σ[i]?=some (some v)->Vis X.env.scope x->∃u,dD v u/\Look X.env s.heap m x u
 cell:∀x c,X.env.cells.lookup x=some c->∃v,s.heap.IsCell c v
 free:H X.env.locals=none
 freeC:∀x c,X.env.cells.lookup x=some c->H c=none
 pin:∀p∈X.pn++pins,s.heap.get? p.1=some p.2/\H p.1=none/\p.1≠X.env.locals/\p.1∉X.fs/\∀v,p.2.data≠.cell v
 hok:HOk X.prog X.w H s.heap
 len:σ.length=X.N.length
section
variable{X:Cx}{pins:List (Addr×Obj)}{σ:List (Option V)}{H H':Hp}{s:Q8}{h':Heap}
theorem Cx.Ok.nofr(ok:X.Ok){b:Addr}{o:Obj}(e:X.base.get? b=some o):b∉X.fs:=fun hb=>by
 have:=(ok.funs.mem hb).1;rw[e]at this;cases this
theorem Inv.bs(I:Inv X pins σ H s):∀b o,X.base.get? b=some o->s.heap.get? b=some o/\H b=none:=fun b o e=>
 ⟨I.base.keep b o (I.ok.bs b o e).1 (I.ok.bs b o e).2 (I.ok.nofr e) (I.ok.noex b o e),I.base.free b o (I.ok.bs b o e).1 (I.ok.bs b o e).2 (I.ok.noex b o e)⟩
def Inv.bk(I:Inv X pins σ H s):∀b o,X.base.get? b=some o->s.heap.get? b=some o:=fun b o e=>(I.bs b o e).1
def Inv.mod(I:Inv X pins σ H s):Mod X.K X.mg X.base:=I.ok.mod
def Inv.kIn(I:Inv X pins σ H s):X.K.In s.heap:=I.ok.mod.kin.keeps I.bk
def Inv.lt(I:Inv X pins σ H s):X.env.locals<s.heap.objs.size:=let ⟨_,hn,_⟩:=I.loc;hn.lt
def Inv.sz(I:Inv X pins σ H s):X.s₀.heap.objs.size<=s.heap.objs.size:=Qk I.ok.above (Nat.le_of_lt I.lt)
theorem Inv.nofs(I:Inv X pins σ H s){a:Addr}(h:s.heap.objs.size<=a):a∉X.fs:=fun hb=>by
 obtain⟨_,o,ho,_⟩:=I.ok.funs.mem hb;exact absurd (Qv (QD ho) (Qk I.sz h)) (ZE _)
theorem Inv.cne(I:Inv X pins σ H s):∀x c,X.env.cells.lookup x=some c->c≠X.env.locals:=fun x c e z=>by
 obtain⟨v,o,ho,hd⟩:=I.cell x c e;obtain⟨m,⟨o',es,ep,ho',hd',_⟩,_⟩:=I.loc;rw[z,ho']at ho;cases ho;rw[hd']at hd;cases hd
theorem Inv.funs(I:Inv X pins σ H s):s.heap.FunFrames X.base X.outer:=by
 have all:∀(l:List Env),(∀b∈frs l,b∈X.fs)->X.s₀.heap.FunFrames X.base l->s.heap.FunFrames X.base l:=by
  intro l;induction l with
  |nil=>intro _ _;trivial
  |cons env r ih=>
   intro hs hl;obtain⟨hk,⟨L,o,hf,hn,ho,hd⟩,hr⟩:=hl;have hL:L∈X.fs:=hs L (by unfold frs;rw[List.filterMap_cons,hf];exact QY);obtain⟨sl,e⟩:=I.base.slot L o ho (I.ok.frf L hL) hL fun z=>I.ok.exfs L z hL;exact⟨hk,⟨L,_,hf,hn,e,hd⟩,ih (fun b hb=>hs b (by unfold frs;rw[List.filterMap_cons,hf];exact QZ _ hb)) hr⟩
 exact all X.outer (fun _ hb=>hb) I.ok.funs
theorem Inv.stack(I:Inv X pins σ H s):s.heap.FunFrames X.base X.stack:=by
 rcases I.ok.stk with e|⟨e,hf⟩
 ·rw[e];exact I.funs
 ·rw[e];obtain⟨m,hn,_⟩:=I.loc;refine .cons (by rw[I.ok.kind];decide) hf hn ?_ I.funs;exact Heap.get?_none_of_le (Qk I.ok.bsz I.ok.above)
theorem Inv.stkSub(I:Inv X pins σ H s):∀b∈frs X.stack,b∈X.env.locals::X.fs:=fun b hb=>by
 rcases I.ok.stk with e|⟨e,hf⟩
 ·rw[e]at hb;exact QZ _ hb
 ·rw[e]at hb;unfold frs at hb;rw[List.filterMap_cons,hf]at hb;exact hb
theorem Inv.stkFree(I:Inv X pins σ H s):∀b∈frs X.stack,H b=none:=fun b hb=>by
 rcases Qz.mp (I.stkSub b hb)with e|hb
 ·rw[e];exact I.free
 ·obtain⟨_,o,ho,_⟩:=I.ok.funs.mem hb;exact I.base.free b o ho (I.ok.frf b hb) fun z=>I.ok.exfs b z hb
theorem Inv.step{g':Array GenState}{t':Nat}{d':Drawn}{ch:List Addr}(I:Inv X pins σ H s)
  (hch:∀b∈ch,(b∈X.ex\/X.s₀.heap.objs.size<=b)/\b≠X.env.locals/\(∀x c,X.env.cells.lookup x=some c->c≠b)/\∀p∈X.pn++pins,p.1≠b)
  (keep:∀b o,b≠X.env.locals->b∉X.fs->b∉ch->s.heap.get? b=some o->H b=none->h'.get? b=some o)
  (slot:∀b o,b≠X.env.locals->b∈X.fs->b∉ch->s.heap.get? b=some o->H b=none->∃sl,h'.get? b=some { o with slots:=sl }) (free:∀b o,b∉ch->s.heap.get? b=some o->H b=none->H' b=none)
  (there:∀b o,b∉ch->s.heap.get? b=some o->∃o',h'.get? b=some o')
  (tups:∀b xs,H b=some (.tup xs)->H' b=some (.tup xs)) (frzs:∀b o u,H b=some (.frz o u)->H' b=some (.frz o u)) (tbls:∀b ps,H b=some (.tbl ps)->∃more,H' b=some (.tbl (ps++more)))
  (ns:∀m,s.heap.Ns X.env.locals m->h'.Ns X.env.locals m) (hok:HOk X.prog X.w H' h') (hg:AllBare g') :
  Inv X pins σ H' { s with heap:=h',gens:=g',drawn:=d',toks:=t' }:=by
 have neL:∀b o,X.s₀.heap.get? b=some o->b≠X.env.locals:=fun b o e=>Qw (Qv (QD e) I.ok.above);have neC:∀b o,X.s₀.heap.get? b=some o->b∉X.ex->b∉ch:=fun b o e hx hb=>by
  rcases(hch b hb).1 with z|z
  ·exact hx z
  ·exact absurd (Qv (QD e) z) (ZE _)
 have cellK:∀x c,X.env.cells.lookup x=some c->∀v,s.heap.IsCell c v->h'.IsCell c v:=fun x c e v ⟨o,ho,hd⟩=>by
  have nch:c∉ch:=fun z=>(hch c z).2.2.1 x c e rfl;by_cases hc:c∈X.fs
  ·obtain⟨sl,q⟩:=slot c o (I.cne x c e) hc nch ho (I.freeC x c e);exact⟨_,q,hd⟩
  ·exact⟨o,keep c o (I.cne x c e) hc nch ho (I.freeC x c e),hd⟩
 refine⟨I.ok,I.os,hg,⟨fun b o e n hb hx=>?_,fun b o e n hb hx=>?_,fun b o e n hx=>?_,fun b o e hx=>?_,fun b xs e=>tups b xs (I.base.tups b xs e),fun b o xs e=>frzs b o xs (I.base.frzs b o xs e),fun b ps e=>?_⟩,?_,fun x c e=>?_,?_,fun x c e=>?_,fun p hp=>?_,hok,I.len⟩
 ·exact keep b o (neL b o e) hb (neC b o e hx) (I.base.keep b o e n hb hx) (I.base.free b o e n hx)
 ·obtain⟨sl,e1⟩:=I.base.slot b o e n hb hx;obtain⟨sl',e2⟩:=slot b _ (neL b o e) hb (neC b o e hx) e1 (I.base.free b o e n hx);exact⟨sl',e2⟩
 ·obtain⟨o',e1⟩:=I.base.there b o e hx;exact free b o' (neC b o e hx) e1 (I.base.free b o e n hx)
 ·obtain⟨o',e1⟩:=I.base.there b o e hx;exact there b o' (neC b o e hx) e1
 ·obtain⟨m1,e1⟩:=I.base.tbls b ps e;obtain⟨m2,e2⟩:=tbls b _ e1;exact⟨m1++m2,by rw[e2,Array.append_assoc]⟩
 ·obtain⟨m,hn,hl⟩:=I.loc;refine⟨m,ns m hn,fun i x v e1 e2 e3=>?_⟩;obtain⟨u,r,l⟩:=hl i x v e1 e2 e3;refine⟨u,r,?_⟩;rcases l with l|⟨k,c,e,z⟩
  ·exact .inl l
  ·exact .inr ⟨k,c,e,cellK x c e _ z⟩
 ·obtain⟨v,z⟩:=I.cell x c e;exact⟨v,cellK x c e v z⟩
 ·obtain⟨m,⟨o,_,_,ho,_⟩,_⟩:=I.loc;exact free _ o (fun z=>(hch _ z).2.1 rfl) ho I.free
 ·obtain⟨v,o,ho,hd⟩:=I.cell x c e;exact free c o (fun z=>(hch c z).2.2.1 x c e rfl) ho (I.freeC x c e)
 ·obtain⟨e,n,ne,nf,d⟩:=I.pin p hp;have nch:p.1∉ch:=fun z=>(hch p.1 z).2.2.2 p hp rfl;exact⟨keep p.1 p.2 ne nf nch e n,free p.1 p.2 nch e n,ne,nf,d⟩
theorem Inv.un{t':Nat}(I:Inv X pins σ H s)(u:Un X.fs [] H H' s.heap h')(hok:HOk X.prog X.w H' h'):Inv X pins σ H' { s with heap:=h',toks:=t' }:=by
 obtain⟨m,⟨o,es,ep,ho,r⟩,_⟩:=id I.loc;obtain⟨sl,hL⟩:=u.any ho I.free (by simp);exact I.step (g':=s.gens) (d':=s.drawn) (ch:=[]) (fun _ z=>nomatch z) (fun b o _ hb _ e n=>u.keep b o e n hb (by simp)) (fun b o _ hb _ e n=>u.slot b o e n hb (by simp)) (fun b o _ e n=>u.free b o e n (by simp)) (fun b o _ e=>u.there b o e (by simp)) u.tups u.frzs u.tbls (fun m' hm=>by
  obtain⟨o',es',ep',ho',r'⟩:=hm;rw[ho]at ho';cases ho';exact⟨_,es',ep',hL,r'⟩) hok I.bare
theorem Inv.call{g':Array GenState}{t':Nat}{d':Drawn}{ch:List Addr}(I:Inv X pins σ H s)(u:Un (frs X.stack) ch H H' s.heap h')(hok:HOk X.prog X.w H' h')(hg:AllBare g')
  (hch:∀b∈ch,(b∈X.ex\/X.s₀.heap.objs.size<=b)/\b≠X.env.locals/\(∀x c,X.env.cells.lookup x=some c->c≠b)/\∀p∈X.pn++pins,p.1≠b) :
  Inv X pins σ H' { s with heap:=h',gens:=g',drawn:=d',toks:=t' }:=by
 obtain⟨m,⟨o,es,ep,ho,r⟩,_⟩:=id I.loc;obtain⟨sl,hL⟩:=u.any ho I.free fun z=>(hch _ z).2.1 rfl;exact I.step (ch:=ch) hch (fun b o hL hb hc e n=>u.keep b o e n (fun z=>(Qz.mp (I.stkSub b z)).elim hL hb) hc) (fun b o _ _ hc e n=>u.any e n hc) (fun b o hc e n=>u.free b o e n hc) (fun b o hc e=>u.there b o e hc) u.tups u.frzs u.tbls (fun m' hm=>by
  obtain⟨o',es',ep',ho',r'⟩:=hm;rw[ho]at ho';cases ho';exact⟨_,es',ep',hL,r'⟩) hok hg
theorem Inv.turned{t':Nat}{it:Addr}(I:Inv X pins σ H s)(k:∀b o,b≠it->s.heap.get? b=some o->h'.get? b=some o)(hn:H it=none)(hL:it≠X.env.locals)
  (h1:it∈X.ex\/X.s₀.heap.objs.size<=it) (h2:∀x c,X.env.cells.lookup x=some c->c≠it) (h3:∀p∈X.pn++pins,p.1≠it):Inv X pins σ H { s with heap:=h',toks:=t' }:=by
 have nit:∀b u,H b=some u->b≠it:=fun b u e z=>by rw[z,hn]at e;cases e
 refine I.step (g':=s.gens) (d':=s.drawn) (ch:=[it]) (fun b hb=>?_) (fun b o _ _ hc e _=>k b o (fun z=>hc (by simp[z])) e) (fun b o _ _ hc e _=>⟨o.slots,k b o (fun z=>hc (by simp[z])) e⟩) (fun _ _ _ _ n=>n)
  (fun b o hc e=>⟨o,k b o (fun z=>hc (by simp[z])) e⟩) (fun _ _ e=>e) (fun _ _ _ e=>e) (fun b ps e=>⟨#[],by rw[e];simp⟩) (fun m hm=>?_) (fun b u e=>?_) I.bare
 ·have e:b=it:=by simpa using hb
  subst e;exact⟨h1,hL,h2,h3⟩
 ·obtain⟨o,es,ep,ho,r⟩:=hm;exact⟨o,es,ep,k _ o (Ne.symm hL) ho,r⟩
 ·refine(I.hok b u e).stay (fun c v hc q=>k c v ?_ q) (fun _ q=>q) fun _ _ q=>q;rcases hc with z|z
  ·rw[z];exact nit b u e
  ·exact nit c _ z
def Inv.tok(I:Inv X pins σ H s)(t:Nat):Inv X pins σ H { s with toks:=t }:=I.un (h':=s.heap) (t':=t) Un.refl I.hok
theorem Inv.kept{t':Nat}(I:Inv X pins σ H s)(k:∀b u,s.heap.get? b=some u->h'.get? b=some u):Inv X pins σ H { s with heap:=h',toks:=t' }:=I.un (Un.kept k) (I.hok.kept k)
theorem Inv.laid{a:Addr}{o:HO}{t':Nat}(I:Inv X pins σ H s)(k:∀b u,s.heap.get? b=some u->h'.get? b=some u)(hp:s.heap.objs.size<=a)(new:dB X.prog X.w (upd H a o) h' a o) :
  Inv X pins σ (upd H a o) { s with heap:=h',toks:=t' }:=I.un (Un.laid k hp (I.hok.fresh hp)) (I.hok.laid k hp new)
theorem Inv.write{x e:Addr}{o:HO}{t':Nat}(I:Inv X pins σ H s)(mu:Mut (H x))(he:e=x\/H e=some (.own x))(k:∀b u,b≠e->s.heap.get? b=some u->h'.get? b=some u)(heo:∃u,h'.get? e=some u)
  (new:dB X.prog X.w (upd H x o) h' x o):Inv X pins σ (upd H x o) { s with heap:=h',toks:=t' }:=I.un (Un.write mu he k heo) (I.hok.write mu he k heo new)
theorem Inv.pins_of{pins':List (Addr×Obj)}(I:Inv X pins σ H s)(h:∀p∈pins',s.heap.get? p.1=some p.2/\H p.1=none/\p.1≠X.env.locals/\p.1∉X.fs/\∀v,p.2.data≠.cell v):Inv X pins' σ H s:=
 ⟨I.ok,I.os,I.bare,I.base,I.loc,I.cell,I.free,I.freeC,fun p hp=>(Qt.mp hp).elim (fun z=>I.pin p (List.mem_append_left _ z)) (h p),I.hok,I.len⟩
theorem qb{N:List Str}(hN:N.Nodup){i j:Nat}{x:Str}(a:N[i]?=some x)(b:N[j]?=some x):i=j:=by
 obtain⟨h1,e1⟩:=Q6.mp a;obtain⟨h2,e2⟩:=Q6.mp b;exact(List.getElem_inj hN).mp (e1.trans e2.symm)
theorem x6{M:Model}{A:Qe}{E:Q2->Q8->Prop}{i:Nat}{x:Str}{v:V}{u:Q2}{Q:Unit->Q8->Prop}(I:Inv X pins σ H s)(hN:X.N.Nodup)(hi:X.N[i]?=some x)(hx:Loc X.env.scope x)(r:dD v u)
  (h:∀s',Inv X pins (σ.set i (some v)) H s'->(∃a,Heap.SameBut a s.heap s'.heap/\(a=X.env.locals\/X.env.cells.lookup x=some a))->Q () s') (hf:X.fn x=true\/X.env.scope.names.lookup x=some .local:=by first|exact .inl rfl|exact .inr rfl|assumption):wpAny M A (storeName X.env x u) Q E s:=by
 obtain⟨m,hn,hl⟩:=id I.loc;have hcls:(X.env.scope.kind == .class||(X.env.scope.kind == .module&&X.env.locals !=X.env.globals))=false:=by rw[I.ok.kind];rfl
 have hiσ:i < σ.length:=by rw[I.len];exact(Q6.mp hi).1
 have cne:=I.cne;have tracked:∀{a:Addr} {h':Heap},(∃o,s.heap.get? a=some o/\H a=none)->Heap.SameBut a s.heap h'->HOk X.prog X.w H h':=fun{a h'} ha hs b ob e=>by
  obtain⟨_,_,hfree⟩:=ha;refine(I.hok b ob e).stay (fun c w' hc q=>(hs.2 c ?_).trans q) (fun _ q=>q) fun _ _ q=>q;rintro rfl;rcases hc with rfl|hc
  ·rw[hfree]at e;cases e
  ·rw[hfree]at hc;cases hc
 rcases hx with hk|hk
 ·refine wpAny_storeName_local hk hn (fun h' hn' hs=>?_) hcls;obtain⟨oL,_,_,hoL,_⟩:=id hn;refine h _ ⟨I.ok,I.os,I.bare,⟨fun b o e n hb hx=>?_,fun b o e n hb hx=>?_,I.base.free,fun b o e hx=>?_,I.base.tups,I.base.frzs,I.base.tbls⟩,⟨_,hn',fun j y v' e1 e2 e3=>?_⟩,fun y c e=>?_,I.free,I.freeC,fun p hp=>?_,tracked ⟨oL,hoL,I.free⟩ hs,by simpa using I.len⟩ ⟨_,hs,.inl rfl⟩
  ·exact(hs.2 b (Qw (Qv (QD e) I.ok.above))).trans (I.base.keep b o e n hb hx)
  ·obtain⟨sl,e1⟩:=I.base.slot b o e n hb hx;exact⟨sl,(hs.2 b (Qw (Qv (QD e) I.ok.above))).trans e1⟩
  ·obtain⟨o',e1⟩:=I.base.there b o e hx;exact⟨o',(hs.2 b (Qw (Qv (QD e) I.ok.above))).trans e1⟩
  ·by_cases hj:j=i
   ·subst hj;rw[hi]at e1;cases e1;rw[ZK hiσ]at e2;cases e2;exact⟨u,r,.inl ⟨hk,by simp⟩⟩
   ·rw[QM (Ne.symm hj)]at e2;obtain⟨u',r',q⟩:=hl j y v' e1 e2 e3;refine⟨u',r',?_⟩;rcases q with⟨k,e⟩|⟨k,c,e,z⟩
    ·refine .inl ⟨k,?_⟩;have:y≠x:=fun e=>hj (qb hN e1 (e▸hi));simp[this,e]
    ·exact .inr ⟨k,c,e,z.sameBut hs (cne y c e)⟩
  ·obtain⟨w',z⟩:=I.cell y c e;exact⟨w',z.sameBut hs (cne y c e)⟩
  ·obtain⟨e,n,ne,nf,d⟩:=I.pin p hp;exact⟨(hs.2 p.1 ne).trans e,n,ne,nf,d⟩
 ·have hfn:X.fn x=true:=by
   rcases hf with z|z
   ·exact z
   ·rw[z]at hk;cases hk
  obtain⟨c,hc⟩:=I.ok.has x (.inl hk);obtain⟨w',z⟩:=I.cell x c hc;refine wpAny_storeName_cell I.ok.kind hk hc z (fun h' hc' hs=>?_);obtain⟨oc,hoc,hocd⟩:=id z;refine h { s with heap:=h' } ⟨I.ok,I.os,I.bare,⟨fun b o e n hb hx=>?_,fun b o e n hb hx=>?_,I.base.free,fun b o e hx=>?_,I.base.tups,I.base.frzs,I.base.tbls⟩,⟨m,hn.sameBut hs (Ne.symm (cne x c hc)),fun j y v' e1 e2 e3=>?_⟩,fun y c' e=>?_,I.free,I.freeC,fun p hp=>?_,tracked ⟨oc,hoc,I.freeC x c hc⟩ hs,by simpa using I.len⟩ ⟨c,hs,.inr hc⟩
  ·exact(hs.2 b (Qw (Qv (QD e) (I.ok.cab x c hfn hc)))).trans (I.base.keep b o e n hb hx)
  ·obtain⟨sl,e1⟩:=I.base.slot b o e n hb hx;exact⟨sl,(hs.2 b (Qw (Qv (QD e) (I.ok.cab x c hfn hc)))).trans e1⟩
  ·obtain⟨o',e1⟩:=I.base.there b o e hx;exact⟨o',(hs.2 b (Qw (Qv (QD e) (I.ok.cab x c hfn hc)))).trans e1⟩
  ·by_cases hj:j=i
   ·subst hj;rw[hi]at e1;cases e1;rw[ZK hiσ]at e2;cases e2;exact⟨u,r,.inr ⟨.inl hk,c,hc,hc'⟩⟩
   ·rw[QM (Ne.symm hj)]at e2;obtain⟨u',r',q⟩:=hl j y v' e1 e2 e3;refine⟨u',r',?_⟩;rcases q with q|⟨k,c',e,z'⟩
    ·exact .inl q
    ·refine .inr ⟨k,c',e,z'.sameBut hs ?_⟩;rintro rfl;exact hj (qb hN e1 (I.ok.inj _ _ _ e hc▸hi))
  ·by_cases hcc:c'=c
   ·subst hcc;exact⟨_,hc'⟩
   ·obtain⟨w2,z2⟩:=I.cell y c' e;exact⟨w2,z2.sameBut hs hcc⟩
  ·obtain⟨e,n,ne,nf,d⟩:=I.pin p hp;refine⟨(hs.2 p.1 ?_).trans e,n,ne,nf,d⟩;intro q;rw[q,hoc]at e;have q':oc=p.2:=Option.some.inj e;exact d w' (by rw[<-q'];exact hocd)
theorem mE{M:Model}{A:Qe}{E:Q2->Q8->Prop}{i:Nat}{x:Str}{v:V}{u:Q2}{Q:Unit->Q8->Prop}(I:Inv X pins σ H s)(hN:X.N.Nodup)(hi:X.N[i]?=some x)(hx:Loc X.env.scope x)(r:dD v u)
  (h:∀s',Inv X pins (σ.set i (some v)) H s'->Q () s') (hf:X.fn x=true\/X.env.scope.names.lookup x=some .local:=by first|exact .inl rfl|exact .inr rfl|assumption):wpAny M A (storeName X.env x u) Q E s:=
 x6 I hN hi hx r (fun s' I' _=>h s' I') hf
theorem Inv.call'{s':Q8}{ch:List Addr}(I:Inv X pins σ H s)(ho:s'.os=s.os)(u:Un (frs X.stack) ch H H' s.heap s'.heap)(hok:HOk X.prog X.w H' s'.heap)(hg:AllBare s'.gens)
  (hch:∀b∈ch,(b∈X.ex\/X.s₀.heap.objs.size<=b)/\b≠X.env.locals/\(∀x c,X.env.cells.lookup x=some c->c≠b)/\∀p∈X.pn++pins,p.1≠b):Inv X pins σ H' s':=by
 obtain⟨h',g',d',t',o'⟩:=s';have e:o'=s.os:=ho;subst e;exact I.call (g':=g') (t':=t') (d':=d') u hok hg hch
end
abbrev XK:=Q2->Option Addr->Hp->Prop
abbrev St:=List (Option V)
abbrev VK:=V->Hp->Prop
abbrev TE:=St->Hp->VK->Prop
abbrev TT:=St->Hp->(Bool->Hp->Prop)->Prop
abbrev TA:=St->Hp->(List V->Hp->Prop)->Prop
structure Aj where
 nx:St->Hp->Prop
 rt:VK
 bk:St->Hp->Prop:=fun _ _=>False
 ct:St->Hp->Prop:=fun _ _=>False
abbrev TS:=Aj->St->Hp->Prop
def EP(X:Cx)(pins:List (Addr×Obj))(σ:St)(Q:VK)(u:Q2)(s':Q8):Prop:=∃v H',Inv X pins σ H' s'/\dD v u/\Q v H'
def TP(X:Cx)(pins:List (Addr×Obj))(σ:St)(Q:Bool->Hp->Prop)(b:Bool)(s':Q8):Prop:=∃H',Inv X pins σ H' s'/\Q b H'
def AP(X:Cx)(pins:List (Addr×Obj))(σ:St)(Q:List V->Hp->Prop)(us:List Q2)(s':Q8):Prop:=∃vs H',Inv X pins σ H' s'/\cG vs us/\Q vs H'
def SP(X:Cx)(pins:List (Addr×Obj))(D:Aj)(f:Flow)(s':Q8):Prop:=
 match f with
 |.next=>∃σ' H',Inv X pins σ' H' s'/\D.nx σ' H'
 |.brk=>∃σ' H',Inv X pins σ' H' s'/\D.bk σ' H'
 |.cont=>∃σ' H',Inv X pins σ' H' s'/\D.ct σ' H'
 |.ret u=>∃v σ' H',Inv X pins σ' H' s'/\dD v u/\D.rt v H'
def PE(X:Cx)(e:QK)(t:TE):Prop:=
 ∀(pins:List (Addr×Obj)) (s:Q8) (σ:St) (H:Hp) (Q:VK),Inv X pins σ H s->t σ H Q->wpAny (Qq X.prog X.w) X.A (eval e X.env) (EP X pins σ Q) X.xe s
def PT(X:Cx)(e:QK)(t:TT):Prop:=
 ∀(pins:List (Addr×Obj)) (s:Q8) (σ:St) (H:Hp) (Q:Bool->Hp->Prop),Inv X pins σ H s->t σ H Q->wpAny (Qq X.prog X.w) X.A (isTrue e X.env (eval e X.env)) (TP X pins σ Q) X.xe s
def PW(X:Cx)(e:QK)(t:TT):Prop:=
 ∀(whole:Sem Q2) (pins:List (Addr×Obj)) (s:Q8) (σ:St) (H:Hp) (Q:Bool->Hp->Prop),Inv X pins σ H s->t σ H Q->wpAny (Qq X.prog X.w) X.A (isTrue e X.env whole) (TP X pins σ Q) X.xe s
def PW.pt{X:Cx}{e:QK}{t:TT}(h:PW X e t):PT X e t:=h _
def PA(X:Cx)(es:List QK)(t:TA):Prop:=
 ∀(pos:Pos) (pins:List (Addr×Obj)) (s:Q8) (σ:St) (H:Hp) (Q:List V->Hp->Prop),Inv X pins σ H s->t σ H Q->wpAny (Qq X.prog X.w) X.A (spliced (Qa pos (Q7 es X.env))) (AP X pins σ Q) X.xe s
def PS(X:Cx)(st:Qg)(t:TS):Prop:=
 ∀(pins:List (Addr×Obj)) (s:Q8) (σ:St) (H:Hp) (D:Aj),Inv X pins σ H s->t D σ H->wpAny (Qq X.prog X.w) X.A (exec st X.env) (SP X pins D) X.xe s
def PSs(X:Cx)(st:List Qg)(t:TS):Prop:=
 ∀(pins:List (Addr×Obj)) (s:Q8) (σ:St) (H:Hp) (D:Aj),Inv X pins σ H s->t D σ H->wpAny (Qq X.prog X.w) X.A (execs st X.env) (SP X pins D) X.xe s
theorem thn{α:Type}{t:Sem α}{Q Q':α->Q8->Prop}{M:Model}{A:Qe}{E:Q2->Q8->Prop}{s:Q8}(h:wpAny M A t Q E s)(hQ:∀a s,Q a s->Q' a s):wpAny M A t Q' E s:=Z6 h hQ fun _ _ x=>x
section
variable{X:Cx}
def KP(i:Nat):TE:=fun σ H Q=>∃v,σ[i]?=some (some v)/\Q v H
def tC(v:V):TE:=fun _ H Q=>Q v H
theorem Jd{i:Nat}{x:Str}{pos:Pos}(hN:X.N[i]?=some x)(hv:Vis X.env.scope x)(hd:(x == ("__debug__":Str))=false:=by decide)(hcd:(x == ("__classdict__":Str))=false:=by decide):PE X (.Name x pos) (KP i):=by
 intro pins s σ H Q I h;obtain⟨v,e,h⟩:=h;obtain⟨m,hn,hl⟩:=I.loc;obtain⟨u,r,l⟩:=hl i x v hN e hv;have fin:EP X pins σ Q u s:=⟨v,H,I,r,h⟩;rcases l with⟨hk,hm⟩|⟨hk,c,hc,hcell⟩
 ·exact wpAny_Name (wpAny_loadName_local I.ok.kind hk hn hm fin) hd
 ·rcases hk with hk|hk
  ·exact wpAny_Name (wpAny_loadName_cell I.ok.kind hk hc hcell fin) hd
  ·exact wpAny_Name (wpAny_loadName_free I.ok.kind hk hc hcell fin hcd) hd
theorem Jk{i j pos}:PE X (.Constant (.int i) j pos) (tC (.int i)):=fun _ _ _ H _ I h=>wpAny_Constant_int ⟨.int i,H,I.tok _,⟨_,rfl⟩,h⟩
def MH{b j pos}:PE X (.Constant (.bool b) j pos) (tC (.bl b)):=fun _ _ _ H _ I h=>Constant_bool ⟨.bl b,H,I,rfl,h⟩
def Ji{j pos}:PE X (.Constant .none j pos) (tC .non):=fun _ _ _ H _ I h=>Constant_none ⟨.non,H,I,rfl,h⟩
theorem Jf{x j pos}:PE X (.Constant (.str x) j pos) (tC (.str x)):=fun _ _ _ H _ I h=>Calls.Constant_str ⟨.str x,H,I.tok _,⟨_,rfl⟩,h⟩
def Gl(X:Cx)(x:Str):Prop:=X.env.kindOf x=some .globalImplicit
theorem jY{E:Q2->Q8->Prop}{pins:List (Addr×Obj)}{s:Q8}{σ:St}{H:Hp}{x:Str}{u:Q2}{pos:Pos}{Q:Q2->Q8->Prop}(I:Inv X pins σ H s)(hg:Gl X x)(hm:X.mg x=some u)(h:Q u s)
  (hd:(x == ("__debug__":Str))=false:=by decide):wpAny (Qq X.prog X.w) X.A (eval (.Name x pos) X.env) Q E s:=
 Calls.Name_function_global I.ok.kind hg (Calls.loadGlobal_global (by rw[I.ok.glob];exact I.mod.glob.keeps I.bk) hm h) hd
theorem pj{E:Q2->Q8->Prop}{pins:List (Addr×Obj)}{s:Q8}{σ:St}{H:Hp}{x:Str}{u:Q2}{pos:Pos}{Q:Q2->Q8->Prop}(I:Inv X pins σ H s)(hg:Gl X x)(hm:X.mg x=none)(hv:Qn x=some u)(h:Q u s)
  (hn:x≠"__name__":=by decide) (hd:(x == ("__debug__":Str))=false:=by decide):wpAny (Qq X.prog X.w) X.A (eval (.Name x pos) X.env) Q E s:=by
 obtain⟨mb,h1,h2⟩:=I.mod.blt;exact Calls.Name_function_global I.ok.kind hg (Calls.loadGlobal_builtin (by rw[I.ok.glob];exact I.mod.glob.keeps I.bk) hm (by rw[I.ok.blt];exact h1.keeps I.bk) ((h2 x hn).trans hv) h) hd
theorem tV{x:Str}{v:V}{u:Q2}{pos:Pos}(hg:Gl X x)(hm:X.mg x=some u)(r:dD v u)(hd:(x == ("__debug__":Str))=false:=by decide):PE X (.Name x pos) (tC v):=
 fun _ _ _ H _ I h=>jY I hg hm ⟨v,H,I,r,h⟩ hd
theorem E5{x:Str}{v:V}{u:Q2}{pos:Pos}(hg:Gl X x)(hm:X.mg x=none)(hv:Qn x=some u)(r:dD v u)(hn:x≠"__name__":=by decide)(hd:(x == ("__debug__":Str))=false:=by decide):PE X (.Name x pos) (tC v):=
 fun _ _ _ H _ I h=>pj I hg hm hv ⟨v,H,I,r,h⟩ hn hd
variable{a b:QK}{ta tb:TE}{pos:Pos}
def PC(X:Cx)(op:CmpOp)(a b:QK)(t:TE):Prop:=
 ∀(pins:List (Addr×Obj)) (s:Q8) (σ:St) (H:Hp) (Q:VK),Inv X pins σ H s->t σ H Q->
  wpAny (Qq X.prog X.w) X.A (eval a X.env) (fun v s₁=>wpAny (Qq X.prog X.w) X.A (eval b X.env) (fun u s₂=>wpAny (Qq X.prog X.w) X.A (compareOp op v u) (EP X pins σ Q) X.xe s₂) X.xe s₁) X.xe s
def tB(t:TE):TT:=fun σ H Q=>t σ H fun x H1=>∃c,x=.bl c/\Q c H1
theorem Jn{op:CmpOp}{t:TE}(h:PC X op a b t)(h1:behindInMarks op b=false:=by first|exact nobehind _ (by decide) (by decide)|rfl):PE X (.Compare a [op] [b] pos) t:=fun pins s σ H Q I hw=>wpAny_Compare1 (h pins s σ H Q I hw) h1
theorem IT{e:QK}{t:TE}(h:PE X e t)(he:∀whole,isTrue e X.env whole=(do let v <-whole;standAt e.pos;holding [v] (truthy v)):=by intro _;rfl):PT X e (tB t):=by
 intro pins s σ H Q I hw;refine isTrue_plain (thn (h pins s σ H _ I hw) fun v s1 ⟨x,H1,I1,r1,q1⟩=>?_) (he _);obtain⟨d,rfl,q⟩:=q1;cases r1;exact wpAny_truthy_bool ⟨H1,I1,q⟩
variable{tA tB':TT}{rest:List QK}
def NX(t u:TT):TT:=fun σ H Q=>t σ H fun c H1=>if c=true then u σ H1 Q else Q false H1
def tOr(t u:TT):TT:=fun σ H Q=>t σ H fun c H1=>if c=true then Q true H1 else u σ H1 Q
def NQ(t:TT):TT:=fun σ H Q=>t σ H fun c H1=>Q (!c) H1
theorem EE(ha:PT X a tA):PW X (.BoolOp .And [a] pos) tA:=by
 intro wh pins s σ H Q I h;refine isTrue_and (thn (ha pins s σ H Q I h) fun c s1 e=>?_);cases c with
 |true=>exact isTrue_and_nil e
 |false=>exact e
theorem IQ(ha:PT X a tA):PW X (.BoolOp .Or [a] pos) tA:=by
 intro wh pins s σ H Q I h;refine isTrue_or (thn (ha pins s σ H Q I h) fun c s1 e=>?_);cases c with
 |false=>exact isTrue_or_nil e
 |true=>exact e
theorem IS(ha:PT X a tA)(hb:PW X (.BoolOp .And (b::rest) pos) tB'):PW X (.BoolOp .And (a::b::rest) pos) (NX tA tB'):=by
 intro wh pins s σ H Q I h;refine isTrue_and (thn (ha pins s σ H _ I h) fun c s1 ⟨H1,I1,q1⟩=>?_);cases c with
 |true=>exact hb wh pins s1 σ H1 Q I1 q1
 |false=>exact⟨H1,I1,q1⟩
theorem MA(ha:PT X a tA)(hb:PW X (.BoolOp .Or (b::rest) pos) tB'):PW X (.BoolOp .Or (a::b::rest) pos) (tOr tA tB'):=by
 intro wh pins s σ H Q I h;refine isTrue_or (thn (ha pins s σ H _ I h) fun c s1 ⟨H1,I1,q1⟩=>?_);cases c with
 |true=>exact⟨H1,I1,q1⟩
 |false=>exact hb wh pins s1 σ H1 Q I1 q1
theorem IU(ha:PT X a tA):PT X (.UnaryOp .Not a pos) (NQ tA):=by
 intro pins s σ H Q I h;exact isTrue_not (ha pins s σ H (fun c H1=>Q (!c) H1) I h)
def HW(ta tb:TE):TE:=fun σ H Q=>ta σ H fun x H1=>∃c,x=.bl c/\if c=true then tb σ H1 Q else Q (.bl false) H1
def HP(ta:TE):TE:=fun σ H Q=>ta σ H fun x H1=>∃c,x=.bl c/\Q (.bl (!c)) H1
def Jg{op}{t:TE}(h:PE X a t):PE X (.BoolOp op [a] pos) t:=fun pins s σ H Q I hw=>BoolOp_one (h pins s σ H Q I hw)
theorem Jp(ha:PE X a ta)(hb:PE X (.BoolOp .And (b::rest) pos) tb):PE X (.BoolOp .And (a::b::rest) pos) (HW ta tb):=by
 intro pins s σ H Q I h;refine BoolOp_and (thn (ha pins s σ H _ I h) fun v s1 hz=>?_);obtain⟨x,H1,I1,r1,q1⟩:=hz;obtain⟨c,rfl,q1⟩:=q1;cases r1;refine wpAny_truthy_bool ?_;cases c with
 |true=>exact hb pins s1 σ H1 Q I1 q1
 |false=>exact⟨.bl false,H1,I1,rfl,q1⟩
theorem Jh(ha:PE X a ta):PE X (.UnaryOp .Not a pos) (HP ta):=by
 intro pins s σ H Q I h;refine UnaryOp_ (thn (ha pins s σ H _ I h) fun v s1 hz=>?_);obtain⟨x,H1,I1,r1,q1⟩:=hz;obtain⟨c,rfl,q1⟩:=q1;cases r1;exact not_of (wpAny_truthy_bool ⟨.bl (!c),H1,I1,rfl,q1⟩)
end
def SqL(K:Q1)(H:Hp)(a:Addr)(xs:List V):Prop:=
 Rd H a (.lst xs)\/
  ∃(o:Obj) (its:Array Q2) (n:Nat),K.lookup a=some o/\o.cls=.type "list"/\o.dict=none/\o.data=.seq its n/\its.size<=QB/\cG xs its.toList
def SqT(K:Q1)(H:Hp)(a:Addr)(xs:List V):Prop:=
 Rd H a (.tup xs)\/
  ∃(o:Obj) (its:Array Q2) (n:Nat),K.lookup a=some o/\(o.cls=.type "tuple"/\o.dict=none)/\o.data=.seq its n/\its.size<=QB/\cG xs its.toList
def Pj:Q2->Option V
 |.none=>some .non
 |.bool b=>some (.bl b)
 |.int i _=>some (.int i)
 |.str x _=>some (.str x)
 |.bytes b _=>some (.byt b)
 |.float b _=>some (.flt b)
 |.ref a=>some (.ref a)
 |.type n=>some (.ty n)
 |_=>none
theorem dD.abs{x:V}{u:Q2}(r:dD x u):Pj u=some x:=by
 cases x with
 |non=>cases r;rfl
 |bl _=>cases r;rfl
 |int _=>obtain⟨t,rfl⟩:=r;rfl
 |str _=>obtain⟨t,rfl⟩:=r;rfl
 |byt _=>obtain⟨t,rfl⟩:=r;rfl
 |flt _=>obtain⟨t,rfl⟩:=r;rfl
 |ref _=>cases r;rfl
 |ty _=>cases r;rfl
def dD.inj{x y:V}{u:Q2}(r:dD x u)(q:dD y u):x=y:=Option.some.inj (r.abs.symm.trans q.abs)
theorem cG.inj:∀{xs ys:List V} {us:List Q2},cG xs us->cG ys us->xs=ys
 |_,_,_,.nil,.nil=>rfl
 |_,_,_,.cons r t,.cons r' t'=>by rw[r.inj r',cG.inj t t']
section
variable{X:Cx}{pins:List (Addr×Obj)}{σ:St}{H:Hp}{s:Q8}{a:Addr}{xs ys:List V}
def SqL.of{K:Q1}(h:H a=some (.lst xs)):SqL K H a xs:=.inl (.inl h)
def SqT.of{K:Q1}(h:H a=some (.tup xs)):SqT K H a xs:=.inl (.inl h)
theorem Inv.list(I:Inv X pins σ H s)(h:SqL X.K H a xs):∃its:List Q2,cG xs its/\PlainL s.heap a its.toArray/\xs.length<=QB:=by
 rcases h with h|⟨o,its,n,hk,hc,hd,hs,hz,r⟩
 ·obtain⟨z,its,n,r,e⟩:=h.ok I.hok;exact⟨its,r,⟨_,n,e,rfl,rfl,rfl⟩,z⟩
 ·refine⟨its.toList,r,⟨o,n,I.kIn a o hk,hc,hd,by simpa using hs⟩,?_⟩;have e:=r.length;simp only[Array.length_toList]at e;omega
theorem Inv.tuple(I:Inv X pins σ H s)(h:SqT X.K H a xs):∃its:List Q2,cG xs its/\IsTup s.heap a its.toArray/\xs.length<=QB:=by
 rcases h with h|⟨o,its,n,hk,hc,hs,hz,r⟩
 ·obtain⟨z,its,r,p⟩:=h.ok I.hok;exact⟨its,r,p.tup,z⟩
 ·refine⟨its.toList,r,⟨o,I.kIn a o hk,hc.1,n,by simpa using hs⟩,?_⟩;have e:=r.length;simp only[Array.length_toList]at e;omega
theorem Inv.list_inj(I:Inv X pins σ H s)(h:SqL X.K H a xs)(h':SqL X.K H a ys):xs=ys:=by
 obtain⟨its,r,⟨o,n,e,_,_,d⟩,_⟩:=I.list h;obtain⟨its',r',⟨o',n',e',_,_,d'⟩,_⟩:=I.list h';rw[e]at e';cases e';rw[d]at d';injection d' with d1 _;have:its=its':=by simpa using congrArg Array.toList d1
 subst this;exact r.inj r'
theorem Inv.tuple_inj(I:Inv X pins σ H s)(h:SqT X.K H a xs)(h':SqT X.K H a ys):xs=ys:=by
 obtain⟨its,r,⟨o,e,_,n,d⟩,_⟩:=I.tuple h;obtain⟨its',r',⟨o',e',_,n',d'⟩,_⟩:=I.tuple h';rw[e]at e';cases e';rw[d]at d';injection d' with d1 _;have:its=its':=by simpa using congrArg Array.toList d1
 subst this;exact r.inj r'
end
abbrev Cx.wish(X:Cx)(E:Q2->Q8->Prop):Cx:={ X with xe:=E }
abbrev Cx.nox(X:Cx):Cx:=X.wish fun _ _=>False
theorem Cx.Ok.wish{X:Cx}(ok:X.Ok)(E:Q2->Q8->Prop):(X.wish E).Ok:=
 ⟨ok.mod,ok.kind,ok.glob,ok.blt,ok.above,ok.inj,ok.has,ok.cab,ok.hd,ok.frames,ok.stk,ok.exf,ok.bs,ok.bsz,ok.noex,ok.exfs,ok.funs,ok.frf⟩
theorem Cx.Ok.unwish{X:Cx}{E:Q2->Q8->Prop}(ok:(X.wish E).Ok):X.Ok:=
 ⟨ok.mod,ok.kind,ok.glob,ok.blt,ok.above,ok.inj,ok.has,ok.cab,ok.hd,ok.frames,ok.stk,ok.exf,ok.bs,ok.bsz,ok.noex,ok.exfs,ok.funs,ok.frf⟩
section
variable{X:Cx}{pins:List (Addr×Obj)}{σ:St}{H:Hp}{s:Q8}{E:Q2->Q8->Prop}
theorem Inv.wish(I:Inv X pins σ H s)(E:Q2->Q8->Prop):Inv (X.wish E) pins σ H s:=⟨I.ok.wish E,I.os,I.bare,I.base,I.loc,I.cell,I.free,I.freeC,I.pin,I.hok,I.len⟩
theorem Inv.unwish(I:Inv (X.wish E) pins σ H s):Inv X pins σ H s:=⟨I.ok.unwish,I.os,I.bare,I.base,I.loc,I.cell,I.free,I.freeC,I.pin,I.hok,I.len⟩
theorem SP.unwish{D:Aj}{f:Flow}{s':Q8}(h:SP (X.wish E) pins D f s'):SP X pins D f s':=by
 cases f with
 |next=>obtain⟨σ',H',I,q⟩:=h;exact⟨σ',H',I.unwish,q⟩
 |brk=>obtain⟨σ',H',I,q⟩:=h;exact⟨σ',H',I.unwish,q⟩
 |cont=>obtain⟨σ',H',I,q⟩:=h;exact⟨σ',H',I.unwish,q⟩
 |ret u=>obtain⟨v,σ',H',I,r,q⟩:=h;exact⟨v,σ',H',I.unwish,r,q⟩
theorem PSs.nox{st:List Qg}{t:TS}(h:PSs X.nox st t):PSs X st t:=fun pins s σ H D I hw=>
 Z6 (h pins s σ H D (I.wish _) hw) (fun _ _ q=>q.unwish) fun _ _ z=>False.elim z
end
section
variable{X:Cx}{st:Qg}{rest:List Qg}{t u:TS}{e:QK}{te:TE}{pos:Pos}
def HQ:TS:=fun D σ H=>D.nx σ H
def NO(t u:TS):TS:=fun D σ H=>t { D with nx:=u D } σ H
def EI:PSs X [] HQ:=fun _ _ σ H _ I h=>wpAny_execs_nil ⟨σ,H,I,h⟩
theorem Bf(h1:PS X st t)(h2:PSs X rest u):PSs X (st::rest) (NO t u):=by
 intro pins s σ H D I h;refine wpAny_execs_cons (thn (h1 pins s σ H { D with nx:=u D } I h) fun f s1 q=>?_);cases f with
 |next=>
  obtain⟨σ',H',I',q⟩:=q;exact h2 pins s1 σ' H' D I' q
 |ret v=>exact q
 |brk=>exact q
 |cont=>exact q
theorem EH(h1:PS X st t):PSs X [st] t:=by
 intro pins s σ H D I h;refine wpAny_execs_cons (thn (h1 pins s σ H D I h) fun f s1 q=>?_);cases f with
 |next=>exact wpAny_execs_nil q
 |ret v=>exact q
 |brk=>exact q
 |cont=>exact q
theorem Inv.quiet{pins:List (Addr×Obj)}{σ:St}{H:Hp}{s:Q8}(I:Inv X pins σ H s):interactive X.env=false:=by simp[interactive,I.ok.kind]
def HR(te:TE):TS:=fun D σ H=>te σ H fun _ H1=>D.nx σ H1
theorem EK(he:PE X e te)(hs:Z9 e none pos.line X.env=pure false:=by rfl):PS X (.Expr e pos) (HR te):=by
 intro pins s σ H D I h;exact wpAny_Expr_any (thn (he pins s σ H _ I h) fun v s1 ⟨x,H1,I1,r1,q1⟩=>⟨σ,H1,I1,q1⟩) I.quiet hs
def NP(te:TE):TS:=fun D σ H=>te σ H D.rt
theorem IW(he:PE X e te):PS X (.Return (some e) pos) (NP te):=by
 intro pins s σ H D I h;exact wpAny_Return_some (thn (he pins s σ H _ I h) fun v s1 ⟨x,H1,I1,r1,q1⟩=>⟨x,σ,H1,I1,r1,q1⟩)
def NT(c:TT)(t u:TS):TS:=fun D σ H=>c σ H fun b H1=>if b=true then t D σ H1 else u D σ H1
theorem MB{c:QK}{a b:List Qg}{tc:TT}(hc:PT X c tc)(ha:PSs X a t)(hb:PSs X b u):PS X (.If c a b pos) (NT tc t u):=by
 intro pins s σ H D I h;refine wpAny_If (thn (hc pins s σ H _ I h) fun d s1 ⟨H1,I1,q1⟩=>?_);cases d with
 |true=>exact ha pins s1 σ H1 D I1 q1
 |false=>exact hb pins s1 σ H1 D I1 q1
def uZ:TS:=fun _ _ _=>False
def Bi:PS X st uZ:=fun _ _ _ _ _ _ h=>h.elim
def yx{sts:List Qg}:PSs X sts uZ:=fun _ _ _ _ _ _ h=>h.elim
end
abbrev TG:=V->St->Hp->(St->Hp->Prop)->Prop
abbrev TGs:=List V->St->Hp->(St->Hp->Prop)->Prop
def PG(X:Cx)(target:QK)(t:TG):Prop:=
 ∀(pins:List (Addr×Obj)) (s:Q8) (σ:St) (H:Hp) (v:V) (u:Q2) (Q:St->Hp->Prop),Inv X pins σ H s->dD v u->t v σ H Q->
  wpAny (Qq X.prog X.w) X.A (assign target X.env u) (fun _ s'=>∃σ' H',Inv X pins σ' H' s'/\Q σ' H') X.xe s
def PGs(X:Cx)(ts:List QK)(t:TGs):Prop:=
 ∀(pins:List (Addr×Obj)) (s:Q8) (σ:St) (H:Hp) (vs:List V) (us:List Q2) (Q:St->Hp->Prop),Inv X pins σ H s->cG vs us->t vs σ H Q->
  wpAny (Qq X.prog X.w) X.A (assignInOrder ((assignEach ts X.env).map (·.2)) us) (fun _ s'=>∃σ' H',Inv X pins σ' H' s'/\Q σ' H') X.xe s
abbrev K9:=V->V->V->Hp->(Hp->Prop)->Prop
def NG(X:Cx)(t:K9):Prop:=
 ∀(pins:List (Addr×Obj)) (s:Q8) (σ:St) (H:Hp) (o i v:V) (ov iv u:Q2) (Q:Hp->Prop),Inv X pins σ H s->dD o ov->dD i iv->dD v u->t o i v H Q->
  wpAny (Qq X.prog X.w) X.A (setItem ov iv u) (fun _ s'=>∃H',Inv X pins σ H' s'/\Q H') X.xe s
section
variable{X:Cx}{pos:Pos}
def wO(i:Nat):TG:=fun v σ H Q=>Q (σ.set i (some v)) H
theorem ET{i:Nat}{x:Str}(hN:X.N.Nodup)(hi:X.N[i]?=some x)(hx:Loc X.env.scope x)(hf:X.fn x=true\/X.env.scope.names.lookup x=some .local:=by first|exact .inl rfl|exact .inr rfl|assumption):PG X (.Name x pos) (wO i):=by
 intro pins s σ H v u Q I r h;exact wpAny_assign_Name (mE I hN hi hx r (fun s' I'=>⟨_,H,I',h⟩) hf)
def Ol:TGs:=fun vs σ H Q=>vs=[]/\Q σ H
def Kc(t:TG)(u:TGs):TGs:=fun vs σ H Q=>∃v r,vs=v::r/\t v σ H fun σ' H'=>u r σ' H' Q
theorem ES:PGs X [] Ol:=by
 intro pins s σ H vs us Q I r h;obtain⟨e,h⟩:=h;subst e;cases r;exact assignInOrder_nil ⟨σ,H,I,h⟩
theorem Bm{e:QK}{es:List QK}{t:TG}{u:TGs}(h1:PG X e t)(h2:PGs X es u)
  (hs:(assignEach (e::es) X.env).map (·.2)=assign e X.env::(assignEach es X.env).map (·.2):=by rfl):PGs X (e::es) (Kc t u):=by
 intro pins s σ H vs us Q I r h;obtain⟨v,vr,e1,h⟩:=h;subst e1;cases r with
 |cons r rr=>
  rw[hs];refine assignInOrder_cons (thn (h1 pins s σ H _ _ _ I r h) fun _ s1 hz=>?_);obtain⟨σ1,H1,I1,q1⟩:=hz;exact h2 pins s1 σ1 H1 _ _ Q I1 rr q1
def Og(K:Q1)(n:Nat)(t:TGs):TG:=fun v σ H Q=>∃a xs,v=.ref a/\SqT K H a xs/\xs.length=n/\t xs σ H Q
theorem Jb{es:List QK}{k:Nat}{t:TGs}{n:Nat}(hc:X.calm=true)(h:PGs X es t)
  (hn:(assignEach es X.env).length=n:=by rfl) (hst:(assignEach es X.env).findIdx? (·.1)=none:=by rfl):PG X (.Tuple es k pos) (Og X.K n t):=by
 intro pins s σ H v u Q I r hw;obtain⟨a,xs,e1,hq,hl,hw⟩:=hw;subst e1;cases r;obtain⟨its,rv,ht,hz⟩:=I.tuple hq;refine assign_Tuple_tuple (I.ok.hd hc) ht (by simp[hn,<-hl,rv.length]) hst fun h' hx=>?_;have I1:Inv X pins σ H { s with heap:=h' }:=I.kept (t':=s.toks) fun b o e=>hx b o (Qw (QD e)) e;exact h pins _ σ H xs _ Q I1 (by simpa using rv) hw
def Oh(to ti:TE)(t:K9):TG:=fun v σ H Q=>to σ H fun o H1=>ti σ H1 fun i H2=>t o i v H2 fun H3=>Q σ H3
theorem Jc{o i:QK}{to ti:TE}{t:K9}(ho:PE X o to)(hi:PE X i ti)(hs:NG X t)
  (ha:∀v,assign (.Subscript o i pos) X.env v=(do
   let ov <-holding [v] (eval o X.env)
   let iv <-holding [v,ov] (eval i X.env)
   standAt pos
   holding [v,ov,iv] (setItem ov iv v)
   release [v,ov,iv] []):=by intro _;rfl):PG X (.Subscript o i pos) (Oh to ti t):=by
 intro pins s σ H v u Q I r h;rw[ha];refine Q4 (wpAny_holding (thn (ho pins s σ H _ I h) fun ov s1 hz=>?_));obtain⟨x,H1,I1,r1,q1⟩:=hz;refine Q4 (wpAny_holding (thn (hi pins s1 σ H1 _ I1 q1) fun iv s2 hz=>?_));obtain⟨y,H2,I2,r2,q2⟩:=hz;refine Q4 (wpAny_standAt (Q4 (wpAny_holding (thn (hs pins s2 σ H2 x y v ov iv u _ I2 r1 r2 r q2) fun _ s3 ⟨H3,I3,q3⟩=>?_))));exact wpAny_release ⟨σ,H3,I3,q3⟩
def KR(te:TE)(g:TG):TS:=fun D σ H=>te σ H fun x H1=>g x σ H1 D.nx
theorem I0{tg e:QK}{te:TE}{g:TG}(he:PE X e te)(hg:PG X tg g)(hs:swapsWithSole [tg] e pos.line X.env=pure false:=by rfl)(hw:swappedStores [tg] e X.env=pure none:=by rfl)
  (h1:(assignEach [tg] X.env).map (·.2)=[assign tg X.env]:=by rfl):PS X (.Assign [tg] e pos) (KR te g):=by
 intro pins s σ H D I h;refine wpAny_Assign_stores (thn (he pins s σ H _ I h) fun v s1 hz=>?_) hs hw;obtain⟨x,H1,I1,r1,q1⟩:=hz;rw[h1];exact thn (hg pins s1 σ H1 x v _ I1 r1 q1) fun _ s2 q=>q
theorem IV{i:Nat}{x:Str}{e:QK}{te:TE}{pos':Pos}(hN:X.N.Nodup)(hi:X.N[i]?=some x)(hx:Loc X.env.scope x)(he:PE X e te)(hs:Z9 e (some (.Name x pos')) pos.line X.env=pure false:=by rfl)(hf:X.fn x=true\/X.env.scope.names.lookup x=some .local:=by first|exact .inl rfl|exact .inr rfl|assumption) :
  PS X (.Assign [.Name x pos'] e pos) (KR te (wO i)):=by
 intro pins s σ H D I h;refine wpAny_Assign_Name (thn (he pins s σ H _ I h) fun v s1 hz=>?_) hs;obtain⟨y,H1,I1,r1,q1⟩:=hz;exact mE I1 hN hi hx r1 (fun s2 I2=>⟨_,H1,I2,q1⟩) hf
def xW(c:TT)(tb:TS):TS:=fun D σ H=>∃W:Nat->St->Hp->Prop,(∃m,W m σ H)/\∀m σ H,W m σ H->
 c σ H fun b H1=>if b=true then ∃N:St->Hp->Prop,(∀σ' H',N σ' H'->∃m',m'<m/\W m' σ' H')/\tb { D with nx:=N,ct:=N,bk:=D.nx } σ H1 else D.nx σ H1
theorem Bg{c:QK}{body:List Qg}{tc:TT}{tb:TS}(hp:PassesOwn (Qq X.prog X.w) X.A X.env X.xe)(hc:PT X c tc)(hb:PSs X body tb):PS X (.While c body [] pos) (xW tc tb):=by
 intro pins s σ H D I h;obtain⟨W,⟨m0,w0⟩,turn⟩:=h;refine wpAny_While (codeAny_whileLoop (fun n s'=>∃σ' H',Inv X pins σ' H' s'/\W n σ' H') ?_ m0 ⟨σ,H,I,w0⟩);rintro n s1 ⟨σ1,H1,I1,w1⟩;refine wpAny_passesOwn hp (thn (hc pins s1 σ1 H1 _ I1 (turn n σ1 H1 w1)) fun b s2 ⟨H2,I2,q2⟩=>?_);cases b with
 |true=>
  obtain⟨N,hN,q2⟩:=q2;rw[if_pos rfl];refine wpAny_passesOwn hp (thn (hb pins s2 σ1 H2 _ I2 q2) fun f s3 q3=>?_);cases f with
  |next=>
   obtain⟨σ3,H3,I3,n3⟩:=q3;obtain⟨m',hm,w3⟩:=hN σ3 H3 n3;exact⟨m',hm,σ3,H3,I3,w3⟩
  |cont=>
   obtain⟨σ3,H3,I3,n3⟩:=q3;obtain⟨m',hm,w3⟩:=hN σ3 H3 n3;exact⟨m',hm,σ3,H3,I3,w3⟩
  |brk=>exact q3
  |ret v=>exact q3
 |false=>
  rw[if_neg QR];exact wpAny_execs_nil ⟨σ1,H2,I2,q2⟩
end
structure It where
 go:Nat->Hp->Prop
 yld:Nat->Hp->V->Hp->Prop
 stop:Nat->Hp->Prop
def Ap(X:Cx)(pins:List (Addr×Obj))(H:Hp)(b:Addr):Prop:=
 H b=none/\b≠X.env.locals/\b∉X.fs/\(b∈X.ex\/X.s₀.heap.objs.size<=b)/\(∀x c,X.env.cells.lookup x=some c->c≠b)/\∀p∈X.pn++pins,p.1≠b
theorem Inv.fpOk{X:Cx}{pins:List (Addr×Obj)}{σ:St}{H H':Hp}{s:Q8}{b:Addr}(I:Inv X pins σ H s)(hb:s.heap.objs.size<=b)(hn:H' b=none):Ap X pins H' b:=by
 refine⟨hn,Nat.ne_of_gt (Qv I.lt hb),I.nofs hb,.inr (Qk I.sz hb),fun x c e z=>?_,fun p hp z=>?_⟩
 ·obtain⟨v,q⟩:=I.cell x c e;exact absurd (Qv q.lt (by rw[z];exact hb)) (ZE _)
 ·exact absurd (Qv (QD (I.pin p hp).1) (by rw[z];exact hb)) (ZE _)
structure Gn(P:QL)(w:Qu)(K:Q1)(tg:QK)(J:It)(fp:List Addr)(it:Addr)(tn:Nat->Heap->Prop):Prop where
 mem:it∈fp
 obj:∀i h,tn i h->∀b∈fp,∃o,h.get? b=some o/\∀v,o.data≠.cell v
 keep:∀i h h',tn i h->(∀b∈fp,∀o,h.get? b=some o->h'.get? b=some o)->tn i h'
 item:∀(X:Cx),X.prog=P->X.w=w->X.K=K->X.calm=true->∀(i:Nat) (pins:List (Addr×Obj)) (s:Q8) (σ:St) (H:Hp) (E:Q2->Q8->Prop),Inv X pins σ H s->(∀b∈fp,Ap X pins H b)->tn i s.heap->J.go i H->
  wpAny (Qq P w) X.A (pyNext (.ref it)) (fun r s1=>∃u,r=some u/\
   wpAny (Qq P w) X.A (letOwnedTupleGo tg (.ref it) u) (fun _ s2=>∃x H',Inv X pins σ H' s2/\dD x u/\J.yld i H x H'/\tn (i+1) s2.heap/\∀b∈fp,H' b=none) E s1) E s
 done:∀(X:Cx),X.prog=P->X.w=w->X.K=K->X.calm=true->∀(i:Nat) (pins:List (Addr×Obj)) (s:Q8) (σ:St) (H:Hp) (E:Q2->Q8->Prop),Inv X pins σ H s->(∀b∈fp,Ap X pins H b)->tn i s.heap->J.stop i H->
  wpAny (Qq P w) X.A (pyNext (.ref it)) (fun r s1=>r=none/\Inv X pins σ H s1) E s
 self:∀(A:Qe) (i:Nat) (s:Q8) (Q:Q2->Q8->Prop) (E:Q2->Q8->Prop),tn i s.heap->Q (.ref it) s->wpAny (Qq P w) A (pyIter (.ref it)) Q E s
abbrev TI:=St->Hp->(It->Hp->Prop)->Prop
def PIE(X:Cx)(pins:List (Addr×Obj))(σ:St)(tg:QK)(R:It->Hp->Prop)(itv:Q2)(s2:Q8):Prop:=
 ∃(it:Addr) (fp:List Addr) (tn:Nat->Heap->Prop) (J:It) (H':Hp),itv=.ref it/\Inv X pins σ H' s2/\Gn X.prog X.w X.K tg J fp it tn/\tn 0 s2.heap/\(∀b∈fp,Ap X pins H' b)/\R J H'
def PI(X:Cx)(tg iter:QK)(wi:TI):Prop:=
 ∀(pins:List (Addr×Obj)) (s:Q8) (σ:St) (H:Hp) (R:It->Hp->Prop),Inv X pins σ H s->wi σ H R->
  wpAny (Qq X.prog X.w) X.A (eval iter X.env) (fun v s1=>wpAny (Qq X.prog X.w) X.A (pyIter v) (PIE X pins σ tg R) X.xe s1) X.xe s
theorem BP {M : Model} {A : Qe} {E : Q2 -> Q8 -> Prop} {s : Q8} {tg : QK} {it : Addr} {u : Q2} {o : Obj} {n : String} {vs : Array Q2} {Q : Unit -> Q8 -> Prop} (ho : s.heap.get? it = some o) (hc : o.cls = .type n) (hd : o.data = .fields vs)
    (hn:["enumerate","zip","dict_itemiterator","dict_reverseitemiterator","odict_iterator","itertools.zip_longest","itertools.pairwise"].contains n=false) (hQ:Q () s):wpAny M A (letOwnedTupleGo tg (.ref it) u) Q E s:=by
  unfold letOwnedTupleGo;cases tg<;>first
    |exact QC hQ
    | (cases u <;> first
        |exact QC hQ
        | (refine Q4 (wpAny_load ho ?_)
           rw[hc,hd];show wpAny M A (if (["enumerate","zip","dict_itemiterator","dict_reverseitemiterator","odict_iterator","itertools.zip_longest","itertools.pairwise"].contains n&&vs[0]? == some (rawInt _))=true then _ else _) Q E s;rw[if_neg (by intro h;rw[hn,Bool.false_and]at h;cases h)];exact QC hQ))
def Itl(K:Q1)(a:Addr):It:=
 ⟨fun i H=>∃xs x,SqL K H a xs/\xs[i]?=some x,fun i H x H'=>H'=H/\∀xs,SqL K H a xs->xs[i]?=some x,fun i H=>∃xs,SqL K H a xs/\xs.length<=i⟩
def Itt(K:Q1)(a:Addr):It:=
 ⟨fun i H=>∃xs x,SqT K H a xs/\xs[i]?=some x,fun i H x H'=>H'=H/\∀xs,SqT K H a xs->xs[i]?=some x,fun i H=>∃xs,SqT K H a xs/\xs.length<=i⟩
def Itr(lo:Int)(n:Nat):It:=⟨fun i _=>i<n,fun i H x H'=>H'=H/\x=.int (lo+i),fun i _=>n<=i⟩
theorem xQ{P:QL}{w:Qu}{K:Q1}{tg:QK}(a it:Addr):Gn P w K tg (Itl K a) [it] it (fun i h=>h.IsListIter it a i) where
 mem:=by simp
 obj:=fun i h st b hb=>by
  have e:b=it:=by simpa using hb
  subst e;obtain⟨o,e,c,d⟩:=st;exact⟨o,e,fun v z=>by rw[d]at z;cases z⟩
 keep:=fun i h h' st k=>st.at fun o e=>k it (by simp) o e
 item:=by
  intro X hP hw hK hc i pins s σ H E I hf st hg;subst hP hw hK;obtain⟨xs,x,hq,hx⟩:=hg;obtain⟨its,rv,p,hz⟩:=I.list hq;obtain⟨u,hu,ru⟩:=rv.get hx;obtain⟨f0,f1,f2,f3,f4,f5⟩:=hf it (by simp);refine wpAny_pyNext_list_item st p.isList (x:=u) (by simpa using hu) fun h' st' sb=>?_;have I1:Inv X pins σ H { s with heap:=h' }:=I.turned (t':=s.toks) (fun b o hb e=>(sb.2 b hb).trans e) f0 f1 f3 f4 f5;obtain⟨o,e,c,d⟩:=id st';exact⟨u,rfl,BP (s:={ s with heap:=h' }) e c d (by decide) ⟨x,H,I1,ru,⟨rfl,fun ys hy=>by rw[I.list_inj hy hq];exact hx⟩,st',fun b hb=>(hf b hb).1⟩⟩
 done:=by
  intro X hP hw hK hc i pins s σ H E I hf st hg;subst hP hw hK;obtain⟨xs,hq,hx⟩:=hg;obtain⟨its,rv,p,hz⟩:=I.list hq;obtain⟨f0,f1,f2,f3,f4,f5⟩:=hf it (by simp);have hl:=rv.length;exact wpAny_pyNext_list_end (I.ok.hd hc) st p.isList (by simp;omega) fun h' eb=>⟨rfl,I.turned (t':=s.toks) (fun b o hb e=>eb b o hb e) f0 f1 f3 f4 f5⟩
 self:=fun _ _ _ _ _ st h=>wpAny_pyIter_listiter st h
theorem v8{P:QL}{w:Qu}{K:Q1}{tg:QK}(a it:Addr):Gn P w K tg (Itt K a) [it] it (fun i h=>h.IsTupleIter it a i) where
 mem:=by simp
 obj:=fun i h st b hb=>by
  have e:b=it:=by simpa using hb
  subst e;obtain⟨o,e,c,d⟩:=st;exact⟨o,e,fun v z=>by rw[d]at z;cases z⟩
 keep:=fun i h h' st k=>st.at fun o e=>k it (by simp) o e
 item:=by
  intro X hP hw hK hc i pins s σ H E I hf st hg;subst hP hw hK;obtain⟨xs,x,hq,hx⟩:=hg;obtain⟨its,rv,p,hz⟩:=I.tuple hq;obtain⟨u,hu,ru⟩:=rv.get hx;obtain⟨f0,f1,f2,f3,f4,f5⟩:=hf it (by simp);refine wpAny_pyNext_tuple_item st (show s.heap.IsTuple a its.toArray from p) (x:=u) (by simpa using hu) fun h' st' sb=>?_;have I1:Inv X pins σ H { s with heap:=h' }:=I.turned (t':=s.toks) (fun b o hb e=>(sb.2 b hb).trans e) f0 f1 f3 f4 f5;obtain⟨o,e,c,d⟩:=id st';exact⟨u,rfl,BP (s:={ s with heap:=h' }) e c d (by decide) ⟨x,H,I1,ru,⟨rfl,fun ys hy=>by rw[I.tuple_inj hy hq];exact hx⟩,st',fun b hb=>(hf b hb).1⟩⟩
 done:=by
  intro X hP hw hK hc i pins s σ H E I hf st hg;subst hP hw hK;obtain⟨xs,hq,hx⟩:=hg;obtain⟨its,rv,p,hz⟩:=I.tuple hq;obtain⟨f0,f1,f2,f3,f4,f5⟩:=hf it (by simp);have hl:=rv.length;exact wpAny_pyNext_tuple_end (I.ok.hd hc) st (show s.heap.IsTuple a its.toArray from p) (by simp;omega) fun h' eb=>⟨rfl,I.turned (t':=s.toks) (fun b o hb e=>eb b o hb e) f0 f1 f3 f4 f5⟩
 self:=fun _ _ _ _ _ st h=>wpAny_pyIter_tupleiter st h
theorem wc{P:QL}{w:Qu}{K:Q1}{tg:QK}(it:Addr)(lo:Int)(n:Nat):Gn P w K tg (Itr lo n) [it] it (fun i h=>IsRangeIter h it (lo+(i:Nat)*1) ((n:Int)-(i:Nat)) 1) where
 mem:=by simp
 obj:=fun i h st b hb=>by
  have e:b=it:=by simpa using hb
  subst e;exact⟨_,st,fun v z=>by
   have z':Data.fields _=Data.cell v:=z;cases z'⟩
 keep:=fun i h h' st k=>k it (by simp) _ st
 item:=by
  intro X hP hw hK hc i pins s σ H E I hf st hg;subst hP hw hK;obtain⟨f0,f1,f2,f3,f4,f5⟩:=hf it (by simp);have W:=Walks.range (prog:=X.prog) (w:=X.w) (I.ok.hd hc) it lo 1 n;refine W.item i s _ _ hg st fun v h' tk hv st' kk=>?_;obtain⟨t,rfl⟩:=hv;have I1:Inv X pins σ H { s with heap:=h',toks:=tk }:=I.turned (fun b o hb e=>kk b o (by simpa using hb) e) f0 f1 f3 f4 f5;refine⟨_,rfl,BP (s:={ s with heap:=h',toks:=tk }) (n:="range_iterator") st' rfl rfl (by decide) ⟨.int (lo+i),H,I1,⟨t,?_⟩,⟨rfl,rfl⟩,st',fun b hb=>(hf b hb).1⟩⟩;rw[Int.mul_one]
 done:=by
  intro X hP hw hK hc i pins s σ H E I hf st hg;subst hP hw hK;obtain⟨f0,f1,f2,f3,f4,f5⟩:=hf it (by simp);exact wpAny_pyNext_range_end (I.ok.hd hc) st (by have:n<=i:=hg;omega) fun h' eb=>⟨rfl,I.turned (t':=s.toks) (fun b o hb e=>eb b o hb e) f0 f1 f3 f4 f5⟩
 self:=fun _ _ _ _ _ st h=>wpAny_pyIter_rangeiter st h
section
variable{X:Cx}{tg:QK}
def J9(K:Q1)(tl:TE):TI:=fun σ H R=>tl σ H fun x H1=>∃a,x=.ref a/\(∃xs,SqL K H1 a xs)/\R (Itl K a) H1
def Of(K:Q1)(tl:TE):TI:=fun σ H R=>tl σ H fun x H1=>∃a,x=.ref a/\(∃xs,SqT K H1 a xs)/\R (Itt K a) H1
theorem ER{l:QK}{tl:TE}(hl:PE X l tl):PI X tg l (J9 X.K tl):=by
 intro pins s σ H R I h;refine thn (hl pins s σ H _ I h) fun v s1 hz=>?_;obtain⟨x,H1,I1,r1,q1⟩:=hz;obtain⟨a,e,⟨xs,hq⟩,q⟩:=q1;subst e;cases r1;obtain⟨its,rv,p,hz⟩:=I1.list hq;refine wpAny_pyIter_list p.isList ?_;refine⟨s1.heap.objs.size,[s1.heap.objs.size],_,_,H1,rfl,I1.kept (t':=s1.toks) fun b o e=>QX _ e,xQ a _,⟨_,Qy _ rfl,rfl,rfl⟩,fun b hb=>?_,q⟩;have e:b=s1.heap.objs.size:=by simpa using hb
 subst e;exact I1.fpOk (QU _) (I1.hok.fresh (QU _))
theorem Ja{l:QK}{tl:TE}(hl:PE X l tl):PI X tg l (Of X.K tl):=by
 intro pins s σ H R I h;refine thn (hl pins s σ H _ I h) fun v s1 hz=>?_;obtain⟨x,H1,I1,r1,q1⟩:=hz;obtain⟨a,e,⟨xs,hq⟩,q⟩:=q1;subst e;cases r1;obtain⟨its,rv,p,hz⟩:=I1.tuple hq;refine wpAny_pyIter_tuple (show s1.heap.IsTuple a its.toArray from p) ?_;refine⟨s1.heap.objs.size,[s1.heap.objs.size],_,_,H1,rfl,I1.kept (t':=s1.toks) fun b o e=>QX _ e,v8 a _,⟨_,Qy _ rfl,rfl,rfl⟩,fun b hb=>?_,q⟩;have e:b=s1.heap.objs.size:=by simpa using hb
 subst e;exact I1.fpOk (QU _) (I1.hok.fresh (QU _))
theorem vh{pins:List (Addr×Obj)}{σ:St}{H:Hp}{s:Q8}{R:It->Hp->Prop}{E:Q2->Q8->Prop}{lo hi:Int}{t u v:Tok}{tk:Nat}(I:Inv X pins σ H s)(h1:-(2^62)<=lo)(h2:lo<2^62)(h3:-(2^62)<=hi)(h4:hi<2^62)
  (q:R (Itr lo (hi-lo).toNat) H):wpAny (Qq X.prog X.w) X.A (pyIter (.ref s.heap.objs.size)) (PIE X pins σ tg R) E { s with heap:=s.heap.push { cls:=.type "range",data:=.fields #[.int lo t,.int hi u,.int 1 v] },toks:=tk }:=by
 refine wpAny_pyIter_range (IsRange.new ..) (small_one h1 h2 h3 h4) ?_;have I1:Inv X pins σ H { s with heap:=s.heap.push { cls:=.type "range",data:=.fields #[.int lo t,.int hi u,.int 1 v] },toks:=tk }:=I.kept fun b o e=>QX _ e;refine⟨(s.heap.push { cls:=.type "range",data:=.fields #[.int lo t,.int hi u,.int 1 v] }).objs.size,[(s.heap.push { cls:=.type "range",data:=.fields #[.int lo t,.int hi u,.int 1 v] }).objs.size],_,_,H,rfl,
  I1.kept (t':=tk) fun b o e=>QX _ e,wc _ lo (hi-lo).toNat,?_,fun b hb=>?_,q⟩
 ·have e1:lo+((0:Nat):Int)*1=lo:=by simp
  have e2:(((hi-lo).toNat:Nat):Int)-((0:Nat):Int)=Builtin.Range.rangeSize lo hi 1:=by rw[rangeSize_one];split<;>omega
  show IsRangeIter _ _ (lo+((0:Nat):Int)*1) ((((hi-lo).toNat:Nat):Int)-((0:Nat):Int)) 1;rw[e1,e2];exact Qy _ rfl
 ·have e:b=(s.heap.push { cls:=.type "range",data:=.fields #[.int lo t,.int hi u,.int 1 v] }).objs.size:=by simpa using hb
  subst e;exact I1.fpOk (QU _) (I1.hok.fresh (QU _))
def J8(ta:TA):TI:=fun σ H R=>ta σ H fun vs H1=>∃j:Int,vs=[.int j]/\-(2^62)<=j/\j<2^62/\R (Itr 0 j.toNat) H1
def J7(ta:TA):TI:=fun σ H R=>ta σ H fun vs H1=>∃i j:Int,vs=[.int i,.int j]/\(-(2^62)<=i/\i<2^62/\-(2^62)<=j/\j<2^62)/\R (Itr i (j-i).toNat) H1
theorem yB{a:QK}{ta:TA}{p pos:Pos}(hg:Gl X "range")(hm:X.mg "range"=none)(ha:PA X [a] ta)(hs:Q7 [a] X.env=[(false,eval a X.env)]:=by rfl):PI X tg (.Call (.Name "range" p) [a] [] pos) (J8 ta):=by
 intro pins s σ H R I h;refine Call_ (pj I hg hm boot_range (PyProof.Rows.callWith_type1 (thn (ha pos pins s σ H _ I h) fun us s1 ⟨vs,H1,I1,r1,q1⟩=>?_) hs rfl));obtain⟨j,e,q1,q2,q⟩:=q1;subst e;cases r1 with
 |cons r rr=>
  cases rr;obtain⟨t,rfl⟩:=r;exact call_range_1 (vh I1 (by omega) (by omega) q1 q2 (by simpa using q))
theorem yA{a b:QK}{ta:TA}{p pos:Pos}(hg:Gl X "range")(hm:X.mg "range"=none)(ha:PA X [a,b] ta)(hs:Q7 [a,b] X.env=[(false,eval a X.env),(false,eval b X.env)]:=by rfl)(hs2:Q7 [b] X.env=[(false,eval b X.env)]:=by rfl) :
  PI X tg (.Call (.Name "range" p) [a,b] [] pos) (J7 ta):=by
 intro pins s σ H R I h;refine Call_ (pj I hg hm boot_range (PyProof.Rows.callWith_type1 (thn (ha pos pins s σ H _ I h) fun us s1 ⟨vs,H1,I1,r1,q1⟩=>?_) (by rw[hs,hs2]) (by rw[hs2];rfl)));obtain⟨i,j,e,⟨q1,q2,q3,q4⟩,q⟩:=q1;subst e;cases r1 with
 |cons r rr=>
  cases rr with
  |cons r' rr=>
   cases rr;obtain⟨t,rfl⟩:=r;obtain⟨t',rfl⟩:=r';exact call_range_2 (vh I1 q1 q2 q3 q4 q)
def Mo(wi:TI)(g:TG)(tb:TS):TS:=fun D σ H=>wi σ H fun J H1=>∃W:Nat->Nat->St->Hp->Prop,(∃m,W 0 m σ H1)/\∀i m σ H,W i m σ H->
 (J.stop i H/\D.nx σ H)\/(J.go i H/\∃N:St->Hp->Prop,(∀σ' H',N σ' H'->∃m',m'<m/\W (i+1) m' σ' H')/\∀x H',J.yld i H x H'->g x σ H' fun σ2 H2=>tb { D with nx:=N,ct:=N,bk:=D.nx } σ2 H2)
def vk(fp:List Addr)(h:Heap):List (Addr×Obj):=fp.filterMap fun b=>(h.get? b).map fun o=>(b,o)
theorem jt{fp:List Addr}{h:Heap}{b:Addr}{o:Obj}(hb:b∈fp)(e:h.get? b=some o):(b,o)∈vk fp h:=List.mem_filterMap.mpr ⟨b,hb,by rw[e];rfl⟩
theorem yF{fp:List Addr}{h:Heap}{p:Addr×Obj}(hp:p∈vk fp h):p.1∈fp/\h.get? p.1=some p.2:=by
 obtain⟨b,hb,e⟩:=List.mem_filterMap.mp hp;cases q:h.get? b with
 |none=>rw[q]at e;cases e
 |some o=>
  rw[q]at e;have e':(b,o)=p:=Option.some.inj e;subst e';exact⟨hb,q⟩
theorem Inv.pinned{pins:List (Addr×Obj)}{σ:St}{H:Hp}{s:Q8}{fp:List Addr}(I:Inv X pins σ H s)(hf:∀b∈fp,Ap X pins H b)(ho:∀b∈fp,∃o,s.heap.get? b=some o/\∀v,o.data≠.cell v):Inv X (pins++vk fp s.heap) σ H s:=
 I.pins_of fun p hp=>(Qt.mp hp).elim (fun z=>I.pin p (Qp _ z)) fun z=>by
  obtain⟨hb,e⟩:=yF z;obtain⟨f0,f1,f2,_⟩:=hf p.1 hb;obtain⟨o,e',d⟩:=ho p.1 hb;rw[e]at e';cases e';exact⟨e,f0,f1,f2,d⟩
theorem Inv.unpinned{pins pl:List (Addr×Obj)}{σ:St}{H:Hp}{s:Q8}(I:Inv X (pins++pl) σ H s):Inv X pins σ H s:=I.pins_of fun p hp=>I.pin p (Qp _ (List.mem_append_left _ hp))
theorem IX{iter:QK}{body:List Qg}{wi:TI}{g:TG}{tb:TS}{pos:Pos}(hp:PassesOwn (Qq X.prog X.w) X.A X.env X.xe)(hc:X.calm=true)(hi:PI X tg iter wi)(hg:PG X tg g)(hb:PSs X body tb)
  (hs:∀x,foldedSetIterable iter X.env x=pure x:=by intro _;rfl):PS X (.For tg iter body [] pos) (Mo wi g tb):=by
 intro pins s σ H D I h;refine wpAny_For (thn (hi pins s σ H _ I h) fun v s1 h1=>thn h1 fun itv s2 h2=>?_) hs;obtain⟨it,fp,tn,J,H2,e,I2,T,st2,f2,W,⟨m0,w0⟩,turn⟩:=h2;subst e;have stat:∀{H':Hp},(∀b∈fp,H' b=none)->∀b∈fp,Ap X pins H' b:=fun hn b hb=>⟨hn b hb,(f2 b hb).2⟩;refine codeAny_forLoop_any (fun n s'=>∃i σ' H',Inv X pins σ' H' s'/\tn i s'.heap/\(∀b∈fp,H' b=none)/\W i n σ' H') ?_ m0 ⟨0,σ,H2,I2,st2,fun b hb=>(f2 b hb).1,w0⟩;rintro n s3 ⟨i,σ3,H3,I3,st3,fr3,w3⟩;rcases turn i n σ3 H3 w3 with⟨stop,qn⟩|⟨go,N,hN,step⟩
 ·refine wpAny_passesOwn hp (thn (T.done X rfl rfl rfl hc i pins s3 σ3 H3 X.xe I3 (stat fr3) st3 stop) fun r s4 ⟨hr,I4⟩=>?_);subst hr;exact wpAny_execs_nil ⟨σ3,H3,I4,qn⟩
 ·refine wpAny_passesOwn hp (thn (T.item X rfl rfl rfl hc i pins s3 σ3 H3 X.xe I3 (stat fr3) st3 go) fun r s4 ⟨u,hr,h4⟩=>?_);subst hr;refine wpAny_passesOwn hp (thn h4 fun _ s5 hz=>?_);obtain⟨x,H5,I5,r5,y5,st5,fr5⟩:=hz;have I5':=I5.pinned (stat fr5) (T.obj _ _ st5);refine wpAny_passesOwn hp (thn (hg _ s5 σ3 H5 x u _ I5' r5 (step x H5 y5)) fun _ s6 hz=>?_);obtain⟨σ6,H6,I6,q6⟩:=hz;refine wpAny_passesOwn hp (thn (hb _ s6 σ6 H6 _ I6 q6) fun f s7 q7=>?_);have again:∀{σ7:St} {H7:Hp},Inv X (pins++vk fp s5.heap) σ7 H7 s7->N σ7 H7->∃m,m<n/\∃i σ' H',Inv X pins σ' H' s7/\tn i s7.heap/\(∀b∈fp,H' b=none)/\W i m σ' H':=fun{σ7 H7} I7 n7=>by
   obtain⟨m',hm,w7⟩:=hN σ7 H7 n7;refine⟨m',hm,i+1,σ7,H7,I7.unpinned,T.keep _ _ _ st5 fun b hb o e=>(I7.pin (b,o) (Qp _ (Qp _ (jt hb e)))).1,fun b hb=>?_,w7⟩;obtain⟨o,e,d⟩:=T.obj _ _ st5 b hb;exact(I7.pin (b,o) (Qp _ (Qp _ (jt hb e)))).2.1
  cases f with
  |next=>obtain⟨σ7,H7,I7,n7⟩:=q7;exact again I7 n7
  |cont=>obtain⟨σ7,H7,I7,n7⟩:=q7;exact again I7 n7
  |brk=>obtain⟨σ7,H7,I7,q7⟩:=q7;exact⟨σ7,H7,I7.unpinned,q7⟩
  |ret v=>obtain⟨x7,σ7,H7,I7,r7,q7⟩:=q7;exact⟨x7,σ7,H7,I7.unpinned,r7,q7⟩
end
abbrev R2:=V->V->Hp->VK->Prop
def OpR(X:Cx)(f:Q2->Q2->Sem Q2)(r:R2):Prop:=
 ∀(pins:List (Addr×Obj)) (s:Q8) (σ:St) (H:Hp) (x y:V) (v u:Q2) (Q:VK),Inv X pins σ H s->dD x v->dD y u->r x y H Q->
  wpAny (Qq X.prog X.w) X.A (f v u) (EP X pins σ Q) X.xe s
def UnR(X:Cx)(f:Q2->Sem Q2)(r:V->Hp->VK->Prop):Prop:=
 ∀(pins:List (Addr×Obj)) (s:Q8) (σ:St) (H:Hp) (x:V) (v:Q2) (Q:VK),Inv X pins σ H s->dD x v->r x H Q->
  wpAny (Qq X.prog X.w) X.A (f v) (EP X pins σ Q) X.xe s
def f7(X:Cx)(f:Q2)(r:List V->Hp->VK->Prop):Prop:=
 ∀(pins:List (Addr×Obj)) (s:Q8) (σ:St) (H:Hp) (xs:List V) (us:List Q2) (Q:VK),Inv X pins σ H s->cG xs us->r xs H Q->
  wpAny (Qq X.prog X.w) X.A (call f us) (EP X pins σ Q) X.xe s
def tOp(r:R2)(ta tb:TE):TE:=fun σ H Q=>ta σ H fun x H1=>tb σ H1 fun y H2=>r x y H2 Q
def tUn(r:V->Hp->VK->Prop)(ta:TE):TE:=fun σ H Q=>ta σ H fun x H1=>r x H1 Q
def rI(C:Int->Int->Prop)(g:Int->Int->V):R2:=fun x y H Q=>∃i j,x=.int i/\y=.int j/\C i j/\Q (g i j) H
def rI0(g:Int->Int->V):R2:=fun x y H Q=>∃i j,x=.int i/\y=.int j/\Q (g i j) H
section
variable{X:Cx}{a b:QK}{ta tb:TE}{pos:Pos}
theorem K8(ha:PE X a ta)(hb:PE X b tb){pins:List (Addr×Obj)}{s:Q8}{σ:St}{H:Hp}{R:V->V->Hp->Prop}(I:Inv X pins σ H s)
  (h:ta σ H fun x H1=>tb σ H1 fun y H2=>R x y H2) {Q:Q2->Q8->Prop} {f:Q2->Q2->Sem Q2}
  (hf:∀v u s2 x y H2,Inv X pins σ H2 s2->dD x v->dD y u->R x y H2->wpAny (Qq X.prog X.w) X.A (f v u) Q X.xe s2) :
  wpAny (Qq X.prog X.w) X.A (eval a X.env) (fun v s₁=>wpAny (Qq X.prog X.w) X.A (eval b X.env) (fun u s₂=>wpAny (Qq X.prog X.w) X.A (f v u) Q X.xe s₂) X.xe s₁) X.xe s:=by
 refine thn (ha pins s σ H _ I h) fun v s1 hz=>?_;obtain⟨x,H1,I1,r1,q1⟩:=hz;refine thn (hb pins s1 σ H1 _ I1 q1) fun u s2 hz=>?_;obtain⟨y,H2,I2,r2,q2⟩:=hz;exact hf v u s2 x y H2 I2 r1 r2 q2
theorem ME{op:Operator}{r:R2}(ho:OpR X (binaryOp op) r)(ha:PE X a ta)(hb:PE X b tb):PE X (.BinOp a op b pos) (tOp r ta tb):=by
 intro pins s σ H Q I h;exact wpAny_BinOp (K8 ha hb I h fun v u s2 x y H2 I2 rx ry q=>ho pins s2 σ H2 x y v u Q I2 rx ry q)
theorem MD{op:UnaryOp}{r:V->Hp->VK->Prop}(ho:UnR X (unaryOp op) r)(ha:PE X a ta):PE X (.UnaryOp op a pos) (tUn r ta):=by
 intro pins s σ H Q I h;exact UnaryOp_ (thn (ha pins s σ H _ I h) fun v s1 ⟨x,H1,I1,r1,q1⟩=>ho pins s1 σ H1 x v Q I1 r1 q1)
theorem opI{f:Q2->Q2->Sem Q2}{C:Int->Int->Prop}{g:Int->Int->Int}
  (rule:∀(i j:Int) (t u:Tok) (s:Q8) (Q:Q2->Q8->Prop) (E:Q2->Q8->Prop),C i j->Q (.int (g i j) s.toks) { s with toks:=s.toks+1 }->wpAny (Qq X.prog X.w) X.A (f (.int i t) (.int j u)) Q E s) :
  OpR X f (rI C fun i j=>.int (g i j)):=by
 intro pins s σ H x y v u Q I rx ry h;obtain⟨i,j,rfl,rfl,hc,q⟩:=h;obtain⟨t,rfl⟩:=rx;obtain⟨t',rfl⟩:=ry;exact rule i j t t' s _ _ hc ⟨.int (g i j),H,I.tok _,⟨_,rfl⟩,q⟩
theorem N2{f:Q2->Q2->Sem Q2}{g:Int->Int->Int}
  (rule:∀(i j:Int) (t u:Tok) (s:Q8) (Q:Q2->Q8->Prop) (E:Q2->Q8->Prop),Q (.int (g i j) s.toks) { s with toks:=s.toks+1 }->wpAny (Qq X.prog X.w) X.A (f (.int i t) (.int j u)) Q E s) :
  OpR X f (rI0 fun i j=>.int (g i j)):=by
 intro pins s σ H x y v u Q I rx ry h;obtain⟨i,j,rfl,rfl,q⟩:=h;obtain⟨t,rfl⟩:=rx;obtain⟨t',rfl⟩:=ry;exact rule i j t t' s _ _ ⟨.int (g i j),H,I.tok _,⟨_,rfl⟩,q⟩
theorem K0{f:Q2->Q2->Sem Q2}{g:Int->Int->Bool}
  (rule:∀(i j:Int) (t u:Tok) (s:Q8) (Q:Q2->Q8->Prop) (E:Q2->Q8->Prop),Q (.bool (g i j)) s->wpAny (Qq X.prog X.w) X.A (f (.int i t) (.int j u)) Q E s) :
  OpR X f (rI0 fun i j=>.bl (g i j)):=by
 intro pins s σ H x y v u Q I rx ry h;obtain⟨i,j,rfl,rfl,q⟩:=h;obtain⟨t,rfl⟩:=rx;obtain⟨t',rfl⟩:=ry;exact rule i j t t' s _ _ ⟨.bl (g i j),H,I,rfl,q⟩
def Gr(i j:Int):Prop:=0<=j/\j<=1000000/\i.natAbs<2^64
def wZ(i j:Int):Prop:=(-(2^64)<i/\i<2^64)\/(-(2^64)<j/\j<2^64)
theorem wZ.ok{i j:Int}(h:wZ i j):IntMulOk i j:=by
 rcases h with⟨h1,h2⟩|⟨h1,h2⟩
 ·exact .of_left (intBits_le_64 h1 h2)
 ·exact .of_right (intBits_le_64 h1 h2)
def JD:OpR X (binaryOp .Add) (rI0 fun i j=>.int (i+j)):=N2 fun _ _ _ _ _ _ _ q=>add_int q
def eU:OpR X (binaryOp .Sub) (rI0 fun i j=>.int (i-j)):=N2 fun _ _ _ _ _ _ _ q=>sub_int q
def ky:OpR X (binaryOp .Mult) (rI wZ fun i j=>.int (i*j)):=opI fun _ _ _ _ _ _ _ hc q=>mul_int q hc.ok
theorem nK:OpR X (binaryOp .Mod) (rI (fun _ j=>0<j) fun i j=>.int (i % j)):=opI fun i j _ _ _ _ _ hc q=>by
 have h1:(0:Int)<j:=hc;exact mod_int' (by omega) (by rw[Int.fmod_eq_emod_of_nonneg i (by omega)];exact q)
theorem CY:OpR X (binaryOp .Pow) (rI Gr fun i j=>.int (i^j.toNat)):=opI fun _ _ _ _ _ _ _ hc q=>pow_int_small hc.1 hc.2.1 hc.2.2 q
end
def Mr:V->V->Bool
 |.non,.non=>true|.non,.int _=>true|.int _,.non=>true|.non,.bl _=>true|.bl _,.non=>true|.non,.str _=>true|.str _,.non=>true
 |.int _,.int _=>true|.bl _,.bl _=>true|.str _,.str _=>true|.byt _,.byt _=>true
 |.int _,.str _=>true|.str _,.int _=>true|.bl _,.str _=>true|.str _,.bl _=>true
 |_,_=>false
def rEq:R2:=fun x y H Q=>Mr x y=true/\Q (.bl (decide (x=y))) H
def rNe:R2:=fun x y H Q=>Mr x y=true/\Q (.bl (!decide (x=y))) H
theorem zG{i j:Int}:decide (V.int i=V.int j)=(i == j):=by
 rw[Bool.eq_iff_iff];simp
theorem Dk{i j:Bool}:decide (V.bl i=V.bl j)=(i == j):=by
 rw[Bool.eq_iff_iff];simp
theorem zF{i j:Str}:decide (V.str i=V.str j)=(i == j):=by
 rw[Bool.eq_iff_iff];simp
theorem zH{i j:Array UInt8}:decide (V.byt i=V.byt j)=(i.toList == j.toList):=by
 rw[Bool.eq_iff_iff];cases i;cases j;simp
section
variable{X:Cx}{a b c:QK}{ta tb tc:TE}{pos:Pos}
theorem b8{pins:List (Addr×Obj)}{σ:St}{H:Hp}{s:Q8}{Q:VK}{k k':Bool}(I:Inv X pins σ H s)(q:Q (.bl k) H)(e:k=k'):EP X pins σ Q (.bool k') s:=by
 subst e;exact⟨.bl k,H,I,rfl,q⟩
theorem dz:OpR X (compareOp .Eq) rEq:=by
 intro pins s σ H x y v u Q I rx ry h;obtain⟨hs,q⟩:=h;cases x with
 |non=>
  cases rx;cases y with
  |non=>cases ry;exact PySem.EqNone.eq_none_none (b8 I q (by simp))
  |bl j=>cases ry;exact PySem.EqNone.eq_none_bool (b8 I q (by simp))
  |int j=>obtain⟨t',rfl⟩:=ry;exact PySem.EqNone.eq_none_int (b8 I q (by simp))
  |str j=>obtain⟨t',rfl⟩:=ry;exact PySem.EqNone.eq_none_str (b8 I q (by simp))
  |_=>exact absurd (show false=true from hs) QR
 |bl i=>
  cases rx;cases y with
  |non=>cases ry;exact PySem.EqNone.eq_bool_none (b8 I q (by simp))
  |bl j=>cases ry;exact eq_bool (b8 I q Dk)
  |str j=>obtain⟨t',rfl⟩:=ry;exact PySem.EqMixed.eq_bool_str (b8 I q (by simp))
  |_=>exact absurd (show false=true from hs) QR
 |int i=>
  obtain⟨t,rfl⟩:=rx;cases y with
  |non=>cases ry;exact PySem.EqNone.eq_int_none (b8 I q (by simp))
  |int j=>obtain⟨t',rfl⟩:=ry;exact eq_int (b8 I q zG)
  |str j=>obtain⟨t',rfl⟩:=ry;exact PySem.EqMixed.eq_int_str (b8 I q (by simp))
  |_=>exact absurd (show false=true from hs) QR
 |str i=>
  obtain⟨t,rfl⟩:=rx;cases y with
  |non=>cases ry;exact PySem.EqNone.eq_str_none (b8 I q (by simp))
  |bl j=>cases ry;exact PySem.EqMixed.eq_str_bool (b8 I q (by simp))
  |int j=>obtain⟨t',rfl⟩:=ry;exact PySem.EqMixed.eq_str_int (b8 I q (by simp))
  |str j=>obtain⟨t',rfl⟩:=ry;exact eq_str (b8 I q zF)
  |_=>exact absurd (show false=true from hs) QR
 |byt i=>
  obtain⟨t,rfl⟩:=rx;cases y with
  |byt j=>obtain⟨t',rfl⟩:=ry;exact PySem.W.eq_bytes (b8 I q zH)
  |_=>exact absurd (show false=true from hs) QR
 |_=>cases y<;>exact absurd (show false=true from hs) QR
theorem BB:OpR X (compareOp .NotEq) rNe:=by
 intro pins s σ H x y v u Q I rx ry h;obtain⟨hs,q⟩:=h;cases x with
 |non=>
  cases rx;cases y with
  |non=>cases ry;exact PySem.EqNone.ne_none_none (b8 I q (by simp))
  |bl j=>cases ry;exact PySem.EqNone.ne_none_bool (b8 I q (by simp))
  |int j=>obtain⟨t',rfl⟩:=ry;exact PySem.EqNone.ne_none_int (b8 I q (by simp))
  |str j=>obtain⟨t',rfl⟩:=ry;exact PySem.EqNone.ne_none_str (b8 I q (by simp))
  |_=>exact absurd (show false=true from hs) QR
 |bl i=>
  cases rx;cases y with
  |non=>cases ry;exact PySem.EqNone.ne_bool_none (b8 I q (by simp))
  |bl j=>cases ry;exact ne_bool (b8 I q (congrArg not Dk))
  |str j=>obtain⟨t',rfl⟩:=ry;exact PySem.EqMixed.ne_bool_str (b8 I q (by simp))
  |_=>exact absurd (show false=true from hs) QR
 |int i=>
  obtain⟨t,rfl⟩:=rx;cases y with
  |non=>cases ry;exact PySem.EqNone.ne_int_none (b8 I q (by simp))
  |int j=>obtain⟨t',rfl⟩:=ry;exact ne_int (b8 I q (congrArg not zG))
  |str j=>obtain⟨t',rfl⟩:=ry;exact PySem.EqMixed.ne_int_str (b8 I q (by simp))
  |_=>exact absurd (show false=true from hs) QR
 |str i=>
  obtain⟨t,rfl⟩:=rx;cases y with
  |non=>cases ry;exact PySem.EqNone.ne_str_none (b8 I q (by simp))
  |bl j=>cases ry;exact PySem.EqMixed.ne_str_bool (b8 I q (by simp))
  |int j=>obtain⟨t',rfl⟩:=ry;exact PySem.EqMixed.ne_str_int (b8 I q (by simp))
  |str j=>obtain⟨t',rfl⟩:=ry;exact ne_str (b8 I q (congrArg not zF))
  |_=>exact absurd (show false=true from hs) QR
 |byt i=>
  obtain⟨t,rfl⟩:=rx;cases y with
  |byt j=>obtain⟨t',rfl⟩:=ry;exact PySem.W.ne_bytes (b8 I q (congrArg not zH))
  |_=>exact absurd (show false=true from hs) QR
 |_=>cases y<;>exact absurd (show false=true from hs) QR
def gC:OpR X (compareOp .Lt) (rI0 fun i j=>.bl (decide (i<j))):=K0 fun _ _ _ _ _ _ _ q=>lt_int q
def BC:OpR X (compareOp .LtE) (rI0 fun i j=>.bl (decide (i<=j))):=K0 fun _ _ _ _ _ _ _ q=>le_int q
def oF:OpR X (compareOp .Gt) (rI0 fun i j=>.bl (decide (j<i))):=K0 fun _ _ _ _ _ _ _ q=>gt_int q
def MM:OpR X (compareOp .GtE) (rI0 fun i j=>.bl (decide (j<=i))):=K0 fun _ _ _ _ _ _ _ q=>ge_int q
theorem CZ:OpR X (compareOp .Is) (fun x y H Q=>y=.non/\Q (.bl (decide (x=.non))) H):=by
 intro pins s σ H x y v u Q I rx ry h;obtain⟨rfl,q⟩:=h;cases ry;refine is_none_gen (b8 I q ?_);cases x<;>first
  |(cases rx;rfl)
  |(obtain⟨t,rfl⟩:=rx;rfl)
theorem lg:OpR X (compareOp .IsNot) (fun x y H Q=>y=.non/\Q (.bl (!decide (x=.non))) H):=by
 intro pins s σ H x y v u Q I rx ry h;obtain⟨rfl,q⟩:=h;cases ry;refine isnot_none_gen (b8 I q ?_);cases x<;>first
  |(cases rx;rfl)
  |(obtain⟨t,rfl⟩:=rx;rfl)
theorem OpR.or{f:Q2->Q2->Sem Q2}{r r':R2}(h:OpR X f r)(h':OpR X f r'):OpR X f (fun x y H Q=>r x y H Q\/r' x y H Q):=by
 intro pins s σ H x y v u Q I rx ry q;rcases q with q|q
 ·exact h pins s σ H x y v u Q I rx ry q
 ·exact h' pins s σ H x y v u Q I rx ry q
theorem aK(b:QK){op:CmpOp}(h:op≠.In:=by decide)(h2:op≠.NotIn:=by decide):behindInMarks op b=false:=by
 have e1:(op == CmpOp.In)=false:=by cases op<;>first|rfl|exact absurd rfl h
 have e2:(op == CmpOp.NotIn)=false:=by cases op<;>first|rfl|exact absurd rfl h2
 cases b<;>simp[behindInMarks,e1,e2]
theorem EY{op:CmpOp}{r:R2}(ho:OpR X (compareOp op) r)(ha:PE X a ta)(hb:PE X b tb)(hm:behindInMarks op b=false):PE X (.Compare a [op] [b] pos) (tOp r ta tb):=by
 intro pins s σ H Q I h;exact wpAny_Compare1 (K8 ha hb I h fun v u s2 x y H2 I2 rx ry q=>ho pins s2 σ H2 x y v u Q I2 rx ry q) hm
def HL(t:TE):TT:=fun σ H Q=>t σ H fun x H'=>∃k,x=.bl k/\Q k H'
theorem EG{op:CmpOp}{r:R2}(ho:OpR X (compareOp op) r)(ha:PE X a ta)(hb:PE X b tb)(hm:behindInMarks op b=false):PT X (.Compare a [op] [b] pos) (HL (tOp r ta tb)):=by
 intro pins s σ H Q I h;refine wpAny_isTrue_Compare1 (thn (ha pins s σ H _ I h) fun v s1 ⟨x,H1,I1,r1,q1⟩=>thn (hb pins s1 σ H1 _ I1 q1) fun u s2 ⟨y,H2,I2,r2,q2⟩=>
  thn (ho pins s2 σ H2 x y v u _ I2 r1 r2 q2) fun c s3 ⟨z,H3,I3,r3,k,e,q3⟩=>?_) hm
 subst e;cases r3;exact wpAny_truthy_bool ⟨H3,I3,q3⟩
def xY(r r':R2)(ta tb tc:TE):TE:=fun σ H Q=>ta σ H fun x H1=>tb σ H1 fun y H2=>r x y H2 fun z H3=>∃k,z=.bl k/\
 (if k=true then tc σ H3 fun w' H4=>r' y w' H4 Q else Q (.bl false) H3)
theorem Br{op op':CmpOp}{r r':R2}(ho:OpR X (compareOp op) r)(ho':OpR X (compareOp op') r')(ha:PE X a ta)(hb:PE X b tb)(hc:PE X c tc)
  (hm:lastMarks [op,op'] [b,c]=false:=by with_unfolding_all rfl):PE X (.Compare a [op,op'] [b,c] pos) (xY r r' ta tb tc):=by
 intro pins s σ H Q I h;refine Compare_chain (thn (ha pins s σ H _ I h) fun v s1 ⟨x,H1,I1,r1,q1⟩=>chain_link (thn (hb pins s1 σ H1 _ I1 q1) fun u s2 ⟨y,H2,I2,r2,q2⟩=>
  thn (ho pins s2 σ H2 x y v u _ I2 r1 r2 q2) fun d s3 ⟨z,H3,I3,r3,k,e,q3⟩=>?_)) hm
 subst e;cases r3;refine wpAny_truthy_bool ?_;cases k with
 |false=>exact ite_ff ⟨.bl false,H3,I3,rfl,q3⟩
 |true=>exact ite_tt (chain_last (thn (hc pins s3 σ H3 _ I3 q3) fun w' s4 ⟨z',H4,I4,r4,q4⟩=>ho' pins s4 σ H4 y z' u w' Q I4 r2 r4 q4))
def vv:(QB:Nat)<2^63:=by rw[sizeLine_eq];decide
theorem wz:OpR X (binaryOp .Add) (fun x y H Q=>∃i j,x=.str i/\y=.str j/\i.length+j.length<=QB/\Q (.str (i++j)) H):=by
 intro pins s σ H x y v u Q I rx ry h;obtain⟨i,j,rfl,rfl,hz,q⟩:=h;obtain⟨t,rfl⟩:=rx;obtain⟨t',rfl⟩:=ry;exact add_str (fun t' tk=>⟨.str (i++j),H,I.tok _,⟨_,rfl⟩,q⟩) hz
def qz(b:QK):Prop:=∀o i,subscripted b false o i=operate [o,i] (getItem o i)
theorem tR(ha:PE X a ta)(hb:PE X b tb)(hs:qz b) :
  PE X (.Subscript a b pos) (tOp (fun x y H Q=>∃z i c,x=.str z/\y=.int i/\0<=i/\i<2^63/\i<z.length/\z.cps[i.toNat]?=some c/\Q (.str ⟨#[c]⟩) H) ta tb):=by
 intro pins s σ H Q I h;refine Subscript_ (K8 ha hb I h fun v u s2 x y H2 I2 rx ry q=>?_);obtain⟨z,i,c,rfl,rfl,h0,h63,h1,hc,q⟩:=q;obtain⟨t,rfl⟩:=rx;obtain⟨t',rfl⟩:=ry;have e:seqIndex? i z.length=some i.toNat:=PySem.StrLaws.seqIndex_nonneg h0 h1;exact tail_any (typeIs_str s2 z t) slot_str_getitem.lookup (getItem_str (c:=c) (by
  have e1:decide (i < -(2^63:Int))=false:=decide_eq_false (by omega);have e2:decide (i≥2^63)=false:=decide_eq_false (by omega);rw[e1,e2]<;>rfl) (by rw[e];exact hc) ⟨.str ⟨#[c]⟩,H2,I2.tok _,⟨_,rfl⟩,q⟩) (hs _ _)
theorem mK{x:V}{us:List Q2}(r:cG [x] us):∃u,us=[u]/\dD x u:=by
 cases r with
 |cons r1 r2=>cases r2;exact⟨_,rfl,r1⟩
theorem tD{x y:V}{us:List Q2}(r:cG [x,y] us):∃u w',us=[u,w']/\dD x u/\dD y w':=by
 cases r with
 |cons r1 r2=>
  cases r2 with
  |cons r3 r4=>cases r4;exact⟨_,_,rfl,r1,r3⟩
theorem zR(hc:X.calm=true):f7 X (.builtin "min") (fun xs H Q=>∃i j,xs=[.int i,.int j]/\Q (.int (if j<i then j else i)) H):=by
 intro pins s σ H xs us Q I r h;obtain⟨i,j,rfl,q⟩:=h;obtain⟨u,w',rfl,⟨t,rfl⟩,⟨t',rfl⟩⟩:=tD r;refine min_two_ints (I.ok.hd hc) fun h' tk k=>⟨_,H,I.kept k,?_,q⟩;by_cases hj:j<i
 ·rw[if_pos hj,if_pos hj];exact⟨_,rfl⟩
 ·rw[if_neg hj,if_neg hj];exact⟨_,rfl⟩
theorem dI:f7 X (.type "str") (fun xs H Q=>∃i,xs=[.int i]/\i.natAbs.log2<1920/\Q (.str (toString i)) H):=by
 intro pins s σ H xs us Q I r h;obtain⟨i,rfl,hz,q⟩:=h;obtain⟨u,rfl,t,rfl⟩:=mK r;exact PySem.P.str_of_int hz ⟨.str _,H,I.tok _,⟨_,rfl⟩,q⟩
end
structure Ge(h:Heap)(x dx C:Addr)(mA:Str->Option Q2):Prop where
 obj:h.get? x=some (PySem.W.instObj C dx)
 ns:h.Ns1 dx mA
 ne:dx≠x
theorem rO{h:Heap}{dx:Addr}{mA:Str->Option Q2}(n:h.Ns1 dx mA):∃od,h.get? dx=some od/\∀name,PySem.W.lookIn name od=some (mA name):=by
 obtain⟨o,es,ep,ho,hd,hk,_,hm⟩:=n;refine⟨o,ho,fun name=>?_⟩;have e:=hm name;unfold nsFind findBy at e;rw[<-Array.find?_toList]at e;unfold PySem.W.lookIn;rw[hd];dsimp only;split
 ·rename_i y q;rw[q]at e;exact congrArg some e
 ·rename_i q;rw[q]at e;have a:es.toList.any (·.refKey)=false:=by
   rw[List.any_eq_false];intro y hy;obtain⟨z,t,hkey⟩:=hk y (Array.mem_toList_iff.mp hy);simp[DictEntry.refKey,hkey]
  have a':¬es.toList.any (·.refKey)=true:=by rw[a];exact QR
  rw[if_neg a'];exact congrArg some e
theorem Ge.look{h:Heap}{x dx C:Addr}{mA:Str->Option Q2}(I:Ge h x dx C mA):∃od,PySem.W.InstAt h x (PySem.W.instObj C dx) C (some od)/\∀name,PySem.W.lookIn name od=some (mA name):=
 let ⟨od,ho,hl⟩:=rO I.ns
 ⟨od,⟨I.obj,rfl,rfl,ho⟩,hl⟩
section
variable{prog:QL}{w:Qu}{A:Qe}{E:Q2->Q8->Prop}{s:Q8}{K:Q1}{x dx C f:Addr}{mA:Str->Option Q2}{name:Str}{v:Q2}
theorem FV{expr:Bool}{Q:Q2->Q8->Prop}(X:K.In s.heap)(I:Ge s.heap x dx C mA)(hg:PySem.W.plainGet K C name=true)(hh:PySem.W.hasDictIn K C=true)
  (ha:PySem.W.findIn K (.ref C) name=some none) (hv:mA name=some v) (hv':PySem.W.handedIn v=true) (h:Q v { s with toks:=s.toks+1 }) :
  wpAny (Qq prog w) A (getAttr (.ref x) name expr) Q E s:=by
 obtain⟨od,J,hl⟩:=I.look;exact PySem.W.get_value X J (PySem.W.plainGet_of hg).1 (PySem.W.findObj_own hh ha rfl (by rw[hl,hv])) hv' h
theorem BQ{pl:Sem Bool}{Q:Q2×List Q2->Q8->Prop}(X:K.In s.heap)(I:Ge s.heap x dx C mA)(hg:PySem.W.plainGet K C name=true)
  (hf:PySem.W.findIn K (.ref C) name=some (some (.ref f))) (ht:PySem.W.isFn K (.ref f)=true) (hv:mA name=none) (h:Q (.ref f,[.ref x]) s) :
  wpAny (Qq prog w) A (getMethod (.ref x) name pl) Q E s:=by
 obtain⟨od,J,hl⟩:=I.look;exact PySem.W.method_fn X J (PySem.W.plainGet_of hg).1 (PySem.W.plainGet_of hg).2 hf (beq_iff_eq.mp ht) (by show(PySem.W.lookIn name od).map (·.isSome)=some false;rw[hl,hv];rfl) h
theorem Ep{ns:List Str}{Q:Unit->Q8->Prop}(X:K.In s.heap)(I:Ge s.heap x dx C mA)
  (hs:PySem.W.findIn K (.ref C) "__setattr__"=some (some (.builtin "object.__setattr__"))) (hp:PySem.W.plainOver K C=true) (ht:PySem.W.takerIn K C name=some none) (hh:PySem.W.hasDictIn K C=true)
  (hw:PySem.Within mA ns) (hsz:ns.length<=QB)
  (h:∀h',Ge h' x dx C (fun y=>if y=name then some v else mA y)->Heap.SameBut dx s.heap h'->Q () { s with heap:=h',toks:=s.toks+2 }) :
  wpAny (Qq prog w) A (setAttr (.ref x) name v) Q E s:=by
 obtain⟨od,J,hl⟩:=I.look;refine PySem.W.set_plain X J hs (PySem.W.osa_open (s:={ s with toks:=s.toks+1 }) (r:=none) X J hp ht fun b=>?_);obtain⟨cd,hc,hd'⟩:=PySem.W.any_some hh;have hx:s.heap.get? x=some ⟨.ref C,some dx,.plain,#[]⟩:=I.obj;refine Q4 (QC (Q4 (Q4 (wpAny_loadPart hx (Q4 (PySem.W.Looks.here (s:={ s with toks:=s.toks+1 }) (PySem.W.looks_clsIn X hc) ?_))))));rw[hd'];refine QC (a:=some dx) (Q4 (QC (Q4 ?_)));refine wpAny_nsSet1 (s:={ s with toks:=s.toks+1 }) I.ns fun h' hn2 hs2=>?_;obtain⟨oD,esD,epD,hoD,hdD,hcD⟩:=hn2.count (PySem.Within.cons name v hw);refine Q4 (wpAny_lookBehind hoD (by rw[hdD];exact pastItsLine_dict (Qk hcD (by rw[Q5];omega))) ?_);exact QC (h _ ⟨(hs2.2 _ (Ne.symm I.ne)).trans I.obj,hn2,I.ne⟩ hs2)
theorem BG{R:Result->Q8->Prop}{vs:List Q2}{kw:List (Str×Q2)}(X:K.In s.heap)(hm:PySem.W.makesIn K C=true)
  (hi:PySem.W.findIn K (.ref C) "__init__"=some (some (.ref f))) (hf:PySem.W.typeIn K (.ref f)=some (.type "function"))
  (h:codeAny (Qq prog w) (A.under (.builtin "type.__call__" ⟨.ref C::vs,kw⟩)) (.call (.ref f) ⟨.ref (s.heap.objs.size+1)::vs,kw⟩) (PySem.W.InitBack (s.heap.objs.size+1) R)
   { s with heap:=(s.heap.push PySem.W.emptyDict).push (PySem.W.instObj C s.heap.objs.size) }) :
  codeAny (Qq prog w) A (.call (.ref C) ⟨vs,kw⟩) R s:=by
 obtain⟨hh,g,d,t,os⟩:=s;exact PySem.W.make_core (PySem.W.makes_of X hm) (PySem.W.looks_findIn X hi) (fun self=>PySem.W.bind_fn X self hf) (.inl rfl) h
end
def oC(f:Str)(v:V):List (Str×V)->List (Str×V)
 |[]=>[(f,v)]
 |(g,x)::r=>if g=f then(g,v)::r else(g,x)::oC f v r
theorem jW(f g:Str)(v:V):∀fs:List (Str×V),(oC f v fs).lookup g=if g=f then some v else fs.lookup g
 |[]=>by
  show List.lookup g [(f,v)]=_;by_cases h:g=f
  ·have hb:(g == f)=true:=beq_iff_eq.mpr h;simp only[List.lookup,hb,if_pos h]
  ·have hb:(g == f)=false:=beq_eq_false_iff_ne.mpr h;simp only[List.lookup,hb,if_neg h]
 |(k,x)::r=>by
  have ih:=jW f g v r;rw[show oC f v ((k,x)::r)=(if k=f then(k,v)::r else(k,x)::oC f v r)from rfl];by_cases hk:k=f
  ·rw[if_pos hk];by_cases h:g=k
   ·have hb:(g == k)=true:=beq_iff_eq.mpr h;simp only[List.lookup,hb,if_pos (h.trans hk)]
   ·have hb:(g == k)=false:=beq_eq_false_iff_ne.mpr h;simp only[List.lookup,hb,if_neg (fun e:g=f=>h (e.trans hk.symm))]
  ·rw[if_neg hk];by_cases h:g=k
   ·have hb:(g == k)=true:=beq_iff_eq.mpr h;simp only[List.lookup,hb,if_neg (fun e:g=f=>hk (h.symm.trans e))]
   ·have hb:(g == k)=false:=beq_eq_false_iff_ne.mpr h;simp only[List.lookup,hb];exact ih
theorem fW(f:Str)(v:V):∀fs:List (Str×V),f∈(oC f v fs).map (·.1)/\∀g,g∈fs.map (·.1)->g∈(oC f v fs).map (·.1)
 |[]=>⟨by simp[oC],fun g h=>by simp at h⟩
 |(k,x)::r=>by
  obtain⟨i1,i2⟩:=fW f v r;rw[show oC f v ((k,x)::r)=(if k=f then(k,v)::r else(k,x)::oC f v r)from rfl];by_cases hk:k=f
  ·rw[if_pos hk];subst hk;exact⟨by simp,fun g h=>by simpa using h⟩
  ·rw[if_neg hk];refine⟨?_,fun g h=>?_⟩
   ·rw[QF];exact QZ _ i1
   ·rw[QF]at h ⊢;rcases Qz.mp h with e|e
    ·exact Qz.mpr (.inl e)
    ·exact QZ _ (i2 g e)
theorem nO(f:Str)(v:V):∀fs:List (Str×V),(oC f v fs).length<=fs.length+1
 |[]=>by simp[oC]
 |(k,x)::r=>by
  have ih:=nO f v r;rw[show oC f v ((k,x)::r)=(if k=f then(k,v)::r else(k,x)::oC f v r)from rfl];by_cases hk:k=f
  ·rw[if_pos hk,Q5,Q5];omega
  ·rw[if_neg hk,Q5,Q5];omega
theorem qF.some_of{v:V}{o:Option Q2}(r:qF (some v) o):∃u,o=some u/\dD v u:=by
 cases o with
 |none=>exact(show False from r).elim
 |some u=>exact⟨u,rfl,r⟩
theorem qF.none_of{o:Option Q2}(r:qF none o):o=none:=by
 cases o with
 |none=>rfl
 |some u=>exact(show False from r).elim
theorem zj{v:V}{u:Q2}(r:dD v u):PySem.W.handedIn u=true:=by
 cases v with
 |non=>cases (show u=Value.none from r);rfl
 |bl b=>cases (show u=Value.bool b from r);rfl
 |int i=>obtain⟨t,e⟩:=(show ∃t,u=Value.int i t from r);cases e;rfl
 |str x=>obtain⟨t,e⟩:=(show ∃t,u=Value.str x t from r);cases e;rfl
 |byt b=>obtain⟨t,e⟩:=(show ∃t,u=Value.bytes b t from r);cases e;rfl
 |flt b=>obtain⟨t,e⟩:=(show ∃t,u=Value.float b t from r);cases e;rfl
 |ref a=>cases (show u=Value.ref a from r);rfl
 |ty n=>cases (show u=Value.type n from r);rfl
section
variable{P:QL}{w:Qu}{H:Hp}{h:Heap}{a C dx:Addr}{fs:List (Str×V)}
theorem qh(hok:HOk P w H h)(e:H a=some (.ins C dx fs)):∃mA,Ge h a dx C mA/\(∀f,qF (fs.lookup f) (mA f))/\PySem.Within mA (fs.map (·.1))/\fs.length<=1000/\H dx=some (.own a):=by
 obtain⟨d,z,ne,ob,mA,n,r,q⟩:=(show dB P w H h a (.ins C dx fs)from hok a _ e);exact⟨mA,⟨ob,n,ne⟩,r,q,z,d⟩
end
structure Cls(K:Q1)(C:Addr):Prop where
 pg:PySem.W.plainGet K C Str.empty=true
 hd:PySem.W.hasDictIn K C=true
 po:PySem.W.plainOver K C=true
 sa:PySem.W.findIn K (.ref C) "__setattr__"=some (some (.builtin "object.__setattr__"))
def Cls.get{K:Q1}{C:Addr}(c:Cls K C)(f:Str):PySem.W.plainGet K C f=true:=c.pg
def jK(K:Q1)(C:Addr)(f:Str):Prop:=PySem.W.findIn K (.ref C) f=some none
theorem jK.taker{K:Q1}{C:Addr}{f:Str}(n:jK K C f):PySem.W.takerIn K C f=some none:=by
 unfold PySem.W.takerIn;rw[show PySem.W.findIn K (.ref C) f=some none from n];rfl
structure Ck(K:Q1)(C:Addr)(m:Str)(f:Addr):Prop where
 at_:PySem.W.findIn K (.ref C) m=some (some (.ref f))
 fn:PySem.W.isFn K (.ref f)=true
 kp:PySem.W.keepIn K (.ref f)=true
section
variable{X:Cx}{pins:List (Addr×Obj)}{σ:St}{H:Hp}{s:Q8}{a C dx:Addr}{fs:List (Str×V)}{f:Str}{v:V}{A:Qe}{E:Q2->Q8->Prop}
theorem wN{b:Bool}{Q:Q2->Q8->Prop}(I:Inv X pins σ H s)(e:H a=some (.ins C dx fs))(c:Cls X.K C)(n:jK X.K C f)(l:fs.lookup f=some v)
  (h:∀u s',Inv X pins σ H s'->dD v u->Q u s'):wpAny (Qq X.prog X.w) A (getAttr (.ref a) f b) Q E s:=by
 obtain⟨mA,O,r,_,_,_⟩:=qh I.hok e;obtain⟨u,hu,ru⟩:=qF.some_of (v:=v) (o:=mA f) (by rw[<-l];exact r f);exact FV I.kIn O (c.get f) c.hd n hu (zj ru) (h u _ (I.tok _) ru)
theorem pA{m:Str}{g:Addr}{pl:Sem Bool}{Q:Q2×List Q2->Q8->Prop}(I:Inv X pins σ H s)(e:H a=some (.ins C dx fs))(c:Cls X.K C)(k:Ck X.K C m g)(l:fs.lookup m=none)
  (h:Q (.ref g,[.ref a]) s):wpAny (Qq X.prog X.w) A (getMethod (.ref a) m pl) Q E s:=by
 obtain⟨mA,O,r,_,_,_⟩:=qh I.hok e;have hn:mA m=none:=qF.none_of (by rw[<-l];exact r m);exact BQ I.kIn O (c.get m) k.at_ k.fn hn h
theorem wo{y:V}{u:Q2}{Q:Unit->Q8->Prop}(I:Inv X pins σ H s)(e:H a=some (.ins C dx fs))(c:Cls X.K C)(n:jK X.K C f)(hl:fs.length<1000)(ry:dD y u)
  (h:∀s',Inv X pins σ (upd H a (.ins C dx (oC f y fs))) s'->Q () s'):wpAny (Qq X.prog X.w) A (setAttr (.ref a) f u) Q E s:=by
 obtain⟨mA,O,r,wi,_,ho⟩:=qh I.hok e;have hz:(fs.map (·.1)).length<=QB:=by rw[QV,sizeLine_eq];omega
 refine Ep I.kIn O c.sa c.po n.taker c.hd wi hz fun h' O' sb=>h _ ?_;have hd:∃o,h'.get? dx=some o:=let ⟨o,_,_,e',_⟩:=O'.ns;⟨o,e'⟩
 refine I.write (x:=a) (e:=dx) (by rw[e];exact True.intro) (.inr ho) (fun b q hb z=>(sb.2 b hb).trans z) hd ?_;refine⟨by rw[aY O.ne];exact ho,?_,O.ne,O'.obj,_,O'.ns,fun g=>?_,fun g hg=>?_⟩
 ·have:=nO f y fs;omega
 ·show qF ((oC f y fs).lookup g) (if g=f then some u else mA g);rw[jW];by_cases q:g=f
  ·rw[if_pos q,if_pos q];exact ry
  ·rw[if_neg q,if_neg q];exact r g
 ·by_cases q:g=f
  ·rw[q];exact(fW f y fs).1
  ·refine(fW f y fs).2 g (wi g fun z=>hg ?_);show(if g=f then some u else mA g)=none;rw[if_neg q];exact z
theorem Inv.made(I:Inv X pins σ H s):Inv X pins σ (upd (upd H s.heap.objs.size (.own (s.heap.objs.size+1))) (s.heap.objs.size+1) (.ins C s.heap.objs.size []))
  { s with heap:=(s.heap.push PySem.W.emptyDict).push (PySem.W.instObj C s.heap.objs.size) }:=by
 have e1:(s.heap.push PySem.W.emptyDict).get? s.heap.objs.size=some PySem.W.emptyDict:=Qy s.heap rfl;have e2:((s.heap.push PySem.W.emptyDict).push (PySem.W.instObj C s.heap.objs.size)).get? (s.heap.objs.size+1)=some (PySem.W.instObj C s.heap.objs.size):=by
  have:=Qy (s.heap.push PySem.W.emptyDict) (o:=PySem.W.instObj C s.heap.objs.size) rfl;rwa[Heap.size_push]at this
 have e3:(s.heap.push PySem.W.emptyDict).Ns s.heap.objs.size (fun _=>none):=⟨PySem.W.emptyDict,#[],_,e1,rfl,(fun e he=>absurd he (by simp)),fun _=>rfl⟩;have I1:=I.laid (a:=s.heap.objs.size) (o:=.own (s.heap.objs.size+1)) (h':=s.heap.push PySem.W.emptyDict) (t':=s.toks) (fun b u q=>QX _ q) (QU _) ⟨_,e1⟩;refine I1.laid (a:=s.heap.objs.size+1) (o:=.ins C s.heap.objs.size []) (t':=s.toks) (fun b u q=>QX _ q) (Nat.le_of_eq (Heap.size_push _ _)) ?_;have ne:s.heap.objs.size≠s.heap.objs.size+1:=Qw (Nat.lt_succ_self _);refine⟨by rw[aY ne,aU],ZF _,ne,e2,fun _=>none,(Heap.Ns1.of_empty e3).at fun o q=>QX _ q,fun _=>True.intro,fun y hy=>absurd rfl hy⟩
theorem Ab{prog:QL}{w:Qu}{env:Env}{e:QK}{f:Str}{pos:Pos}{s:Q8}{Q:Q2->Q8->Prop}(hb:attributeBase e f env (eval e env)=eval e env)
  (h:wpAny (Qq prog w) A (eval e env) (fun o s₁=>wpAny (Qq prog w) A (getAttr o f true) Q E s₁) E s):wpAny (Qq prog w) A (eval (.Attribute e f pos) env) Q E s:=
 Attribute_any_ h (by rw[arm_eval_Attribute,hb])
end
def NV(K:Q1)(ta:TE)(f:Str):TE:=fun σ H Q=>ta σ H fun x H1=>∃a C dx fs v,x=.ref a/\H1 a=some (.ins C dx fs)/\Cls K C/\jK K C f/\fs.lookup f=some v/\Q v H1
def NY(K:Q1)(ta tv:TE)(f:Str):TS:=fun D σ H=>tv σ H fun y H1=>ta σ H1 fun x H2=>∃a C dx fs,x=.ref a/\H2 a=some (.ins C dx fs)/\Cls K C/\jK K C f/\fs.length<1000/\
 D.nx σ (upd H2 a (.ins C dx (oC f y fs)))
section
variable{X:Cx}{o e value:QK}{f:Str}{pos pos':Pos}{ta tv:TE}
theorem Jm(he:PE X e ta)(hb:attributeBase e f X.env (eval e X.env)=eval e X.env):PE X (.Attribute e f pos) (NV X.K ta f):=by
 intro pins s σ H Q I h;refine Ab hb (thn (he pins s σ H _ I h) fun u s1 hz=>?_);obtain⟨x,H1,I1,rx,a,C,dx,fs,v,ex,ea,c,n,l,q⟩:=hz;subst ex;obtain rfl:u=Value.ref a:=rx;exact wN I1 ea c n l fun u' s2 I2 ru=>⟨v,H1,I2,ru,q⟩
theorem IY(ha:PE X o ta)(hv:PE X value tv)(hs:Z9 value (some (.Attribute o f pos')) pos.line X.env=pure false):PS X (.Assign [.Attribute o f pos'] value pos) (NY X.K ta tv f):=by
 intro pins s σ H D I h;refine plainObj_wpAny_Assign_Attribute (thn (hv pins s σ H _ I h) fun u s1 ⟨y,H1,I1,ry,q⟩=>thn (ha pins s1 σ H1 _ I1 q) fun ov s2 hz=>?_) hs;obtain⟨x,H2,I2,rx,a,C,dx,fs,ex,ea,c,n,l,q2⟩:=hz;subst ex;obtain rfl:ov=Value.ref a:=rx;exact wo I2 ea c n l ry fun s3 I3=>⟨σ,_,I3,q2⟩
end
section
variable{X:Cx}{pins:List (Addr×Obj)}{σ:St}{H:Hp}{s:Q8}{A:Qe}{E:Q2->Q8->Prop}{Q:Q2->Q8->Prop}{c:Q2}{b:Bool}
inductive vS(K:Q1)(H:Hp):V->Q2->Prop where
 |non:vS K H .non (.type "NoneType")
 |bl (x:Bool):vS K H (.bl x) (.type "bool")
 |int (i:Int):vS K H (.int i) (.type "int")
 |str (x:Str):vS K H (.str x) (.type "str")
 |flt (x:UInt64):vS K H (.flt x) (.type "float")
 |lst {a:Addr} {xs:List V} (e:H a=some (.lst xs)):vS K H (.ref a) (.type "list")
 |frz {a:Addr} {o:Obj} {xs:List V} (e:H a=some (.frz o (.lst xs))):vS K H (.ref a) (.type "list")
 |tup {a:Addr} {xs:List V} (e:H a=some (.tup xs)):vS K H (.ref a) (.type "tuple")
 |dK {a:Addr} {kvs:List (Key×V)} (e:H a=some (.dK kvs)):vS K H (.ref a) (.type "dict")
 |dT {a:Addr} {kvs:List (List Key×V)} (e:H a=some (.dT kvs)):vS K H (.ref a) (.type "dict")
 | ins {a C dx:Addr} {fs:List (Str×V)} (e:H a=some (.ins C dx fs)) (cl:Cls K C) (ha:PySem.W.findIn K (.ref C) "__class__"=some (some (.builtin "object.__class__")))
   (hn:PySem.W.specialIn K (.builtin "object.__class__") "__get__"=some (some (.builtin "getset_descriptor.__get__"))) (htk:PySem.W.takesIn K (.builtin "object.__class__")=some true)
   (hm:PySem.W.mroIn K C (.type "object")=some true):vS K H (.ref a) (.ref C)
theorem ze{x:V}{u t:Q2}(I:Inv X pins σ H s)(rx:dD x u)(ty:vS X.K H x t)(e:PySem.W.kitOne X.K t c=some b)(h:∀tk,Q (.bool b) { s with toks:=tk }) :
  wpAny (Qq X.prog X.w) A (call (.builtin "isinstance") [u,c]) Q E s:=by
 cases ty with
 |non=>cases (show u=Value.none from rx);exact PySem.W.kia_one PySem.W.kitx_none I.kIn True.intro e (fun z=>nomatch z) h
 |bl y=>cases (show u=Value.bool y from rx);exact PySem.W.kia_one PySem.W.kitx_bool I.kIn True.intro e (fun z=>nomatch z) h
 |int i=>obtain⟨t,q⟩:=(show ∃t,u=Value.int i t from rx);cases q;exact PySem.W.kia_one PySem.W.kitx_int I.kIn True.intro e (fun z=>nomatch z) h
 |str y=>obtain⟨t,q⟩:=(show ∃t,u=Value.str y t from rx);cases q;exact PySem.W.kia_one PySem.W.kitx_str I.kIn True.intro e (fun z=>nomatch z) h
 |flt y=>obtain⟨t,q⟩:=(show ∃t,u=Value.float y t from rx);cases q;exact PySem.W.kia_one PySem.W.kitx_float I.kIn True.intro e (fun z=>nomatch z) h
 |@lst a xs ea=>
  cases (show u=Value.ref a from rx);obtain⟨_,_,n,_,h1⟩:=(show dB X.prog X.w H s.heap a (.lst xs)from I.hok a _ ea);exact PySem.W.kia_one PySem.W.kitx_list I.kIn ⟨_,h1,rfl⟩ e (fun z=>nomatch z) h
 |@frz a ob xs ea=>
  cases (show u=Value.ref a from rx);obtain⟨_,_,_,n,_,h1⟩:=(show dB X.prog X.w H s.heap a (.frz ob (.lst xs))from I.hok a _ ea);exact PySem.W.kia_one PySem.W.kitx_list I.kIn ⟨_,h1,rfl⟩ e (fun z=>nomatch z) h
 |@tup a xs ea=>
  cases (show u=Value.ref a from rx);obtain⟨_,_,_,p⟩:=(show dB X.prog X.w H s.heap a (.tup xs)from I.hok a _ ea);obtain⟨o,h1,h2,_⟩:=p;exact PySem.W.kia_one PySem.W.kitx_tuple I.kIn ⟨o,h1,h2.1⟩ e (fun z=>nomatch z) h
 |@dK a kvs ea=>
  cases (show u=Value.ref a from rx);obtain⟨_,_,vs,_,p⟩:=(show dB X.prog X.w H s.heap a (.dK kvs)from I.hok a _ ea);obtain⟨o,es,ep,h1,h2,_⟩:=p;exact PySem.W.kia_one PySem.W.kitx_dict I.kIn ⟨o,h1,h2.1⟩ e (fun z=>nomatch z) h
 |@dT a kvs ea=>
  cases (show u=Value.ref a from rx);obtain⟨_,_,xs,_,o,es,ep,h1,h2,_⟩:=(show dB X.prog X.w H s.heap a (.dT kvs)from I.hok a _ ea);exact PySem.W.kia_one PySem.W.kitx_dict I.kIn ⟨o,h1,h2.1⟩ e (fun z=>nomatch z) h
 |@ins a C dx fs ea cl ha hn htk hm=>
  cases (show u=Value.ref a from rx);obtain⟨mA,O,_⟩:=qh I.hok ea;obtain⟨od,J,_⟩:=O.look;exact PySem.W.kia_one (PySem.W.kitx_own (cl.get _) cl.hd ha hn htk hm) I.kIn J e (fun z=>nomatch z) h
end
structure fZ(k:Nat)(A:Qe):Prop where
 hd:A.handled=none
 dp:A.depth+3*k+5<recursionLimit
 un:A.units+16*k+200<cLine
 gd:A.guards=some []
def fZ.mono{j k:Nat}{A:Qe}(r:fZ k A)(h:j<=k):fZ j A:=⟨r.hd,by have:=r.dp;omega,by have:=r.un;omega,r.gd⟩
theorem fZ.deeper{k:Nat}{A:Qe}(r:fZ (k+1) A)(env:Env):fZ k (A.deeper env):=
 ⟨r.hd,by have:=r.dp;show A.depth+1+3*k+5<_;omega,by have:=r.un;show A.units+3+16*k+200<_;omega,r.gd⟩
theorem wG{A:Qe}{C:Addr}{us:List Q2}{kw:List (Str×Q2)}:(A.under (.builtin "type.__call__" ⟨.ref C::us,kw⟩)).depth=A.depth+1:=by
 first|rfl|simp[Around.under,Code.weight,Code.isCreation,Code.isGuard,Code.isCaller,Code.frames,Code.isFrame,guardIds]
theorem wF{A:Qe}{C:Addr}{us:List Q2}{kw:List (Str×Q2)}:(A.under (.builtin "type.__call__" ⟨.ref C::us,kw⟩)).units=A.units+1:=by
 first|rfl|simp[Around.under,Code.cUnits,Code.frames,Code.isFrame]
theorem fZ.make{k:Nat}{A:Qe}(r:fZ (k+1) A)(C:Addr)(us:List Q2)(kw:List (Str×Q2)):fZ k (A.under (.builtin "type.__call__" ⟨.ref C::us,kw⟩)):=
 ⟨r.hd,by have:=r.dp;rw[wG];omega,by have:=r.un;rw[wF];omega,r.gd⟩
def fZ.depth{k:Nat}{A:Qe}(r:fZ k A):A.depth<recursionLimit:=by have:=r.dp;omega
def fZ.units{k:Nat}{A:Qe}(r:fZ k A):A.units+64<cLine:=by have:=r.un;omega
def KQ:TA:=fun _ H Q=>Q [] H
def HV(ta:TE)(tr:TA):TA:=fun σ H Q=>ta σ H fun x H1=>tr σ H1 fun xs H2=>Q (x::xs) H2
section
variable{X:Cx}{e:QK}{es:List QK}{te:TE}{t:TA}{pos:Pos}
def Jr:PA X [] KQ:=fun _ _ _ _ H Q I h=>Calls.spliced_nil ⟨[],H,I,.nil,h⟩
theorem E7(ha:PE X e te)(hr:PA X es t)(hs:Q7 (e::es) X.env=(false,eval e X.env)::Q7 es X.env:=by rfl):PA X (e::es) (HV te t):=by
 intro pos pins s σ H Q I h;rw[hs];show wpAny _ _ (spliced ((false,eval e X.env)::Qa pos (Q7 es X.env))) _ _ s;refine Calls.spliced_cons (thn (ha pins s σ H _ I h) fun u s1 hz=>?_);obtain⟨x,H1,I1,r1,q1⟩:=hz;exact thn (hr pos pins s1 σ H1 _ I1 q1) fun us s2 ⟨xs,H2,I2,r2,q2⟩=>⟨x::xs,H2,I2,.cons r1 r2,q2⟩
def NN(t:TA):TE:=fun σ H Q=>t σ H fun xs H1=>xs.length<=QB/\∀p,H1 p=none->Q (.ref p) (upd H1 p (.tup xs))
def NR(t:TA):TE:=fun σ H Q=>t σ H fun xs H1=>xs.length<=QB/\∀p,H1 p=none->Q (.ref p) (upd H1 p (.lst xs))
theorem Je{x1}(h:PA X es t):PE X (.Tuple es x1 pos) (NN t):=by
 intro pins s σ H Q I hq;refine wpAny_Tuple_spliced (thn (h pos pins s σ H _ I hq) fun us s1 ⟨xs,H1,I1,r,z,q⟩=>⟨by rw[<-r.length];exact z,?_⟩);have hf:H1 s1.heap.objs.size=none:=I1.hok.fresh (QU _);refine⟨.ref s1.heap.objs.size,upd H1 s1.heap.objs.size (.tup xs),I1.laid (t':=s1.toks) (fun b u e=>QX _ e) (QU _) ?_,rfl,q _ hf⟩;exact⟨z,us,r,⟨_,Qy _ rfl,⟨rfl,rfl⟩,_,rfl⟩⟩
theorem Jj(h:PA X es t):PE X (.List es pos) (NR t):=by
 intro pins s σ H Q I hq;refine wpAny_List_spliced (thn (h pos pins s σ H _ I hq) fun us s1 ⟨xs,H1,I1,r,z,q⟩=>⟨by rw[<-r.length];exact z,?_⟩);have hf:H1 s1.heap.objs.size=none:=I1.hok.fresh (QU _);refine⟨.ref s1.heap.objs.size,upd H1 s1.heap.objs.size (.lst xs),I1.laid (t':=s1.toks) (fun b u e=>QX _ e) (QU _) ?_,rfl,q _ hf⟩;exact⟨z,us,0,r,Qy _ rfl⟩
end
abbrev Sp:=List V->Hp->VK->XK->Prop
abbrev CXT:=List Env->Hp->Q8->XK->Q2->Q8->Prop
structure Gg(P:QL)(w:Qu)(K:Q1)(mg:Str->Option Q2)(base:Heap)(A:Qe)(outer:List Env)(s:Q8)(H:Hp):Prop where
 frames:A.frames=some outer
 mod:Mod K mg base
 bs:∀b o,base.get? b=some o->s.heap.get? b=some o/\H b=none
 bsz:base.objs.size<=s.heap.objs.size
 funs:s.heap.FunFrames base outer
 frf:∀b∈frs outer,H b=none
 hok:HOk P w H s.heap
 bare:AllBare s.gens
def CE(outer:List Env)(P:QL)(w:Qu)(H:Hp)(s:Q8)(Q:VK)(u:Q2)(s':Q8):Prop:=
 ∃v H',s'.os=s.os/\AllBare s'.gens/\Un (frs outer) [] H H' s.heap s'.heap/\HOk P w H' s'.heap/\dD v u/\Q v H'
def CR(CX:CXT)(outer:List Env)(P:QL)(w:Qu)(H:Hp)(s:Q8)(Q:VK)(E:XK)(r:Result)(s':Q8):Prop:=
 match r with
 |.ok (.ret u)=>CE outer P w H s Q u s'
 |.ok _=>False
 |.error e=>CX outer H s E e s'
structure j9(P:QL)(w:Qu)(K:Q1)(mg:Str->Option Q2)(base:Heap)(CX:CXT)(k:Nat)(f:Addr)(fd:Z8)(ps:List Str)(sp:Sp):Prop where
 len:∀vs H Q E,sp vs H Q E->vs.length=ps.length
 run:∀(A:Qe) (outer:List Env) (s:Q8) (H:Hp) (args:Args) (us:List Q2) (vs:List V) (Q:VK) (E:XK),fZ k A->Gg P w K mg base A outer s H->BindsTo s fd args (ps.zip us)->cG vs us->sp vs H Q E->
  codeAny (Qq P w) A (.call (.ref f) args) (CR CX outer P w H s Q E) s
theorem j9.mono{P:QL}{w:Qu}{K:Q1}{mg:Str->Option Q2}{base:Heap}{CX:CXT}{j k:Nat}{f:Addr}{fd:Z8}{ps:List Str}{sp:Sp}(F:j9 P w K mg base CX j f fd ps sp)(h:j<=k) :
  j9 P w K mg base CX k f fd ps sp:=⟨F.len,fun A outer s H args us vs Q E hr=>F.run A outer s H args us vs Q E (hr.mono h)⟩
theorem Gg.make{P:QL}{w:Qu}{K:Q1}{mg:Str->Option Q2}{base:Heap}{A:Qe}{outer:List Env}{s:Q8}{H:Hp}(e:Gg P w K mg base A outer s H)(C:Addr)(us:List Q2)(kw:List (Str×Q2)) :
  Gg P w K mg base (A.under (.builtin "type.__call__" ⟨.ref C::us,kw⟩)) outer s H:=⟨by first|exact e.frames|(simpa [Around.under,Code.envs,Code.isFrame,pushEnvs] using e.frames),e.mod,e.bs,e.bsz,e.funs,e.frf,e.hok,e.bare⟩
section
variable{X:Cx}{pins:List (Addr×Obj)}{σ:St}{H:Hp}{s s':Q8}
theorem Inv.env0(I:Inv X pins σ H s):Gg X.prog X.w X.K X.mg X.base X.A X.stack s H:=
 ⟨I.ok.frames,I.ok.mod,I.bs,Qk I.ok.bsz I.sz,I.stack,I.stkFree,I.hok,I.bare⟩
theorem Inv.after{Q:VK}{u:Q2}(I:Inv X pins σ H s)(h:CE X.stack X.prog X.w H s Q u s'):EP X pins σ Q u s':=by
 obtain⟨v,H',os,bare,un,hok,r,q⟩:=h;obtain⟨hh,g,d,t,os'⟩:=s';obtain rfl:os'=s.os:=os;exact⟨v,H',I.call (h':=hh) (g':=g) (d':=d) (t':=t) (ch:=[]) un hok bare (fun b z=>absurd z (by simp)),r,q⟩
end
def Ei(sp:Sp)(dvs:List V)(E:XK)(t:TA):TE:=fun σ H Q=>t σ H fun vs H1=>sp (vs++dvs) H1 Q E
def wj(C:Addr)(m:Str)(sp:Sp)(dvs:List V)(E:XK)(ta:TE)(t:TA):TE:=fun σ H Q=>ta σ H fun x H1=>∃a dx fs,x=.ref a/\H1 a=some (.ins C dx fs)/\fs.lookup m=none/\
 t σ H1 fun vs H2=>sp (x::(vs++dvs)) H2 Q E
def Eg(C:Addr)(sp:Sp)(dvs:List V)(E:XK)(t:TA):TE:=fun σ H Q=>t σ H fun vs H1=>∀x dx,H1 x=none->H1 dx=none->dx≠x->
 sp (.ref x::(vs++dvs)) (upd (upd H1 dx (.own x)) x (.ins C dx [])) (fun v H2=>v=.non/\Q (.ref x) H2) E
def fT(K:Q1)(fd:Z8)(ps:List Str)(ds:List Q2):Prop:=
 ∀(s:Q8) (us:List Q2),K.In s.heap->(us++ds).length=ps.length->BindsTo s fd ⟨us,[]⟩ (ps.zip (us++ds))
theorem fT.all{K:Q1}{fd:Z8}{ps:List Str}(h:∀us:List Q2,us.length=ps.length->bindArgs fd ⟨us,[]⟩=pure (ps.zip us)):fT K fd ps []:=fun s us _ hl=>by
 rw[QN]at hl ⊢;exact .of_eq (h us hl)
def gK(CX:CXT)(X:Cx)(E:XK):Prop:=∀(pins:List (Addr×Obj)) (σ:St) (H:Hp) (s:Q8) (e:Q2) (s':Q8),Inv X pins σ H s->CX X.stack H s E e s'->X.xe e s'
section
variable{X:Cx}{CX:CXT}{k:Nat}{f C:Addr}{fd:Z8}{ps:List Str}{sp:Sp}{dvs:List V}{ds:List Q2}{E:XK}{x m:Str}{p pos apos:Pos}{e o:QK}{es:List QK}{ta:TE}{t:TA}
theorem yh{pins:List (Addr×Obj)}{σ:St}{H:Hp}{s:Q8}{Q:VK}{us:List Q2}{vs:List V}(F:j9 X.prog X.w X.K X.mg X.base CX k f fd ps sp)(hr:fZ k X.A)(hb:fT X.K fd ps ds)(hd:cG dvs ds)(hx:gK CX X E)
  (I:Inv X pins σ H s) (r:cG vs us) (h:sp (vs++dvs) H Q E):wpAny (Qq X.prog X.w) X.A (call (.ref f) us) (EP X pins σ Q) X.xe s:=by
 have r2:cG (vs++dvs) (us++ds):=r.append hd;have hl:(us++ds).length=ps.length:=by rw[<-r2.length];exact F.len _ _ _ _ h
 refine wpAny_call (codeAny_mono (F.run X.A X.stack s H ⟨us,[]⟩ (us++ds) (vs++dvs) Q E hr I.env0 (hb s us I.kIn hl) r2 h) fun r s' hq=>?_);cases r with
 |error e=>exact hx pins σ H s e s' I hq
 |ok fl=>
  cases fl with
  |ret u=>exact I.after hq
  |next=>exact False.elim hq
  |brk=>exact False.elim hq
  |cont=>exact False.elim hq
theorem EZ(F:j9 X.prog X.w X.K X.mg X.base CX k f fd ps sp)(hr:fZ k X.A)(hg:Gl X x)(hm:X.mg x=some (.ref f))(hk:PySem.W.keepIn X.K (.ref f)=true)(hb:fT X.K fd ps ds)(hd:cG dvs ds)(hx:gK CX X E)
  (ha:PA X (e::es) t) (hdb:(x == ("__debug__":Str))=false:=by decide) (he:Q7 (e::es) X.env=(false,eval e X.env)::Q7 es X.env:=by rfl) (hpl:(Qa pos (Q7 es X.env)).any (·.1)=false:=by rfl) :
  PE X (.Call (.Name x p) (e::es) [] pos) (Ei sp dvs E t):=by
 intro pins s σ H Q I h;refine wpAny_Call_Name_kw (jY I hg hm ?_ hdb);refine PySem.W.callWith_K (h₀:=X.base) I.ok.mod.kin hk (thn (ha pos pins s σ H _ I h) fun us s1 ⟨vs,H1,I1,r,q⟩=>⟨I1.kIn,?_⟩) he hpl;exact yh F hr hb hd hx I1 r q
theorem EU{pl:Sem Bool}(he:PE X o ta)(c:Cls X.K C)(hm:Ck X.K C m f)(F:j9 X.prog X.w X.K X.mg X.base CX k f fd ps sp)(hr:fZ k X.A)(hb:fT X.K fd ps ds)(hd:cG dvs ds)(hx:gK CX X E)(ha:PA X (e::es) t)
  (hst:Q7 (e::es) X.env=(false,eval e X.env)::Q7 es X.env:=by rfl) (hpl:(Qa pos (Q7 es X.env)).any (·.1)=false:=by rfl)
  (ht:eval (.Call (.Attribute o m apos) (e::es) [] pos) X.env=(do
   let ov <-eval o X.env
   standAt apos.atName
   let (f,first) <-holding [ov] (getMethod ov m pl)
   callWith pos f first (Qa pos (Q7 (e::es) X.env)) (backToKw pos (keywordEach [] X.env))):=by rfl) :
  PE X (.Call (.Attribute o m apos) (e::es) [] pos) (wj C m sp dvs E ta t):=by
 intro pins s σ H Q I h;refine PySem.W.methodCall_KW (pl:=pl) (thn (he pins s σ H _ I h) fun u s1 hz=>?_) ht;obtain⟨x,H1,I1,rx,a,dx,fs,ex,ea,l,q⟩:=hz;subst ex;obtain rfl:u=Value.ref a:=rx;refine pA I1 ea c hm l ?_;refine PySem.W.callWith_K (first:=[.ref a]) (h₀:=X.base) I.ok.mod.kin hm.kp (thn (ha pos pins s1 σ H1 _ I1 q) fun us s2 ⟨vs,H2,I2,r,q2⟩=>⟨I2.kIn,?_⟩) hst hpl;exact yh (us:=.ref a::us) (vs:=.ref a::vs) F hr hb hd hx I2 (.cons rfl r) q2
theorem Bo{pl:Sem Bool}(he:PE X o ta)(c:Cls X.K C)(hm:Ck X.K C m f)(F:j9 X.prog X.w X.K X.mg X.base CX k f fd ps sp)(hr:fZ k X.A)(hb:fT X.K fd ps ds)(hd:cG dvs ds)(hx:gK CX X E)
  (ht:eval (.Call (.Attribute o m apos) [] [] pos) X.env=(do
   let ov <-eval o X.env
   standAt apos.atName
   let (f,first) <-holding [ov] (getMethod ov m pl)
   callWith pos f first (Qa pos (Q7 [] X.env)) (backToKw pos (keywordEach [] X.env))):=by rfl) :
  PE X (.Call (.Attribute o m apos) [] [] pos) (wj C m sp dvs E ta KQ):=by
 intro pins s σ H Q I h;refine PySem.W.methodCall_KW (pl:=pl) (thn (he pins s σ H _ I h) fun u s1 hz=>?_) ht;obtain⟨x,H1,I1,rx,a,dx,fs,ex,ea,l,q⟩:=hz;subst ex;obtain rfl:u=Value.ref a:=rx;refine pA I1 ea c hm l ?_;exact PySem.W.callWith_K0 (first:=[.ref a]) I1.kIn hm.kp (yh (us:=[.ref a]) (vs:=[.ref a]) F hr hb hd hx I1 (.cons rfl .nil) q)
structure Mk(K:Q1)(C f:Addr):Prop where
 makes:PySem.W.makesIn K C=true
 init:PySem.W.findIn K (.ref C) "__init__"=some (some (.ref f))
 fn:PySem.W.isFn K (.ref f)=true
 kp:PySem.W.keepIn K (.ref C)=true
theorem AX{pins:List (Addr×Obj)}{σ:St}{H:Hp}{s:Q8}{Q:VK}{us:List Q2}{vs:List V}(M:Mk X.K C f)(F:j9 X.prog X.w X.K X.mg X.base CX k f fd ps sp)(hr:fZ (k+1) X.A)(hb:fT X.K fd ps ds)(hd:cG dvs ds)
  (hx:gK CX X E) (I:Inv X pins σ H s) (r:cG vs us)
  (h:∀x dx,H x=none->H dx=none->dx≠x->sp (.ref x::(vs++dvs)) (upd (upd H dx (.own x)) x (.ins C dx [])) (fun v H2=>v=.non/\Q (.ref x) H2) E) :
  wpAny (Qq X.prog X.w) X.A (call (.ref C) us) (EP X pins σ Q) X.xe s:=by
 have hq:=h (s.heap.objs.size+1) s.heap.objs.size (I.hok.fresh (Nat.le_succ _)) (I.hok.fresh (QU _)) (Qw (Nat.lt_succ_self _));have I2:=Inv.made (C:=C) I;have r2:cG (V.ref (s.heap.objs.size+1)::(vs++dvs)) (Value.ref (s.heap.objs.size+1)::(us++ds)):=.cons rfl (r.append hd);have hl:(Value.ref (s.heap.objs.size+1)::us++ds).length=ps.length:=by
  have e:=r2.length;rw[F.len _ _ _ _ hq]at e;exact e.symm
 refine wpAny_call (BG (f:=f) I.kIn M.makes M.init (beq_iff_eq.mp M.fn) (codeAny_mono (F.run _ X.stack _ _ ⟨Value.ref (s.heap.objs.size+1)::us,[]⟩ (Value.ref (s.heap.objs.size+1)::(us++ds)) _ _ E (hr.make C us [])
  (I2.env0.make C us []) (hb _ (Value.ref (s.heap.objs.size+1)::us) I2.kIn hl) r2 hq) fun r s' hq'=>?_))
 cases r with
 |error e=>exact hx pins σ _ _ e s' I2 hq'
 |ok fl=>
  cases fl with
  |ret u=>
   obtain⟨v,H',I3,rv,ev,q3⟩:=I2.after hq';subst ev;exact⟨rv,⟨V.ref (s.heap.objs.size+1),H',I3,rfl,q3⟩⟩
  |next=>exact False.elim hq'
  |brk=>exact False.elim hq'
  |cont=>exact False.elim hq'
theorem EV(M:Mk X.K C f)(F:j9 X.prog X.w X.K X.mg X.base CX k f fd ps sp)(hr:fZ (k+1) X.A)(hg:Gl X x)(hm:X.mg x=some (.ref C))(hb:fT X.K fd ps ds)(hd:cG dvs ds)(hx:gK CX X E)
  (ha:PA X (e::es) t) (hdb:(x == ("__debug__":Str))=false:=by decide) (he:Q7 (e::es) X.env=(false,eval e X.env)::Q7 es X.env:=by rfl) (hpl:(Qa pos (Q7 es X.env)).any (·.1)=false:=by rfl) :
  PE X (.Call (.Name x p) (e::es) [] pos) (Eg C sp dvs E t):=by
 intro pins s σ H Q I h;refine wpAny_Call_Name_kw (jY I hg hm ?_ hdb);refine PySem.W.callWith_K (h₀:=X.base) I.ok.mod.kin M.kp (thn (ha pos pins s σ H _ I h) fun us s1 ⟨vs,H1,I1,r,q⟩=>⟨I1.kIn,?_⟩) he hpl;exact AX M F hr hb hd hx I1 r q
end
structure a7(N P:List Str)(sc:Scope):Prop where
 kind:sc.kind=.function
 co:sc.isCoroutine=false
 gen:sc.isGenerator=false
 nd:N.Nodup
 pre:N.take P.length=P
 par:∀x∈P,sc.names.lookup x=some .local\/sc.names.lookup x=some .cell
 nofree:∀y∈sc.names,y.2≠.free
theorem sE{kindOf:Str->Option NameKind}{x:Str}:∀{binds:List (Str×Q2)} {m:Str->Option Q2},(∀v,(x,v)∉binds)->bindL kindOf binds m x=m x
 |[],_,_=>rfl
 |(n,v)::r,m,h=>by
  unfold bindL;rw[sE fun w hw=>h w (QZ _ hw)];split
  ·have:x≠n:=by rintro rfl;exact h v QY
   simp[this]
  ·rfl
theorem sG{kindOf:Str->Option NameKind}{x:Str}:∀{binds:List (Str×Q2)} {m:Str->Option Q2},(∀v,(x,v)∉binds)->bindC kindOf binds m x=m x
 |[],_,_=>rfl
 |(n,v)::r,m,h=>by
  unfold bindC;rw[sG fun w hw=>h w (QZ _ hw)];split
  ·rfl
  ·have:x≠n:=by rintro rfl;exact h v QY
   simp[this]
theorem sF{kindOf:Str->Option NameKind}{x:Str}{v:Q2}:∀{P:List Str} {vs:List Q2} {i:Nat} {m:Str->Option Q2},P.Nodup->P[i]?=some x->vs[i]?=some v->kindOf x=some .local->
  bindL kindOf (P.zip vs) m x=some v
 |[],_,_,_,_,h,_,_=>by simp at h
 |_::_,[],_,_,_,_,h,_=>by simp at h
 |p::P,w::vs,0,m,nd,h1,h2,hk=>by
  simp at h1 h2;subst h1;subst h2;show bindL kindOf ((p,w)::P.zip vs) m p=_;unfold bindL;rw[sE fun v hv=>(List.nodup_cons.mp nd).1 (List.of_mem_zip hv).1,if_pos hk];simp
 |p::P,w::vs,i+1,m,nd,h1,h2,hk=>by
  show bindL kindOf ((p,w)::P.zip vs) m x=_;unfold bindL;exact sF (i:=i) (List.nodup_cons.mp nd).2 (by simpa using h1) (by simpa using h2) hk
theorem sH{kindOf:Str->Option NameKind}{x:Str}{v:Q2}:∀{P:List Str} {vs:List Q2} {i:Nat} {m:Str->Option Q2},P.Nodup->P[i]?=some x->vs[i]?=some v->kindOf x≠some .local->
  bindC kindOf (P.zip vs) m x=some v
 |[],_,_,_,_,h,_,_=>by simp at h
 |_::_,[],_,_,_,_,h,_=>by simp at h
 |p::P,w::vs,0,m,nd,h1,h2,hk=>by
  simp at h1 h2;subst h1;subst h2;show bindC kindOf ((p,w)::P.zip vs) m p=_;unfold bindC;rw[sG fun v hv=>(List.nodup_cons.mp nd).1 (List.of_mem_zip hv).1,if_neg hk];simp
 |p::P,w::vs,i+1,m,nd,h1,h2,hk=>by
  show bindC kindOf ((p,w)::P.zip vs) m x=_;unfold bindC;exact sH (i:=i) (List.nodup_cons.mp nd).2 (by simpa using h1) (by simpa using h2) hk
def jN(N:List Str)(vs:List V):St:=vs.map some++Q9 (N.length-vs.length) none
def uE(CX:CXT)(P:QL)(w:Qu)(K:Q1)(mg:Str->Option Q2)(base:Heap)(N:List Str)(qual:Str)(scope:Scope)(f:Addr)(cd:Q2)(A:Qe)(outer:List Env)(s:Q8)(H:Hp)(E:XK):Cx where
 prog:=P
 w:=w
 K:=K
 mg:=mg
 base:=base
 A:=A.deeper (envOfC qual scope s.heap.objs.size f cd)
 N:=N
 s₀:=s
 H₀:=H
 env:=envOfC qual scope s.heap.objs.size f cd
 outer:=outer
 stack:=envOfC qual scope s.heap.objs.size f cd::outer
 ex:=[]
 calm:=true
 fn:=fun _=>true
 pn:=[]
 xe:=fun e s'=>wpAny (Qq P w) (A.deeper (envOfC qual scope s.heap.objs.size f cd)) (leaving (envOfC qual scope s.heap.objs.size f cd) e) (fun _ s''=>CX outer H s E e s'') (fun e' s''=>CX outer H s E e' s'') s'
theorem vL{sc:Scope}{n:Nat}{x:Str}(h:sc.names.lookup x=some .cell):∃c,(cellsFrom n sc.names []).lookup x=some c:=by
 have q:=PySem.W.cellsFrom_some sc.names n [] (.inl h);exact Option.isSome_iff_exists.mp q
theorem zf{CX:CXT}{P:QL}{w:Qu}{K:Q1}{mg:Str->Option Q2}{base:Heap}{N ps:List Str}{qual:Str}{scope:Scope}{f:Addr}{cd:Q2}{A:Qe}{outer:List Env}{s s1:Q8}{H:Hp}{E:XK}{us:List Q2}{vs:List V}
  (S:a7 N ps scope) (hd:A.handled=none) (e0:Gg P w K mg base A outer s H) (hl:vs.length=ps.length) (r:cG vs us)
  (x:InCallC s s.heap.objs.size (bindL (envOfC qual scope s.heap.objs.size f cd).kindOf (ps.zip us) fun _=>none) (cellsFrom (s.heap.objs.size+1) scope.names []) (bindC (envOfC qual scope s.heap.objs.size f cd).kindOf (ps.zip us) fun _=>none) s1) :
  Inv (uE CX P w K mg base N qual scope f cd A outer s H E) [] (jN N vs) H s1:=by
 have hpl:ps.length<=N.length:=by have:=congrArg List.length S.pre;rw[List.length_take]at this;omega
 obtain⟨h1,tk,rfl,hk⟩:=x.done;have noA:∀b:Addr,b∉(uE CX P w K mg base N qual scope f cd A outer s H E).ex:=fun b z=>absurd (show b∈([]:List Addr)from z) (by simp);refine⟨⟨e0.mod,S.kind,rfl,rfl,QU _,fun y z c h1 h2=>?_,fun y hy=>?_,fun y c _ h=>?_,fun _=>hd,Around.frames_deeper e0.frames,.inr ⟨rfl,rfl⟩,fun b z=>absurd z (noA b),e0.bs,e0.bsz,fun b _ _=>noA b,fun b z=>absurd z (noA b),e0.funs,e0.frf⟩,
  rfl,e0.bare,Un.kept hk,⟨_,x.toInCall.ns,fun i y v h1 h2 h3=>?_⟩,fun y c h=>⟨_,x.cell y c h⟩,e0.hok.fresh (QU _),fun y c h=>?_,fun p hp=>absurd (show p∈([]:List (Addr×Obj))from hp) (by simp),e0.hok.kept hk,?_⟩
 ·exact name_of_addr x.apart (PySem.mem_of_lookup h1) (PySem.mem_of_lookup h2)
 ·have hy:scope.names.lookup y=some .cell\/scope.names.lookup y=some .free:=hy;rcases hy with hy|hy
  ·exact vL hy
  ·exact absurd rfl (S.nofree _ (PySem.mem_of_lookup hy))
 ·exact Nat.le_of_lt (x.above y c (PySem.mem_of_lookup h))
 ·have hi:i<vs.length:=by
   unfold jN at h2;by_cases hi:i<vs.length
   ·exact hi
   ·rw[Qb (by simpa using hi)]at h2;rw[ZX]at h2;split at h2<;>cases h2
  have ha:vs[i]?=some v:=by
   unfold jN at h2;rw[Qx (by simpa using hi),Z0]at h2;cases e:vs[i]? with
   |none=>rw[e]at h2;cases h2
   |some a=>rw[e]at h2;cases h2;rfl
  obtain⟨u,hu,rv⟩:=r.get ha;have hp:ps[i]?=some y:=by
   rw[<-S.pre,List.getElem?_take_of_lt (by omega)];exact h1
  have ndP:ps.Nodup:=by rw[<-S.pre];exact S.nd.sublist (List.take_sublist _ _)
  refine⟨u,rv,?_⟩;rcases S.par y (ZU hp)with k|k
  ·exact .inl ⟨k,sF ndP hp hu k⟩
  ·obtain⟨c,e⟩:=vL (n:=s.heap.objs.size+1) k;refine .inr ⟨.inl k,c,e,?_⟩;have q:=x.cell y c e;rw[sH ndP hp hu (by show scope.names.lookup y≠_;rw[k];decide)]at q;exact q
 ·exact e0.hok.fresh (Nat.le_of_lt (x.above y c (PySem.mem_of_lookup h)))
 ·unfold jN;show _=N.length;rw[QJ,QV,ZP];omega
theorem FX{CX:CXT}{P:QL}{w:Qu}{K:Q1}{mg:Str->Option Q2}{base:Heap}{k:Nat}{f:Addr}{name qual:Str}{params:Arguments}{body:List Qg}{scope:Scope}{dV kV doc pm cdv ct oc:Q2}{an od:Option Addr}
  {osl:Array (Option Q2)} {N ps:List Str} {sp:Sp} (lk:K.lookup f=some ⟨oc,od,.func (PySem.W.fnOf name qual params body scope dV kV doc pm an cdv ct),osl⟩) (hcd:PySem.W.codeIn K cdv qual=true) (S:a7 N ps scope)
  (len:∀vs H Q E,sp vs H Q E->vs.length=ps.length)
  (hbody:∀(A:Qe) (outer:List Env) (s:Q8) (H:Hp) (vs:List V) (Q:VK) (E:XK),fZ k (A.deeper (envOfC qual scope s.heap.objs.size f cdv))->sp vs H Q E->
   ∃t,PSs (uE CX P w K mg base N qual scope f cdv A outer s H E) body t/\t { nx:=fun _ H'=>Q .non H',rt:=Q } (jN N vs) H) :
  j9 P w K mg base CX (k+1) f (PySem.W.fnOf name qual params body scope dV kV doc pm an cdv ct) ps sp:=by
 refine⟨len,fun A outer s H args us vs Q E hr e0 hb r hsp=>?_⟩;have hl:=len _ _ _ _ hsp;have KX:K.In s.heap:=e0.mod.kin.keeps fun b o e=>(e0.bs b o e).1;have lim:s.heap.NoLimit:=e0.mod.nolimit.keeps fun b o e=>(e0.bs b o e).1;have hkind:∀y∈ps.zip us,scope.names.lookup y.1=some .local\/(scope.names.lookup y.1=some .cell/\((cellsFrom (s.heap.objs.size+1) scope.names []).lookup y.1).isSome=true):=fun⟨n,v⟩ hy=>by
  rcases S.par n (List.of_mem_zip hy).1 with q|q
  ·exact .inl q
  ·exact .inr ⟨q,PySem.W.cellsFrom_some _ _ _ (.inl q)⟩
 refine codeAny_call_function hr.depth (KX _ _ lk) rfl S.co S.gen rfl (PySem.W.codeRec_of KX hcd) (hb _ _ _ _ ?_);refine wpAny_newFunctionEnv_cells S.kind hkind fun env he s1 x=>?_;subst he;refine⟨lim.keeps x.toInCall.keep,codeAny_func ?_⟩;obtain⟨t,ht,hq⟩:=hbody A outer s H vs Q E (hr.deeper _) hsp;have I:Inv (uE CX P w K mg base N qual scope f cdv A outer s H E) [] (jN N vs) H s1:=zf S hr.hd e0 hl r x;refine Z6 (ht [] s1 (jN N vs) H _ I hq) (fun fl s' hs=>?_) fun e s' hs=>hs;have fin:∀{σ':St} {H':Hp} {v:V} {u:Q2},Inv (uE CX P w K mg base N qual scope f cdv A outer s H E) [] σ' H' s'->dD v u->Q v H'->CE outer P w H s Q u s':=
  fun{σ' H' v u} J rv q=>⟨v,H',J.os,J.bare,J.base,J.hok,rv,q⟩
 cases fl with
 |ret u=>
  obtain⟨v,σ',H',J,rv,q⟩:=hs;exact fin J rv q
 |next=>
  obtain⟨σ',H',J,q⟩:=hs;exact fin (v:=V.non) (u:=Value.none) J rfl q
 |brk=>
  obtain⟨_,_,_,q⟩:=hs;exact False.elim q
 |cont=>
  obtain⟨_,_,_,q⟩:=hs;exact False.elim q
section
variable{X:Cx}{x:Str}{p pos:Pos}{e:QK}{es:List QK}{t:TA}{id T:String}{r:List V->Hp->VK->Prop}
def tCB(r:List V->Hp->VK->Prop)(t:TA):TE:=fun σ H Q=>t σ H fun vs H1=>r vs H1 Q
theorem Bs(hc:f7 X (.builtin id) r)(hg:Gl X x)(hm:X.mg x=none)(hv:Qn x=some (.builtin id))(ha:PA X (e::es) t)(hn:x≠"__name__":=by decide)(hdb:(x == ("__debug__":Str))=false:=by decide)
  (he:Q7 (e::es) X.env=(false,eval e X.env)::Q7 es X.env:=by rfl) (hpl:(Qa pos (Q7 es X.env)).any (·.1)=false:=by rfl):PE X (.Call (.Name x p) (e::es) [] pos) (tCB r t):=by
 intro pins s σ H Q I h;refine wpAny_Call_Name_kw (pj I hg hm hv ?_ hn hdb);exact PyProof.Rows.callWith_builtin1 (thn (ha pos pins s σ H _ I h) fun us s1 ⟨vs,H1,I1,r1,q1⟩=>hc pins s1 σ H1 vs us Q I1 r1 q1) he hpl
theorem yC(hc:f7 X (.type T) r)(hg:Gl X x)(hm:X.mg x=none)(hv:Qn x=some (.type T))(ha:PA X (e::es) t)(hn:x≠"__name__":=by decide)(hdb:(x == ("__debug__":Str))=false:=by decide)
  (he:Q7 (e::es) X.env=(false,eval e X.env)::Q7 es X.env:=by rfl) (hpl:(Qa pos (Q7 es X.env)).any (·.1)=false:=by rfl):PE X (.Call (.Name x p) (e::es) [] pos) (tCB r t):=by
 intro pins s σ H Q I h;refine wpAny_Call_Name_kw (pj I hg hm hv ?_ hn hdb);exact PyProof.Rows.callWith_type1 (thn (ha pos pins s σ H _ I h) fun us s1 ⟨vs,H1,I1,r1,q1⟩=>hc pins s1 σ H1 vs us Q I1 r1 q1) he hpl
end
end L2
namespace HT
open PySem PyProof.Rows
section
variable{prog:QL}{w:Qu}{A:Qe}{E:Q2->Q8->Prop}{s:Q8}
theorem cat_tup{t b:Addr}{vs ws:List Q2}{Q:Q2->Q8->Prop}(ht:IsTup s.heap t vs.toArray)(hb:IsTup s.heap b ws.toArray)(hv:vs≠[])
  (h1:ws=[]->Q (.ref t) s) (h2:ws≠[]->Q (.ref s.heap.objs.size) { s with heap:=s.heap.push { cls:=.type "tuple",data:=.seq (vs++ws).toArray } })
  (hsz:vs.length+ws.length<=QB):wpAny (Qq prog w) A (binaryOp .Add (.ref t) (.ref b)) Q E s:=by
 obtain⟨⟨cls,dd,data,sl⟩,ho,hc,n,hd⟩:=id ht;obtain⟨⟨cls2,dd2,data2,sl2⟩,ho2,hc2,n2,hd2⟩:=id hb;simp only at hc hd hc2 hd2;subst hc hd hc2 hd2;have e:vs.toArray++ws.toArray=(vs++ws).toArray:=by simp
 by_cases hw:ws=[]
 ·exact concat_meets ⟨_,ho,rfl⟩ ⟨_,ho2,rfl⟩ noFill_tuple_add seq_tuple_add PySem.F.slot_tuple_add PySem.F.entry_tuple_add (PySem.F.args_tuple_add_2 _ _)
   (tuple_addW1 t b vs.toArray ws.toArray n n2 dd dd2 sl sl2 (by simpa using hv) (by simp[hw])) ⟨ho,ho2,h1 hw⟩
 ·refine concat_meets ⟨_,ho,rfl⟩ ⟨_,ho2,rfl⟩ noFill_tuple_add seq_tuple_add PySem.F.slot_tuple_add PySem.F.entry_tuple_add (PySem.F.args_tuple_add_2 _ _)
   (tuple_addW2 t b vs.toArray ws.toArray n n2 dd dd2 sl sl2 (by simpa using hv) (by simpa using hw) (by rw[QH,QH];exact hsz)) ⟨ho,ho2,?_⟩
  rw[e];exact h2 hw
def sIx(n d:Nat):Option Int->Nat
 |none=>d
 |some v=>if v<0 then(v+(n:Int)).toNat else min v.toNat n
theorem sIx_nat(n d k:Nat):sIx n d (some (k:Int))=min k n:=by
 show(if (k:Int)<0 then((k:Int)+(n:Int)).toNat else min (k:Int).toNat n)=min k n;rw[if_neg (by omega),Int.toNat_natCast]
theorem Il(n d:Nat)(hd:d<=n)(o:Option Int):sIx n d o<=n:=by
 cases o with
 |none=>exact hd
 |some v=>
  show(if v<0 then(v+(n:Int)).toNat else min v.toNat n)<=n;by_cases hv:v<0
  ·rw[if_pos hv];omega
  ·rw[if_neg hv];exact Nat.min_le_right _ _
theorem zP(v:Int)(n d:Nat):(if v<0 then max (v+(n:Int)) 0 else min v (n:Int))=((sIx n d (some v):Nat):Int):=by
 show(if v<0 then max (v+(n:Int)) 0 else min v (n:Int))=(((if v<0 then(v+(n:Int)).toNat else min v.toNat n):Nat):Int);by_cases hv:v<0
 ·simp only[if_pos hv];omega
 ·simp only[if_neg hv];omega
theorem wW(lo hi:Option Int)(n:Nat):Builtin.Slice.sliceAdjust lo hi 1 (n:Int)=(((sIx n 0 lo:Nat):Int),((sIx n n hi:Nat):Int)):=by
 have h1:¬((1:Int)<0):=by omega
 unfold Builtin.Slice.sliceAdjust;simp only[h1,if_false];refine Prod.ext ?_ ?_
 ·cases lo with
  |none=>rfl
  |some v=>exact zP v n 0
 ·cases hi with
  |none=>rfl
  |some v=>exact zP v n n
theorem wu(i j:Nat):Builtin.Slice.slicePlaces (i:Int) (j:Int) 1=j-i:=by
 unfold Builtin.Slice.slicePlaces;have h1:(1:Int)>0:=by omega
 simp only[h1,if_true,Int.ediv_one];split<;>omega
theorem o7{v:Q2}{o:Option Int}{Q:Option Int->Q8->Prop}(p:IsPart v o)(h:Q o s):wpAny (Qq prog w) A (Builtin.Slice.slicePartIndex v) Q E s:=by
 cases p with
 |none=>exact slicePart_none h
 |int i t=>exact slicePart_int h
theorem mw{sl:Addr}{vl vu:Q2}{lo hi:Option Int}{n:Nat}{Q:Int×Int×Nat->Q8->Prop}(hs:s.heap.IsSliceOf sl vl vu .none)(pl:IsPart vl lo)(pu:IsPart vu hi)
  (h:Q (((sIx n 0 lo:Nat):Int),1,sIx n n hi-sIx n 0 lo) s):wpAny (Qq prog w) A (Builtin.Slice.sliceApplied (.ref sl) (pure (n:Int))) Q E s:=by
 obtain⟨os,hos,hcs,hds⟩:=id hs;unfold Builtin.Slice.sliceApplied Builtin.Slice.sliceFields;refine Q4 (Q4 (ZZ hos hds (x:=vl) rfl (Q4 (ZZ hos hds (x:=vu) rfl (Q4 (ZZ hos hds (x:=.none) rfl (QC ?_)))))));refine Q4 (slicePart_none ?_);show wpAny _ _ (if ((1:Int) == 0)=true then _ else _) _ _ s;rw[if_neg (by decide)];refine Q4 (o7 pl (Q4 (o7 pu (Q4 (QC ?_)))));show wpAny _ _ (match Builtin.Slice.sliceAdjust lo hi 1 (n:Int)with|(lo,hi)=>pure (lo,(1:Int),Builtin.Slice.slicePlaces lo hi 1)) _ _ s;rw[wW lo hi n];show wpAny _ _ (pure (((sIx n 0 lo:Nat):Int),(1:Int),Builtin.Slice.slicePlaces ((sIx n 0 lo:Nat):Int) ((sIx n n hi:Nat):Int) 1)) _ _ s;rw[wu];exact QC h
theorem Bl(xs:Array Q2)(i k:Nat):((List.range k).filterMap fun(m:Nat)=>xs[((i:Int)+(m:Int)*1).toNat]?).toArray=((xs.toList.drop i).take k).toArray:=by
 have e:(fun(m:Nat)=>xs[((i:Int)+(m:Int)*1).toNat]?)=fun m=>xs[i+m]?:=by
  funext m;have:((i:Int)+(m:Int)*1).toNat=i+m:=by omega
  rw[this]
 rw[e];have:=pick_run xs i k;rw[List.filterMap_map]at this;have e2:((fun x=>xs[x]?) ∘ fun x=>i+x)=fun m=>xs[i+m]?:=rfl;rw[e2]at this;rw[this]
theorem getItem_tuple_cut{t sl:Addr}{items:Array Q2}{vl vu:Q2}{lo hi:Option Int}{Q:Q2->Q8->Prop}(ht:IsTup s.heap t items)(hs:s.heap.IsSliceOf sl vl vu .none)(pl:IsPart vl lo)(pu:IsPart vu hi)
  (hw:¬(sIx items.size 0 lo=0/\sIx items.size items.size hi=items.size))
  (h:Q (.ref s.heap.objs.size) { s with heap:=s.heap.push { cls:=.type "tuple",data:=.seq ((items.toList.drop (sIx items.size 0 lo)).take (sIx items.size items.size hi-sIx items.size 0 lo)).toArray } })
  (hsz:items.size<=QB):wpAny (Qq prog w) A (getItem (.ref t) (.ref sl)) Q E s:=by
 have htake:sizeOk (.seq ((items.toList.drop (sIx items.size 0 lo)).take (sIx items.size items.size hi-sIx items.size 0 lo)).toArray):=by
  show((items.toList.drop (sIx items.size 0 lo)).take (sIx items.size items.size hi-sIx items.size 0 lo)).toArray.size<=QB;rw[QH,List.length_take,List.length_drop,Array.length_toList];omega
 have hj:sIx items.size items.size hi<=items.size:=Il _ _ (QU _) hi;obtain⟨os,hos,hcs,hds⟩:=id hs;have hTs:s.TypeIs (.ref sl) "slice":=⟨os,hos,hcs⟩;unfold getItem;try with_reducible refine wpAny_holding ?_
 first|refine Q4 (QC ?_)|skip
 refine Q4 (wpAny_sequenceKey ht.typeIs (by decide) ?_);refine Q4 (wpAny_callSpecial?_slot (name:=Str.ofString "__getitem__") ht.typeIs PyProof.Rows.slot_tuple_getitem
  (wpAny_call_entry PyProof.Rows.slot_tuple_getitem ht.typeIs entry_tuple_getitem ?_ (args_tuple_getitem _ _)))
 show wpAny _ _ (Builtin.Tuple.tupleItemsOf (.ref t) >>= _) _ _ s;refine Q4 (tupleItemsOf_ ht ?_);refine Q4 (wpAny_typeOf hTs ?_);rw[if_pos (by decide)];refine Q4 (mw hs pl pu ?_);have hno:¬((((sIx items.size 0 lo:Nat):Int) == 0&&(1:Int) == 1&&(sIx items.size items.size hi-sIx items.size 0 lo) == items.size)=true):=by
  intro q;rw[ZQ,ZQ]at q;have q1:((sIx items.size 0 lo:Nat):Int)=0:=eq_of_beq q.1.1;have q2:sIx items.size items.size hi-sIx items.size 0 lo=items.size:=eq_of_beq q.2;exact hw ⟨by omega,by omega⟩
 show wpAny _ _ (if (((sIx items.size 0 lo:Nat):Int) == 0&&(1:Int) == 1&&(sIx items.size items.size hi-sIx items.size 0 lo) == items.size)=true then _ else _) _ _ s;rw[if_neg hno,Bl];first
  |exact Q4 (m:=Builtin.Tuple.tupleExact _) (wpAny_newObj_type (QC ⟨_,rfl,QC h⟩) htake)
  |exact Q4 (m:=Builtin.Tuple.tupleExact _) (wpAny_newObj_type (Q4 (QC (QC ⟨_,rfl,QC h⟩))) htake)
  |exact Q4 (Q4 (m:=Builtin.Tuple.tupleExact _) (wpAny_newObj_type (QC (QC ⟨_,rfl,QC h⟩)) htake))
  |exact Q4 (Q4 (m:=Builtin.Tuple.tupleExact _) (wpAny_newObj_type (QC ⟨_,rfl,QC h⟩) htake))
end
end HT
namespace L2
open PySem PySem.Spec PyProof.Rows
abbrev TO:=St->Hp->(Option Int->Hp->Prop)->Prop
def PO(X:Cx)(e:Option QK)(t:TO):Prop:=
 ∀(pins:List (Addr×Obj)) (s:Q8) (σ:St) (H:Hp) (Q:Option Int->Hp->Prop),Inv X pins σ H s->t σ H Q->
  wpAny (Qq X.prog X.w) X.A (evalPart e X.env) (fun u s'=>∃o H',Inv X pins σ H' s'/\IsPart u o/\Q o H') X.xe s
def xX:TO:=fun _ H Q=>Q none H
def HN(t:TE):TO:=fun σ H Q=>t σ H fun x H1=>∃i,x=.int i/\Q (some i) H1
section
variable{X:Cx}{e:QK}{te:TE}{lo hi:Option QK}{tl th:TO}{pos p2:Pos}
theorem EO:PO X none xX:=by
 intro pins s σ H Q I h;rw[evalPart_none];exact QC ⟨none,H,I,.none,h⟩
theorem EN(h:PE X e te):PO X (some e) (HN te):=by
 intro pins s σ H Q I hw;rw[evalPart_some];refine thn (h pins s σ H _ I hw) fun u s1 hz=>?_;obtain⟨x,H1,I1,r1,q1⟩:=hz;obtain⟨i,rfl,q⟩:=q1;obtain⟨t,rfl⟩:=r1;exact⟨some i,H1,I1,.int i t,q⟩
def SlR(X:Cx)(r:V->Option Int->Option Int->Hp->VK->Prop):Prop:=
 ∀(pins:List (Addr×Obj)) (s:Q8) (σ:St) (H:Hp) (x:V) (v vl vu:Q2) (lo hi:Option Int) (sl:Addr) (Q:VK),Inv X pins σ H s->dD x v->s.heap.IsSliceOf sl vl vu .none->IsPart vl lo->IsPart vu hi->r x lo hi H Q->
  ∃T id,typeLookup (.type T) "__getitem__"=pure (some (.builtin id))/\s.TypeIs v T/\wpAny (Qq X.prog X.w) X.A (getItem v (.ref sl)) (EP X pins σ Q) X.xe s
theorem SlR.or{r r':V->Option Int->Option Int->Hp->VK->Prop}(h:SlR X r)(h':SlR X r'):SlR X (fun x lo hi H Q=>r x lo hi H Q\/r' x lo hi H Q):=by
 intro pins s σ H x v vl vu lo hi sl Q I rx hs pl pu q;rcases q with q|q
 ·exact h pins s σ H x v vl vu lo hi sl Q I rx hs pl pu q
 ·exact h' pins s σ H x v vl vu lo hi sl Q I rx hs pl pu q
def tSl(r:V->Option Int->Option Int->Hp->VK->Prop)(te:TE)(tl th:TO):TE:=fun σ H Q=>te σ H fun x H1=>tl σ H1 fun l H2=>th σ H2 fun u H3=>r x l u H3 Q
theorem Bn{r:V->Option Int->Option Int->Hp->VK->Prop}(hr:SlR X r)(he:PE X e te)(hl:PO X lo tl)(hu:PO X hi th):PE X (.Subscript e (.Slice lo hi none p2) pos) (tSl r te tl th):=by
 intro pins s σ H Q I h;refine Subscript_ (thn (he pins s σ H _ I h) fun v s1 hz=>?_);obtain⟨x,H1,I1,r1,q1⟩:=hz;refine wpAny_Slice (thn (hl pins s1 σ H1 _ I1 q1) fun vl s2 ⟨l,H2,I2,pl,q2⟩=>thn (hu pins s2 σ H2 _ I2 q2) fun vu s3 hz=>?_);obtain⟨u,H3,I3,pu,q3⟩:=hz;rw[evalPart_none];refine QC ?_;have I4:Inv X pins σ H3 { s3 with heap:=s3.heap.push { cls:=.type "slice",data:=.fields #[vl,vu,.none] } }:=I3.kept (t':=s3.toks) fun b ob q=>QX _ q;obtain⟨T,id,hT,ht,hg⟩:=hr pins { s3 with heap:=s3.heap.push { cls:=.type "slice",data:=.fields #[vl,vu,.none] } } σ H3 x v vl vu l u s3.heap.objs.size Q I4 r1 (Heap.IsSliceOf.new ..) pl pu q3;show wpAny (Qq X.prog X.w) X.A (subscriptTail e (.Slice lo hi none p2) v (.ref s3.heap.objs.size)) (EP X pins σ Q) X.xe { s3 with heap:=s3.heap.push { cls:=.type "slice",data:=.fields #[vl,vu,.none] } };exact tail_any (ops:=[.ref s3.heap.objs.size,v]) ht hT hg (by with_unfolding_all rfl)
def zL(xs:List V)(lo hi:Option Int):List V:=(xs.drop (HT.sIx xs.length 0 lo)).take (HT.sIx xs.length xs.length hi-HT.sIx xs.length 0 lo)
theorem n8(xs:List V)(lo hi:Option Int):(zL xs lo hi).length<=xs.length:=by
 unfold zL;rw[List.length_take,List.length_drop];omega
def OX(K:Q1):V->Option Int->Option Int->Hp->VK->Prop:=fun x lo hi H Q=>∃a xs,x=.ref a/\SqT K H a xs/\
 ¬(HT.sIx xs.length 0 lo=0/\HT.sIx xs.length xs.length hi=xs.length)/\∀p,H p=none->Q (.ref p) (upd H p (.tup (zL xs lo hi)))
theorem Ib:SlR X (OX X.K):=by
 intro pins s σ H x v vl vu lo hi sl Q I rx hs pl pu h;obtain⟨a,xs,rfl,hx,hw,q⟩:=h;cases rx;obtain⟨its,r,ht,hz⟩:=I.tuple hx;have hlen:its.toArray.size=xs.length:=by rw[QH];exact r.length.symm
 refine⟨"tuple",_,PyProof.Rows.slot_tuple_getitem.lookup,ht.typeIs,?_⟩;refine HT.getItem_tuple_cut ht hs pl pu (by rw[hlen];exact hw) ?_ (by rw[hlen];exact hz);rw[hlen];refine⟨.ref s.heap.objs.size,_,I.laid (t':=s.toks) (o:=.tup (zL xs lo hi)) (fun b ob q=>QX _ q) (QU _) ?_,rfl,q _ (I.hok.fresh (QU _))⟩;exact⟨Qk (n8 xs lo hi) hz,_,(r.drop (HT.sIx xs.length 0 lo)).take (HT.sIx xs.length xs.length hi-HT.sIx xs.length 0 lo),An.new _ _⟩
def Mx(K:Q1):R2:=fun x y H Q=>∃a b xs ys,x=.ref a/\y=.ref b/\SqT K H a xs/\SqT K H b ys/\xs≠[]/\xs.length+ys.length<=QB/\
 (ys=[]->Q (.ref a) H)/\(ys≠[]->∀p,H p=none->Q (.ref p) (upd H p (.tup (xs++ys))))
theorem cG.nil_iff{xs:List V}{us:List Q2}(r:cG xs us):us=[]↔xs=[]:=by
 cases r with
 |nil=>simp
 |cons _ _=>simp
theorem Fg:OpR X (binaryOp .Add) (Mx X.K):=by
 intro pins s σ H x y v u Q I rx ry h;obtain⟨a,b,xs,ys,rfl,rfl,ha,hb,hx,hz,q1,q2⟩:=h;cases rx;cases ry;obtain⟨its,r1,p1,_⟩:=I.tuple ha;obtain⟨its2,r2,p2,_⟩:=I.tuple hb;refine HT.cat_tup p1 p2 (fun z=>hx (r1.nil_iff.mp z)) (fun z=>⟨.ref a,H,I,rfl,q1 (r2.nil_iff.mp z)⟩) (fun z=>?_) (by rw[<-r1.length,<-r2.length];exact hz);refine⟨.ref s.heap.objs.size,_,I.laid (t':=s.toks) (o:=.tup (xs++ys)) (fun b ob q=>QX _ q) (QU _) ?_,rfl,q2 (fun w=>z (r2.nil_iff.mpr w)) _ (I.hok.fresh (QU _))⟩;exact⟨by rw[QJ];exact hz,_,r1.append r2,An.new _ _⟩
end
def ixN(n:Nat)(i:Int):Option Nat:=if 0<=i then(if i<n then some i.toNat else none)else if -(n:Int)<=i then some (i+n).toNat else none
def atI{α:Type}(xs:List α)(i:Int):Option α:=(ixN xs.length i).bind fun j=>xs[j]?
theorem zc{n:Nat}{i:Int}{j:Nat}(h:ixN n i=some j):seqIndex? i n=some j/\j<n/\-(n:Int)<=i/\i<n:=by
 unfold ixN at h;by_cases h0:0<=i
 ·rw[if_pos h0]at h;by_cases h1:i<n
  ·rw[if_pos h1]at h;have e:i.toNat=j:=Option.some.inj h;exact⟨by rw[seqIndex_of h0 h1,e],by omega,by omega,h1⟩
  ·rw[if_neg h1]at h;cases h
 ·rw[if_neg h0]at h;by_cases h1:-(n:Int)<=i
  ·rw[if_pos h1]at h;have e:(i+n).toNat=j:=Option.some.inj h;exact⟨by rw[seqIndex_neg (by omega) h1,e],by omega,h1,by omega⟩
  ·rw[if_neg h1]at h;cases h
theorem Ad{α:Type}{xs:List α}{i:Int}{v:α}(h:atI xs i=some v):∃j,seqIndex? i xs.length=some j/\xs[j]?=some v/\j<xs.length/\-(xs.length:Int)<=i/\i<xs.length:=by
 unfold atI at h;cases e:ixN xs.length i with
 |none=>rw[e]at h;cases h
 |some j=>
  rw[e]at h;obtain⟨h1,h2,h3,h4⟩:=zc e;exact⟨j,h1,h,h2,h3,h4⟩
theorem j4{α:Type}{xs:List α}{j:Nat}{v:α}(h:xs[j]?=some v):atI xs (j:Int)=some v:=by
 have hj:j<xs.length:=(Q6.mp h).1;have e:ixN xs.length (j:Int)=some j:=by
  unfold ixN;rw[if_pos (by omega),if_pos (by omega)];simp
 unfold atI;rw[e];exact h
theorem vO{α:Type}(xs:List α)(v:α):atI (xs++[v]) (-1)=some v:=by
 have hl:(xs++[v]).length=xs.length+1:=by simp
 have e:ixN (xs++[v]).length (-1)=some xs.length:=by
  unfold ixN;rw[hl,if_neg (by decide),if_pos (by omega)];congr 1;omega
 unfold atI;rw[e];show(xs++[v])[xs.length]?=some v;simp
def uL(b:QK):Prop:=∀o i,subscripted b false o i=operate [o,i] (getItem o i)
def IxR(X:Cx)(r:R2):Prop:=
 ∀(value slice:QK) (pins:List (Addr×Obj)) (s:Q8) (σ:St) (H:Hp) (x y:V) (v u:Q2) (Q:VK),Inv X pins σ H s->dD x v->dD y u->r x y H Q->
  subscripted slice false v u=operate [v,u] (getItem v u)->wpAny (Qq X.prog X.w) X.A (subscriptTail value slice v u) (EP X pins σ Q) X.xe s
def MtR(X:Cx)(id:String)(r:V->List V->Hp->VK->Prop):Prop:=
 ∀(pins:List (Addr×Obj)) (s:Q8) (σ:St) (H:Hp) (x:V) (xs:List V) (v:Q2) (us:List Q2) (Q:VK),Inv X pins σ H s->dD x v->cG xs us->r x xs H Q->
  wpAny (Qq X.prog X.w) X.A (call (.builtin id) (v::us)) (EP X pins σ Q) X.xe s
section
variable{X:Cx}{a b:QK}{ta tb:TE}{pos:Pos}
theorem IxR.or{r r':R2}(h:IxR X r)(h':IxR X r'):IxR X (fun x y H Q=>r x y H Q\/r' x y H Q):=by
 intro value slice pins s σ H x y v u Q I rx ry q hs;rcases q with q|q
 ·exact h value slice pins s σ H x y v u Q I rx ry q hs
 ·exact h' value slice pins s σ H x y v u Q I rx ry q hs
theorem MF{r:R2}(hr:IxR X r)(ha:PE X a ta)(hb:PE X b tb)(hs:uL b):PE X (.Subscript a b pos) (tOp r ta tb):=by
 intro pins s σ H Q I h;exact Subscript_ (K8 ha hb I h fun v u s2 x y H2 I2 rx ry q=>hr a b pins s2 σ H2 x y v u Q I2 rx ry q (hs _ _))
def O5(K:Q1):R2:=fun x y H Q=>∃p xs i v,x=.ref p/\y=.int i/\SqL K H p xs/\atI xs i=some v/\Q v H
def OZ(K:Q1):R2:=fun x y H Q=>∃p xs i v,x=.ref p/\y=.int i/\SqT K H p xs/\atI xs i=some v/\Q v H
theorem FL:IxR X (O5 X.K):=by
 intro value slice pins s σ H x y v u Q I rx ry h hs;obtain⟨p,xs,i,z,rfl,rfl,hq,he,q⟩:=h;cases rx;obtain⟨t,rfl⟩:=ry;obtain⟨its,r,pl,hz⟩:=I.list hq;obtain⟨j,h1,h2,h3,h4,h5⟩:=Ad he;obtain⟨w,ew,rw'⟩:=r.get h2;have hl:=r.length;have hn:=vv;have fin:EP X pins σ Q w s:=⟨z,H,I,rw',q⟩;by_cases h0:0<=i
 ·have hj:i.toNat=j:=by
   rw[seqIndex_of h0 h5]at h1;exact Option.some.inj h1
  exact item_listR pl.isList h0 (by omega) (by rw[hj];simpa using ew) fin hs
 ·have hj:(i+(its.toArray.size:Int)).toNat=j:=by
   rw[seqIndex_neg (by omega) h4]at h1;rw[QH,<-hl];exact Option.some.inj h1
  exact subscriptTail_builtinR (x:=w) pl.isList.typeIs slot_list_getitem.lookup
   (wpAny_getItem_list_neg (Q:=fun r s'=>r=w/\EP X pins σ Q r s') pl.isList (by omega) (by rw[QH]<;>omega) (by omega) (by rw[hj];simpa using ew) ⟨rfl,fin⟩) hs
theorem J0:IxR X (OZ X.K):=by
 intro value slice pins s σ H x y v u Q I rx ry h hs;obtain⟨p,xs,i,z,rfl,rfl,hq,he,q⟩:=h;cases rx;obtain⟨t,rfl⟩:=ry;obtain⟨its,r,pl,hz⟩:=I.tuple hq;obtain⟨j,h1,h2,h3,h4,h5⟩:=Ad he;obtain⟨w,ew,rw'⟩:=r.get h2;have hl:=r.length;have hn:=vv;have fin:EP X pins σ Q w s:=⟨z,H,I,rw',q⟩;exact subscriptTail_builtinR (x:=w) pl.typeIs slot_tuple_getitem.lookup
  (getItem_tuple (j:=j) (Q:=fun r s'=>r=w/\EP X pins σ Q r s') pl (by omega) (by omega) (by rw[QH,<-hl];exact h1) (by simpa using ew) ⟨rfl,fin⟩) hs
theorem wD(its:List Q2)(n j:Nat)(u:Q2):Obj.mapSeq (·.setIfInBounds j u) { cls:=.type "list",data:=.seq its.toArray n }={ cls:=.type "list",data:=.seq (its.set j u).toArray n }:=by
 simp[Obj.mapSeq]
theorem Inv.lst{pins:List (Addr×Obj)}{σ:St}{H:Hp}{s:Q8}{p:Addr}{xs:List V}(I:Inv X pins σ H s)(h:H p=some (.lst xs)) :
  ∃(its:List Q2) (n:Nat),cG xs its/\s.heap.get? p=some { cls:=.type "list",data:=.seq its.toArray n }/\xs.length<=QB:=by
 obtain⟨z,its,n,r,e⟩:=I.hok p _ h;exact⟨its,n,r,e,z⟩
theorem Inv.lstUpd{pins:List (Addr×Obj)}{σ:St}{H:Hp}{s:Q8}{p:Addr}{xs ys:List V}{its its':List Q2}{n n':Nat}{f:Obj->Obj}(I:Inv X pins σ H s)(h:H p=some (.lst xs))
  (ho:s.heap.get? p=some { cls:=.type "list",data:=.seq its.toArray n }) (hf:f { cls:=.type "list",data:=.seq its.toArray n }={ cls:=.type "list",data:=.seq its'.toArray n' }) (r:cG ys its') (hz:ys.length<=QB) (t:Nat) :
  Inv X pins σ (upd H p (.lst ys)) { s with heap:=s.heap.update p f,toks:=t }:=by
 have e:(s.heap.update p f).get? p=some { cls:=.type "list",data:=.seq its'.toArray n' }:=by
  rw[ZR f ho (by rw[hf]<;>rfl),hf]
 refine I.write (x:=p) (e:=p) (by rw[h];trivial) (.inl rfl) (fun b u hb q=>(Ql _ _ (Ne.symm hb)).trans q) ⟨_,e⟩ ?_;exact⟨hz,its',n',r,e⟩
def Mu:V->V->V->Hp->(Hp->Prop)->Prop:=fun o i v H Q=>∃p xs k j,o=.ref p/\i=.int k/\H p=some (.lst xs)/\ixN xs.length k=some j/\Q (upd H p (.lst (xs.set j v)))
theorem AV:NG X Mu:=by
 intro pins s σ H o i v ov iv u Q I ro ri rv h;obtain⟨p,xs,k,j,rfl,rfl,hp,hj,q⟩:=h;cases ro;obtain⟨t,rfl⟩:=ri;obtain⟨its,n,r,ho,hz⟩:=I.lst hp;obtain⟨h1,h2,h3,h4⟩:=zc hj;have hl:=r.length;have hn:=vv;have I':Inv X pins σ (upd H p (.lst (xs.set j v))) { s with heap:=s.heap.update p (Obj.mapSeq (·.setIfInBounds j u)) }:=
  I.lstUpd hp ho (wD its n j u) (r.set rv j) (by rw[List.length_set];exact hz) s.toks
 by_cases h0:0<=k
 ·have hk:k.toNat=j:=by
   rw[seqIndex_of h0 h4]at h1;exact Option.some.inj h1
  exact PySem.W.ki_setAt ho h0 (by omega) (by rw[QH,<-hl];exact h4) (by rw[hk];exact⟨_,I',q⟩)
 ·have hk:(k+(its.toArray.size:Int)).toNat=j:=by
   rw[seqIndex_neg (by omega) h3]at h1;rw[QH,<-hl];exact Option.some.inj h1
  exact PySem.W.ki_setBack ho (by omega) (by rw[QH,<-hl];exact h3) (by omega) (by rw[hk];exact⟨_,I',q⟩)
theorem rg(lo hi:Option Int)(n:Nat):(sliceBounds lo hi none n).1=((HT.sIx n 0 lo:Nat):Int)/\(sliceBounds lo hi none n).2.1=((HT.sIx n n hi:Nat):Int)/\(sliceBounds lo hi none n).2.2=1:=by
 refine⟨?_,?_,rfl⟩
 ·cases lo with
  |none=>simp[sliceBounds,HT.sIx]
  |some i=>
   simp only[sliceBounds,HT.sIx,Option.getD_none,show(1:Int)>0 by decide,if_true];by_cases h:i<0
   ·simp only[h,if_true]<;>omega
   ·simp only[h,if_false]<;>omega
 ·cases hi with
  |none=>simp[sliceBounds,HT.sIx]
  |some i=>
   simp only[sliceBounds,HT.sIx,Option.getD_none,show(1:Int)>0 by decide,if_true];by_cases h:i<0
   ·simp only[h,if_true]<;>omega
   ·simp only[h,if_false]<;>omega
theorem pV(its:List Q2)(lo hi:Option Int):slicePick its.toArray lo hi none=((its.drop (HT.sIx its.length 0 lo)).take (HT.sIx its.length its.length hi-HT.sIx its.length 0 lo)).toArray:=by
 obtain⟨h1,h2,h3⟩:=rg lo hi its.toArray.size;unfold slicePick;rw[h1,h2,h3];simp only[sliceRange_one,pick_run,QH]<;>rfl
def OY(K:Q1):V->Option Int->Option Int->Hp->VK->Prop:=fun x lo hi H Q=>∃a xs,x=.ref a/\SqL K H a xs/\∀p,H p=none->Q (.ref p) (upd H p (.lst (zL xs lo hi)))
theorem ye:SlR X (OY X.K):=by
 intro pins s σ H x v vl vu lo hi sl Q I rx hs pl pu h;obtain⟨a,xs,rfl,hx,q⟩:=h;cases rx;obtain⟨its,r,ht,hz⟩:=I.list hx;have hlen:=r.length;refine⟨"list",_,slot_list_getitem.lookup,ht.isList.typeIs,?_⟩;refine wpAny_getItem_list_slice ht.isList hs pl pu .none (by simp) ?_ (by rw[QH]<;>omega);rw[pV,<-hlen];refine⟨.ref s.heap.objs.size,_,I.laid (t':=s.toks) (o:=.lst (zL xs lo hi)) (fun b ob q=>QX _ q) (QU _) ?_,rfl,q _ (I.hok.fresh (QU _))⟩;exact⟨Qk (n8 xs lo hi) hz,_,0,(r.drop (HT.sIx xs.length 0 lo)).take (HT.sIx xs.length xs.length hi-HT.sIx xs.length 0 lo),Qy _ rfl⟩
def oN:V->Bool
 |.non=>true
 |.bl _=>true
 |.int _=>true
 |.str _=>true
 |_=>false
def eqV:V->V->Bool
 |.non,.non=>true
 |.bl a,.bl b=>a == b
 |.bl a,.int b=>(if a then 1 else 0) == b
 |.int a,.bl b=>a == (if b then 1 else 0)
 |.int a,.int b=>a == b
 |.str a,.str b=>a == b
 |_,_=>false
theorem Kh{A:Qe}{s:Q8}{y x:V}{u v:Q2}(ry:dD y u)(rx:dD x v)(fy:oN y=true)(fx:oN x=true):SeqAt.EqAt A s u v (eqV y x):=by
 cases y with
 |non=>
  cases ry;cases x with
  |non=>cases rx;exact SeqAt.EqAt.same _
  |bl b=>cases rx;exact SeqAt.EqAt.none_bool b
  |int b=>obtain⟨t,rfl⟩:=rx;exact SeqAt.EqAt.none_int b t
  |str b=>obtain⟨t,rfl⟩:=rx;exact SeqAt.EqAt.none_str b t
  |_=>exact absurd (show false=true from fx) QR
 |bl a=>
  cases ry;cases x with
  |non=>cases rx;exact SeqAt.EqAt.bool_none a
  |bl b=>cases rx;exact SeqAt.EqAt.bool_bool a b
  |int b=>obtain⟨t,rfl⟩:=rx;exact SeqAt.EqAt.bool_int a b t
  |str b=>obtain⟨t,rfl⟩:=rx;exact SeqAt.EqAt.bool_str a b t
  |_=>exact absurd (show false=true from fx) QR
 |int a=>
  obtain⟨t',rfl⟩:=ry;cases x with
  |non=>cases rx;exact SeqAt.EqAt.int_none a t'
  |bl b=>cases rx;exact SeqAt.EqAt.int_bool a t' b
  |int b=>obtain⟨t,rfl⟩:=rx;exact SeqAt.EqAt.int_int a t' b t
  |str b=>obtain⟨t,rfl⟩:=rx;exact SeqAt.EqAt.int_str a t' b t
  |_=>exact absurd (show false=true from fx) QR
 |str a=>
  obtain⟨t',rfl⟩:=ry;cases x with
  |non=>cases rx;exact SeqAt.EqAt.str_none a t'
  |bl b=>cases rx;exact SeqAt.EqAt.str_bool a t' b
  |int b=>obtain⟨t,rfl⟩:=rx;exact SeqAt.EqAt.str_int a t' b t
  |str b=>obtain⟨t,rfl⟩:=rx;exact SeqAt.EqAt.str_str a t' b t
  |_=>exact absurd (show false=true from fx) QR
 |_=>exact absurd (show false=true from fy) QR
def eqU(x:V)(u:Q2):Bool:=match u with
 |.none=>eqV .non x
 |.bool b=>eqV (.bl b) x
 |.int i _=>eqV (.int i) x
 |.str z _=>eqV (.str z) x
 |_=>false
theorem Dg{x y:V}{u:Q2}(r:dD y u)(f:oN y=true):eqU x u=eqV y x:=by
 cases y with
 |non=>cases r;rfl
 |bl b=>cases r;rfl
 |int i=>obtain⟨t,rfl⟩:=r;rfl
 |str z=>obtain⟨t,rfl⟩:=r;rfl
 |_=>exact absurd (show false=true from f) QR
theorem uJ{x:V}:∀{xs:List V} {us:List Q2},cG xs us->xs.all oN=true->us.any (eqU x)=xs.any fun y=>eqV y x
 |_,_,.nil,_=>rfl
 |y::xs,u::us,.cons r t,f=>by
  rw[List.all_cons,ZQ]at f;rw[ZN,ZN,Dg r f.1,uJ t f.2]
theorem qc{A:Qe}{s:Q8}{x:V}{v:Q2}(rx:dD x v)(fx:oN x=true):∀{xs:List V} {us:List Q2},cG xs us->xs.all oN=true->∀u∈us,SeqAt.EqAt A s u v (eqU x u)
 |_,_,.nil,_=>fun u hu=>by cases hu
 |y::xs,u::us,.cons r t,f=>fun u' hu=>by
  rw[List.all_cons,ZQ]at f;rcases Qz.mp hu with rfl|hu
  ·rw[Dg r f.1];exact Kh r rx f.1 fx
  ·exact qc rx fx t f.2 u' hu
def inV(x:V)(xs:List V):Bool:=xs.any fun y=>eqV y x
def rIn(K:Q1)(neg:Bool):R2:=fun x y H Q=>∃p xs,y=.ref p/\(SqL K H p xs\/SqT K H p xs)/\oN x=true/\xs.all oN=true/\Q (.bl (if neg then !inV x xs else inV x xs)) H
theorem yE:OpR X (compareOp .In) (rIn X.K false):=by
 intro pins s σ H x y v u Q I rx ry h;obtain⟨p,xs,rfl,hq,fx,fs,q⟩:=h;cases ry;rcases hq with hq|hq
 ·obtain⟨its,r,pl,hz⟩:=I.list hq;refine SeqAt.in_listAt (eqU x) pl.isList (fun w hw=>qc rx fx r fs w (by simpa using hw)) ⟨.bl _,H,I,rfl,?_⟩;rw[show its.toArray.any (eqU x)=its.any (eqU x)by simp,uJ r fs];exact q
 ·obtain⟨its,r,pl,hz⟩:=I.tuple hq;refine SeqAt.in_tupleAt (eqU x) pl (fun w hw=>qc rx fx r fs w (by simpa using hw)) ⟨.bl _,H,I,rfl,?_⟩;rw[show its.toArray.any (eqU x)=its.any (eqU x)by simp,uJ r fs];exact q
theorem sC:f7 X (.builtin "len") (fun xs H Q=>∃p ys,xs=[.ref p]/\(SqL X.K H p ys\/SqT X.K H p ys)/\Q (.int ys.length) H):=by
 intro pins s σ H xs us Q I r h;obtain⟨p,ys,rfl,hq,q⟩:=h;obtain⟨u,rfl,rx⟩:=mK r;cases rx;have hn:=vv;rcases hq with hq|hq
 ·obtain⟨its,r',pl,hz⟩:=I.list hq;have hlen:=r'.length;exact Calls.call_len_list pl.isList (by simp only[QH]<;>omega) ⟨.int ys.length,H,I.tok _,⟨s.toks+1,by rw[QH,hlen]⟩,q⟩
 ·obtain⟨its,r',pl,hz⟩:=I.tuple hq;have hlen:=r'.length;exact len_tuple pl (by simp only[QH]<;>omega) ⟨.int ys.length,H,I.tok _,⟨s.toks+1,by rw[QH,hlen]⟩,q⟩
theorem f7.or{f:Q2}{r r':List V->Hp->VK->Prop}(h:f7 X f r)(h':f7 X f r'):f7 X f (fun xs H Q=>r xs H Q\/r' xs H Q):=by
 intro pins s σ H xs us Q I rs q;rcases q with q|q
 ·exact h pins s σ H xs us Q I rs q
 ·exact h' pins s σ H xs us Q I rs q
theorem sy:f7 X (.type "list") (fun xs H Q=>∃p ys,xs=[.ref p]/\(SqL X.K H p ys\/SqT X.K H p ys)/\∀l,H l=none->Q (.ref l) (upd H l (.lst ys))):=by
 intro pins s σ H xs us Q I r h;obtain⟨p,ys,rfl,hq,q⟩:=h;obtain⟨u,rfl,rx⟩:=mK r;cases rx;have fin:∀(its:List Q2),cG ys its->ys.length<=QB->∀(h':Heap) (c':Nat),(∀b o',s.heap.get? b=some o'->h'.get? b=some o')->
   h'.get? s.heap.objs.size=some { cls:=.type "list",dict:=none,data:=.seq its.toArray c',slots:=#[] }->EP X pins σ Q (.ref s.heap.objs.size) { s with heap:=h' }:=fun its r' hz h' c' kp e=>
  ⟨.ref s.heap.objs.size,_,I.laid (t':=s.toks) kp (QU _) (show dB X.prog X.w _ h' _ (.lst ys)from⟨hz,its,c',r',e⟩),rfl,q _ (I.hok.fresh (QU _))⟩
 rcases hq with hq|hq
 ·obtain⟨its,r',pl,hz⟩:=I.list hq;have hlen:=r'.length;obtain⟨o,ho,hc,n,hd⟩:=pl.isList;exact call_list_seq p (.inl rfl) ho hc hd (fun h' c' kp e=>fin its r' hz h' c' kp e) (by simp only[QH]<;>omega)
 ·obtain⟨its,r',pl,hz⟩:=I.tuple hq;have hlen:=r'.length;obtain⟨o,ho,hc,n,hd⟩:=pl;exact call_list_seq p (.inr rfl) ho hc hd (fun h' c' kp e=>fin its r' hz h' c' kp e) (by simp only[QH]<;>omega)
theorem ik:f7 X (.type "tuple") (fun xs H Q=>∃p ys,xs=[.ref p]/\((SqL X.K H p ys/\∀l,H l=none->Q (.ref l) (upd H l (.tup ys)))\/(SqT X.K H p ys/\Q (.ref p) H))):=by
 intro pins s σ H xs us Q I r h;obtain⟨p,ys,rfl,h⟩:=h;obtain⟨u,rfl,rx⟩:=mK r;cases rx;rcases h with⟨hq,q⟩|⟨hq,q⟩
 ·obtain⟨its,r',pl,hz⟩:=I.list hq;have hlen:=r'.length;refine call_tuple_list pl.isList (fun h' kp=>?_) (by simp only[QH]<;>omega);have I1:Inv X pins σ H { s with heap:=h' }:=I.kept (t':=s.toks) kp;have I2:Inv X pins σ (upd H h'.objs.size (.tup ys)) { s with heap:=h'.push { cls:=.type "tuple",data:=.seq its.toArray } }:=
   I1.laid (t':=s.toks) (fun b o e=>QX _ e) (QU _) (show dB X.prog X.w _ _ _ (.tup ys)from⟨hz,its,r',An.new _ _⟩)
  exact⟨.ref h'.objs.size,_,I2,rfl,q _ (I1.hok.fresh (QU _))⟩
 ·obtain⟨its,r',pl,hz⟩:=I.tuple hq;exact call_tuple_same pl ⟨.ref p,H,I,rfl,q⟩
def tyV(K:Q1)(T:String)(x:V)(H:Hp):Prop:=match x with
 |.str _=>T="str"
 |.int _=>T="int"
 | .ref p=>(T="list"/\∃xs,SqL K H p xs)\/(T="tuple"/\∃o,K.lookup p=some o/\o.cls=.type "tuple"/\o.dict=none)\/
   (T="dict"/\((∃kvs,H p=some (.dK kvs))\/∃kvs,H p=some (.dT kvs)))\/(T="set"/\∃S n,H p=some (.set S n))
 |_=>False
theorem CB{pins:List (Addr×Obj)}{σ:St}{H:Hp}{s:Q8}{T:String}{x:V}{v:Q2}(I:Inv X pins σ H s)(r:dD x v)(ty:tyV X.K T x H) :
  s.TypeIs v T/\∀a,v=.ref a->∃ob,s.heap.get? a=some ob/\ob.dict=none:=by
 cases x with
 |str z=>
  obtain⟨t,rfl⟩:=r;cases (show T="str" from ty);exact⟨typeIs_str s z t,fun _ e=>nomatch e⟩
 |int i=>
  obtain⟨t,rfl⟩:=r;cases (show T="int" from ty);exact⟨typeIs_int s i t,fun _ e=>nomatch e⟩
 |ref p=>
  cases r;rcases ty with⟨rfl,xs,hq⟩|⟨rfl,o,hk,hc,hd⟩|⟨rfl,hk⟩|⟨rfl,S,n,hk⟩
  ·obtain⟨its,_,pl,_⟩:=I.list hq;refine⟨pl.isList.typeIs,fun a e=>?_⟩;cases e;obtain⟨o,n,e,c,hd,_⟩:=pl;exact⟨o,e,hd⟩
  ·refine⟨⟨o,I.kIn p o hk,hc⟩,fun a e=>?_⟩;cases e;exact⟨o,I.kIn _ o hk,hd⟩
  ·have z:∃o,s.heap.get? p=some o/\o.ExactDict:=by
    rcases hk with⟨kvs,hk⟩|⟨kvs,hk⟩
    ·obtain⟨_,_,_,_,o,_,_,e,ex,_⟩:=I.hok p _ hk;exact⟨o,e,ex⟩
    ·obtain⟨_,_,_,_,o,_,_,e,ex,_⟩:=I.hok p _ hk;exact⟨o,e,ex⟩
   obtain⟨o,e,ex⟩:=z;refine⟨⟨o,e,ex.1⟩,fun a e2=>?_⟩;cases e2;exact⟨o,e,ex.2.1⟩
  ·obtain⟨o,_,_,_,e,ex,_⟩:=I.hok p _ hk;refine⟨⟨o,e,ex.1⟩,fun a e2=>?_⟩;cases e2;exact⟨o,e,ex.2.1⟩
 |_=>exact False.elim ty
def NW(K:Q1)(T:String)(r:V->List V->Hp->VK->Prop)(to:TE):TE:=fun σ H Q=>to σ H fun x H1=>tyV K T x H1/\r x [] H1 Q
def tBM(K:Q1)(T:String)(r:V->List V->Hp->VK->Prop)(to:TE)(t:TA):TE:=fun σ H Q=>to σ H fun x H1=>tyV K T x H1/\t σ H1 fun xs H2=>r x xs H2 Q
variable{o e:QK}{es:List QK}{to:TE}{t:TA}{name:Str}{apos cpos:Pos}{T id:String}{r:V->List V->Hp->VK->Prop}
theorem Jo(pa:PlainAttrs T)(slot:Slot T name id)(hty:typeOf (.builtin id)=pure (.type "method_descriptor"))(hm:MtR X id r)(ho:PE X o to)
  (hbase:attributeBase o name X.env (eval o X.env)=eval o X.env:=by rfl) (hline:(apos.endLine == cpos.line)=true:=by rfl):PE X (.Call (.Attribute o name apos) [] [] cpos) (NW X.K T r to):=by
 intro pins s σ H Q I h;refine wpAny_Call_method0_late hbase hline (thn (ho pins s σ H _ I h) fun v s1 hz=>?_);obtain⟨x,H1,I1,r1,ty,q1⟩:=hz;obtain⟨h1,h2⟩:=CB I1 r1 ty;exact⟨T,id,pa,slot,hty,h1,h2,Calls.callWith_builtin rfl (PySem.evalArgs_none (hm pins s1 σ H1 x [] v [] Q I1 r1 .nil q1))⟩
theorem MG(pa:PlainAttrs T)(slot:Slot T name id)(hty:typeOf (.builtin id)=pure (.type "method_descriptor"))(hm:MtR X id r)(ho:PE X o to)(ha:PA X (e::es) t)
  (hbase:attributeBase o name X.env (eval o X.env)=eval o X.env:=by rfl)
  (hfew:((Qa cpos (Q7 (e::es) X.env)).all (fun x=>!x.1)&&(backToKw cpos (keywordEach [] X.env)).all (fun x=>x.1.isSome)
   && decide ((e::es).length+([]:List Keyword).length+(if ([]:List Keyword).isEmpty then 0 else 1)<30))=true:=by rfl)
  (hline:(apos.endLine == cpos.line)=true:=by rfl) (hs:Q7 (e::es) X.env=(false,eval e X.env)::Q7 es X.env:=by rfl) (hplain:(Qa cpos (Q7 es X.env)).any (·.1)=false:=by rfl) :
  PE X (.Call (.Attribute o name apos) (e::es) [] cpos) (tBM X.K T r to t):=by
 intro pins s σ H Q I h;refine wpAny_Call_method_late hbase hfew hline rfl (thn (ho pins s σ H _ I h) fun v s1 hz=>?_);obtain⟨x,H1,I1,r1,ty,q1⟩:=hz;obtain⟨h1,h2⟩:=CB I1 r1 ty;refine⟨T,id,pa,slot,hty,h1,h2,?_⟩;have hA:=ha cpos pins s1 σ H1 _ I1 q1;rw[hs]at hA ⊢;refine Calls.callWith_builtin (by show(false||(Qa cpos (Q7 es X.env)).any (·.1))=false;rw[hplain]<;>rfl) (Calls.evalArgs_plain ?_);exact thn hA fun us s2 ⟨vs,H2,I2,r2,q2⟩=>hm pins s2 σ H2 x vs v us Q I2 r1 r2 q2
end
def MtM(X:Cx)(id:String)(r:V->List V->Hp->VK->Prop):Prop:=
 ∀(pins:List (Addr×Obj)) (s:Q8) (σ:St) (H:Hp) (x:V) (xs:List V) (v:Q2) (us:List Q2) (Q:VK),Inv X pins σ H s->dD x v->cG xs us->r x xs H Q->
  wpAny (Qq X.prog X.w) X.A (call (.builtin id) (v::us)) (EP X pins σ Q) X.xe s
theorem cG.one:∀{x:V} {us:List Q2},cG [x] us->∃u,us=[u]/\dD x u
 |_,_,.cons r .nil=>⟨_,rfl,r⟩
theorem cG.zero:∀{us:List Q2},cG [] us->us=[]
 |_,.nil=>rfl
theorem cG.dropLast{xs:List V}{us:List Q2}(h:cG xs us):cG xs.dropLast us.dropLast:=by
 induction h with
 |nil=>exact .nil
 |cons r t ih=>
  cases t with
  |nil=>exact .nil
  |cons q t'=>exact .cons r ih
theorem cG.rep{xs:List V}{us:List Q2}(h:cG xs us):∀k:Nat,cG (Q9 k xs).flatten (Q9 k us).flatten
 |0=>.nil
 |k+1=>by
  rw[Qs,Qs,ZH,ZH];exact cG.append h (cG.rep h k)
theorem wR{α:Type}(l:List α):l.eraseIdx (l.length-1)=l.dropLast:=by
 induction l with
 |nil=>rfl
 |cons a r ih=>
  cases r with
  |nil=>rfl
  |cons b r=>
   have e:(a::b::r).length-1=((b::r).length-1)+1:=by
    have h1:(a::b::r).length=r.length+2:=rfl;have h2:(b::r).length=r.length+1:=rfl;omega
   rw[e,List.eraseIdx_cons_succ,ih];all_goals rfl
theorem nT(its:List Q2):∀(k:Nat) (acc:List Q2),
  List.foldl (fun x1 x2=>x1++x2) acc.toArray (Q9 k its.toArray)=(acc++(Q9 k its).flatten).toArray
 |0,acc=>by simp
 |k+1,acc=>by
  have e:acc.toArray++its.toArray=(acc++its).toArray:=by simp
  have e2:(acc++its)++(Q9 k its).flatten=acc++(Q9 (k+1) its).flatten:=by
   rw[Qs,ZH,QQ]
  rw[<-e2,<-nT its k (acc++its),<-e,Qs,List.foldl_cons]
section
variable{X:Cx}{pins:List (Addr×Obj)}{σ:St}{H:Hp}{s:Q8}{l:Addr}{xs ys:List V}
theorem Inv.lset{its its':List Q2}{n:Nat}{f:Array Q2->Array Q2}{t':Nat}(I:Inv X pins σ H s)(hH:H l=some (.lst xs))
  (e:s.heap.get? l=some { cls:=.type "list",data:=.seq its.toArray n }) (hf:f its.toArray=its'.toArray) (hv:cG ys its') (hz:ys.length<=QB) :
  Inv X pins σ (upd H l (.lst ys)) { s with heap:=s.heap.update l (Obj.mapSeq f),toks:=t' }:=by
 have q:=PySem.IsL.update e f;rw[hf]at q;refine I.write (x:=l) (e:=l) (by rw[hH];exact trivial) (.inl rfl) (fun b' u hb hu=>(Ql s.heap (Obj.mapSeq f) (Ne.symm hb)).trans hu) ⟨_,q⟩ ?_;exact⟨hz,its',_,hv,q⟩
theorem Inv.lnew{its:List Q2}{t':Nat}(I:Inv X pins σ H s)(hv:cG ys its)(hz:ys.length<=QB) :
  Inv X pins σ (upd H s.heap.objs.size (.lst ys)) { s with heap:=s.heap.push { cls:=.type "list",data:=.seq its.toArray },toks:=t' }:=
 I.laid (fun _ _ q=>QX _ q) (QU _) ⟨hz,its,0,hv,Qy _ rfl⟩
def Inv.fresh(I:Inv X pins σ H s):H s.heap.objs.size=none:=I.hok.fresh (QU _)
theorem Inv.lstM(I:Inv X pins σ H s)(hH:H l=some (.lst xs)):xs.length<=QB/\∃(its:List Q2) (n:Nat),cG xs its/\xs.length=its.length/\s.heap.get? l=some { cls:=.type "list",data:=.seq its.toArray n }:=by
 obtain⟨z,its,n,r,e⟩:=I.hok l _ hH;exact⟨z,its,n,r,r.length,e⟩
theorem vo{n:Nat}(h:n<=QB):Builtin.List.listTooLong n=false:=by
 unfold Builtin.List.listTooLong;exact decide_eq_false (by omega)
end
section
variable{X:Cx}
def yo:V->List V->Hp->VK->Prop:=fun x vs H Q=>∃l xs y,x=.ref l/\vs=[y]/\H l=some (.lst xs)/\xs.length<QB/\Q .non (upd H l (.lst (xs++[y])))
theorem rL:MtM X "list.append" yo:=by
 intro pins s σ H x vs v us Q I rx rv h;obtain⟨l,xs,y,rfl,rfl,hH,hz,q⟩:=h;cases rx;obtain⟨u,rfl,ru⟩:=rv.one;obtain⟨z,its,n,r,hl,e⟩:=I.lstM hH;refine call_meets F.slot_list_append ⟨_,e,rfl⟩ F.entry_list_append (F.args_list_append_2 _ _) (PySem.list_append l its.toArray n u (by rw[QH];omega)) ⟨e,?_⟩;refine⟨.non,_,I.lset (its':=its++[u]) hH e (by simp) (r.append (.cons ru .nil)) ?_,rfl,q⟩;rw[QJ,List.length_singleton];omega
def yn:V->List V->Hp->VK->Prop:=fun x vs H Q=>∃l b xs zs,x=.ref l/\vs=[.ref b]/\H l=some (.lst xs)/\H b=some (.lst zs)/\xs.length+zs.length<=QB/\Q .non (upd H l (.lst (xs++zs)))
theorem yL:MtM X "list.extend" yn:=by
 intro pins s σ H x vs v us Q I rx rv h;obtain⟨l,b,xs,zs,rfl,rfl,hH,hB,hz,q⟩:=h;cases rx;obtain⟨u,rfl,ru⟩:=rv.one;cases ru;obtain⟨z,its,n,r,hl,e⟩:=I.lstM hH;obtain⟨z2,its2,n2,r2,hl2,e2⟩:=I.lstM hB;have hsz:its.toArray.size+its2.toArray.size<=QB:=by rw[QH,QH];omega
 have hlong:¬(!its.toArray.isEmpty&&Builtin.List.listTooLong (its.toArray.size+its2.toArray.size))=true:=by
  rw[vo hsz,Bool.and_false];exact QR
 refine call_meets F.slot_list_extend ⟨_,e,rfl⟩ F.entry_list_extend (F.args_list_extend_2 _ _)
  (AutoSeq1.list_extend_list_list_0 l its.toArray n b its2.toArray n2 hlong (by rw[QH];omega) (by omega)) ⟨e,e2,?_⟩
 refine⟨.non,_,I.lset (its':=its++its2) hH e (by simp) (r.append r2) ?_,rfl,q⟩;rw[QJ];omega
def NZ:V->List V->Hp->VK->Prop:=fun x vs H Q=>∃l xs y,x=.ref l/\vs=[]/\H l=some (.lst xs)/\xs[xs.length-1]?=some y/\Q y (upd H l (.lst xs.dropLast))
theorem JM:MtM X "list.pop" NZ:=by
 intro pins s σ H x vs v us Q I rx rv h;obtain⟨l,xs,y,rfl,rfl,hH,hy,q⟩:=h;cases rx;have hus:=rv.zero;subst hus;obtain⟨z,its,n,r,hl,e⟩:=I.lstM hH;obtain⟨u,hu,ru⟩:=r.get hy;have hy':its.toArray[its.toArray.size-1]?=some u:=by
  show its.toArray[its.length-1]?=some u;rw[<-Array.getElem?_toList,<-hl];exact hu
 refine call_meets F.slot_list_pop ⟨_,e,rfl⟩ F.entry_list_pop (F.args_list_pop_1 _) (MeetsSeq.list_pop_last l its.toArray n u hy' (by rw[QH];omega)) ⟨e,?_⟩;refine⟨y,_,I.lset (its':=its.dropLast) hH e ?_ r.dropLast ?_,ru,q⟩
 ·show its.toArray.eraseIdxIfInBounds (its.toArray.size-1)=its.dropLast.toArray;rw[QH,List.eraseIdxIfInBounds_toArray,wR]
 ·rw[List.length_dropLast];omega
def KU:R2:=fun x y H Q=>∃l b xs zs,x=.ref l/\y=.ref b/\H l=some (.lst xs)/\H b=some (.lst zs)/\xs.length+zs.length<=QB/\∀p,H p=none->Q (.ref p) (upd H p (.lst (xs++zs)))
theorem JC:OpR X (binaryOp .Add) KU:=by
 intro pins s σ H x y v u Q I rx ry h;obtain⟨l,b,xs,zs,rfl,rfl,hH,hB,hz,q⟩:=h;cases rx;cases ry;obtain⟨z,its,n,r,hl,e⟩:=I.lstM hH;obtain⟨z2,its2,n2,r2,hl2,e2⟩:=I.lstM hB;refine PySem.P.add_list e e2 ?_ (by rw[QH,QH];omega);have ea:its.toArray++its2.toArray=(its++its2).toArray:=by simp
 rw[ea];exact⟨.ref _,_,I.lnew (t':=s.toks) (r.append r2) (by rw[QJ];omega),rfl,q _ I.fresh⟩
def Iy:R2:=fun x y H Q=>∃l k xs,x=.ref l/\y=.int k/\H l=some (.lst xs)/\-(2^63)<=k/\k<2^63/\xs.length*k.toNat<=QB/\
 ∀p,H p=none->Q (.ref p) (upd H p (.lst (Q9 k.toNat xs).flatten))
theorem uk{α:Type}(xs:List α)(k:Nat):(Q9 k xs).flatten.length=k*xs.length:=by
 induction k with
 |zero=>simp
 |succ k ih=>rw[Qs,ZH,QJ,ih,Nat.succ_mul,Nat.add_comm]
theorem Jy:OpR X (binaryOp .Mult) Iy:=by
 intro pins s σ H x y v u Q I rx ry h;obtain⟨l,k,xs,rfl,rfl,hH,h1,h2,hz,q⟩:=h;cases rx;obtain⟨t,rfl⟩:=ry;obtain⟨z,its,n,r,hl,e⟩:=I.lstM hH;have hlen:its.toArray.size*k.toNat<=QB:=by rw[QH,<-hl];exact hz
 have hcap:¬its.toArray.size*k.toNat>(2^63-1) / 8:=by
  have:(QB:Nat)<=(2^63-1) / 8:=by decide
  omega
 have hfit:¬(!Builtin.List.listFitsIndex k)=true:=by
  rw[fitsIndex_both h1 h2];exact QR
 have hlong:¬Builtin.List.listTooLong (its.toArray.size*k.toNat)=true:=by
  rw[vo hlen];exact QR
 have hnew:List.foldl (fun x1 x2=>x1++x2) #[] (Q9 (if its.toArray.isEmpty=true then 0 else k.toNat) its.toArray)=(Q9 k.toNat its).flatten.toArray:=by
  have f0:∀m:Nat,List.foldl (fun x1 x2=>x1++x2) #[] (Q9 m its.toArray)=(Q9 m its).flatten.toArray:=fun m=>by
   have:=nT its m [];rw[Qi]at this;exact this
  rw[f0];cases its with
  |nil=>simp
  |cons a r'=>rw[if_neg (by simp)]
 refine wpAny_binaryOp_repeat_ref (T:="list") (U:="int") (by decide) ⟨_,e,rfl⟩ (fun s'=>typeIs_int s' k t) noFill_list_mul F.fills_int_mul F.slot_int_rmul repeat_list F.slot_int_index.lookup
  (call_meets F.slot_int_rmul (typeIs_int s k t) F.entry_int_rmul (F.args_int_rmul_2 _ _) (int___rmul___int_list k t l its.toArray n)
   ⟨e,rfl,⟨_,e,rfl⟩,call_meets F.slot_list_mul ⟨_,e,rfl⟩ F.entry_list_mul (F.args_list_mul_2 _ _) (AutoListH.list___mul___list_int_3 l its.toArray n k t hfit hcap hlong) ⟨e,?_⟩⟩)
 rw[hnew];exact⟨.ref _,_,I.lnew (t':=s.toks) (r.rep k.toNat) (by rw[uk,Nat.mul_comm];exact hz),rfl,q _ I.fresh⟩
end
section
variable{κ:Type}[DecidableEq κ]
def pO(kvs:List (κ×V))(k:κ):Option V:=(kvs.find? fun kv=>decide (kv.1=k)).map (·.2)
def qD(kvs:List (κ×V))(k:κ)(v:V):List (κ×V):=
 if (kvs.any fun kv=>decide (kv.1=k))=true then kvs.map (fun kv=>if kv.1=k then(kv.1,v)else kv)else kvs++[(k,v)]
def pM{p:κ×V}{r:List (κ×V)}{k:κ}(e:p.1=k):pO (p::r) k=some p.2:=by simp[pO,ZJ,e]
def pN{p:κ×V}{r:List (κ×V)}{k:κ}(e:¬p.1=k):pO (p::r) k=pO r k:=by simp[pO,ZJ,e]
theorem uV(k:κ):∀kvs:List (κ×V),(kvs.any fun kv=>decide (kv.1=k))=(pO kvs k).isSome
 |[]=>rfl
 |p::r=>by
  rw[ZN];by_cases e:p.1=k
  ·simp only[pM e,decide_eq_true e,Bool.true_or,Option.isSome_some]
  ·rw[pN e,decide_eq_false e,Bool.false_or];exact uV k r
theorem jX(kvs:List (κ×V))(k:κ)(v:V):(qD kvs k v).length<=kvs.length+1:=by
 unfold qD;split
 ·rw[QV];omega
 ·rw[QJ,Q5,Z7];omega
theorem qF.isSome_eq{o:Option V}{u:Option Q2}(r:qF o u):o.isSome=u.isSome:=by
 cases o with
 |none=>cases u with
  |none=>rfl
  |some _=>exact(show False from r).elim
 |some _=>cases u with
  |none=>exact(show False from r).elim
  |some _=>rfl
theorem qF.getD{o:Option V}{u:Option Q2}{d:V}{d':Q2}(r:qF o u)(rd:dD d d'):dD (o.getD d) (u.getD d'):=by
 cases o with
 |none=>cases u with
  |none=>exact rd
  |some _=>exact(show False from r).elim
 |some _=>cases u with
  |none=>exact(show False from r).elim
  |some _=>exact r
theorem KV.val{kvs:List (κ×V)}{vs:List (κ×Q2)}(r:KV kvs vs)(k:κ):qF (pO kvs k) (valueAt vs k):=by
 unfold KV at r;induction r with
 |nil=>exact True.intro
 |@cons p q ps qs h t ih=>
  obtain⟨h1,h2⟩:=h;by_cases e:p.1=k
  ·have e':q.1=k:=h1.symm.trans e;have b:valueAt (q::qs) k=some q.2:=by simp[valueAt,ZJ,e']
   rw[pM e,b];exact h2
  ·have e':¬q.1=k:=fun z=>e (h1.trans z);have b:valueAt (q::qs) k=valueAt qs k:=by simp[valueAt,ZJ,e']
   rw[pN e,b];exact ih
theorem KV.any{kvs:List (κ×V)}{vs:List (κ×Q2)}(r:KV kvs vs)(k:κ):(kvs.any fun kv=>decide (kv.1=k))=vs.any fun kv=>decide (kv.1=k):=by
 unfold KV at r;induction r with
 |nil=>rfl
 |cons h t ih=>rw[ZN,ZN,ih,h.1]
theorem KV.repl{kvs:List (κ×V)}{vs:List (κ×Q2)}(r:KV kvs vs)(k:κ){y:V}{u:Q2}(ry:dD y u) :
  KV (kvs.map fun kv=>if kv.1=k then(kv.1,y)else kv) (vs.map fun kv=>if kv.1=k then(kv.1,u)else kv):=by
 unfold KV at r ⊢;induction r with
 |nil=>exact .nil
 |@cons p q ps qs h t ih=>
  rw[QF,QF];refine .cons ?_ ih;obtain⟨h1,h2⟩:=h;by_cases e:p.1=k
  ·rw[if_pos e,if_pos (h1.symm.trans e)];exact⟨h1,ry⟩
  ·rw[if_neg e,if_neg (fun z=>e (h1.trans z))];exact⟨h1,h2⟩
theorem KV.put{kvs:List (κ×V)}{vs:List (κ×Q2)}(r:KV kvs vs)(k:κ){y:V}{u:Q2}(ry:dD y u):KV (qD kvs k y) (stored vs k u):=by
 unfold qD stored;rw[r.any k];by_cases e:(vs.any fun kv=>decide (kv.1=k))=true
 ·rw[if_pos e,if_pos e];exact r.repl k ry
 ·rw[if_neg e,if_neg e];exact Paired.snoc r ⟨rfl,ry⟩
def KV.length{kvs:List (κ×V)}{vs:List (κ×Q2)}(r:KV kvs vs):kvs.length=vs.length:=Paired.length r
end
theorem wK{P:QL}{w:Qu}{k:Key}{u:Q2}(r:dD (kV k) u):(dH P w).is k u=true:=by
 cases k with
 |inl i=>obtain⟨t,e⟩:=(show ∃t,u=Value.int i t from r);subst e;exact ui P w i t
 |inr x=>obtain⟨t,e⟩:=(show ∃t,u=Value.str x t from r);subst e;exact uh P w x t
theorem rS{P:QL}{w:Qu}:∀{ks:List Key} {us:List Q2},cG (ks.map kV) us->ItemsAre (dH P w) ks us
 |[],_,r=>by rw[Qc]at r;cases r;exact .nil
 |k::ks,_,r=>by
  rw[QF]at r;cases r with
  |cons h t=>exact .cons (wK h) (rS t)
abbrev KT(H:Hp):List (List Key×V)->List (List Key×Addr×Q2)->Prop:=Paired fun p q=>p.1=q.1/\H q.2.1=some (.tup (p.1.map kV))/\dD p.2 q.2.2
theorem KT.val{H:Hp}{kvs:List (List Key×V)}{xs:List (List Key×Addr×Q2)}(r:KT H kvs xs)(k:List Key):qF (pO kvs k) ((atKey xs k).map (·.2)):=by
 induction r with
 |nil=>exact True.intro
 |@cons p q ps qs h t ih=>
  obtain⟨h1,_,h2⟩:=h;by_cases e:p.1=k
  ·have e':q.1=k:=h1.symm.trans e;have b:atKey (q::qs) k=some q.2:=by simp[atKey,ZJ,e']
   rw[pM e,b];exact h2
  ·have e':¬q.1=k:=fun z=>e (h1.trans z);have b:atKey (q::qs) k=atKey qs k:=by simp[atKey,ZJ,e']
   rw[pN e,b];exact ih
theorem KT.repl{H:Hp}{kvs:List (List Key×V)}{xs:List (List Key×Addr×Q2)}(r:KT H kvs xs)(k:List Key){y:V}{u:Q2}(ry:dD y u) :
  KT H (kvs.map fun kv=>if kv.1=k then(kv.1,y)else kv) (xs.map (putAt k u)):=by
 induction r with
 |nil=>exact .nil
 |@cons p q ps qs h t ih=>
  rw[QF,QF];refine .cons ?_ ih;obtain⟨h1,h2,h3⟩:=h;unfold putAt;by_cases e:p.1=k
  ·rw[if_pos e,if_pos (h1.symm.trans e)];exact⟨h1,h2,ry⟩
  ·rw[if_neg e,if_neg (fun z=>e (h1.trans z))];exact⟨h1,h2,h3⟩
theorem KT.put{H:Hp}{kvs:List (List Key×V)}{xs:List (List Key×Addr×Q2)}(r:KT H kvs xs)(k:List Key){b:Addr}{y:V}{u:Q2}(hb:H b=some (.tup (k.map kV)))(ry:dD y u) :
  KT H (qD kvs k y) (storedH xs k b u):=by
 have e:(kvs.any fun kv=>decide (kv.1=k))=(atKey xs k).isSome:=by
  rw[uV,(r.val k).isSome_eq,Option.isSome_map]
 unfold qD storedH;rw[e];by_cases q:(atKey xs k).isSome=true
 ·rw[if_pos q,if_pos q];exact r.repl k ry
 ·rw[if_neg q,if_neg q];exact Paired.snoc r ⟨rfl,hb,ry⟩
theorem KT.keeps{H H':Hp}{kvs:List (List Key×V)}{xs:List (List Key×Addr×Q2)}(r:KT H kvs xs)(ht:∀b ys,H b=some (.tup ys)->H' b=some (.tup ys)):KT H' kvs xs:=
 Paired.mapP r fun _ _ z=>⟨z.1,ht _ _ z.2.1,z.2.2⟩
section
variable{P:QL}{w:Qu}{H:Hp}{h:Heap}{a:Addr}
def Iw{u:HO}(ok:HOk P w H h)(e:Rd H a u):dB P w H h a u:=e.ok ok
theorem uB{kvs:List (Key×V)}(ok:HOk P w H h)(e:Rd H a (.dK kvs)):kvs.length<=QB/\(a == sysModules)=false/\∃vs,KV kvs vs/\h.DictOf (dH P w) a vs:=
 show dB P w H h a (.dK kvs)from Iw ok e
theorem Km{kvs:List (Key×V)}(ok:HOk P w H h)(e:H a=some (.dK kvs)):kvs.length<=QB/\(a == sysModules)=false/\∃vs,KV kvs vs/\h.DictOf (dH P w) a vs:=uB ok (.inl e)
theorem rR{ks:List Key}(ok:HOk P w H h)(e:H a=some (.tup (ks.map kV))):(tupleKind (dH P w)).is h ks a:=by
 obtain⟨_,its,r,o,h1,h2,n,h3⟩:=(show dB P w H h a (.tup (ks.map kV))from ok a _ e);exact⟨o,its.toArray,n,h1,h2.1,h3,by simpa using rS r⟩
theorem wU{kvs:List (List Key×V)}(ok:HOk P w H h)(e:Rd H a (.dT kvs)):kvs.length<=QB/\(a == sysModules)=false/\
  ∃xs,KT H kvs xs/\h.DictOfH (tupleKind (dH P w)) a xs:=by
 obtain⟨z,y,xs,r,o,es,ep,h1,h2,h3,h4,h5⟩:=(show dB P w H h a (.dT kvs)from Iw ok e);refine⟨z,y,xs,r,o,es,ep,h1,h2,h3,h4,fun x hx=>?_,h5⟩;have all:∀{l:List (List Key×V)} {m:List (List Key×Addr×Q2)},KT H l m->∀x∈m,(tupleKind (dH P w)).is h x.1 x.2.1:=by
  intro l m q;induction q with
  |nil=>intro x hx;exact nomatch hx
  |@cons p q ps qs hq t ih=>
   intro x hx;rcases Qz.mp hx with e|hx
   ·subst e;exact rR ok (by rw[<-hq.1];exact hq.2.1)
   ·exact ih x hx
 exact all r x hx
theorem Nv{kvs:List (List Key×V)}(ok:HOk P w H h)(e:H a=some (.dT kvs)):kvs.length<=QB/\(a == sysModules)=false/\
  ∃xs,KT H kvs xs/\h.DictOfH (tupleKind (dH P w)) a xs:=wU ok (.inl e)
end
def DGet(H:Hp)(a:Addr)(y:V)(r:Option V):Prop:=
 (∃kvs k,Rd H a (.dK kvs)/\y=kV k/\r=pO kvs k)\/∃kvs k b,Rd H a (.dT kvs)/\y=.ref b/\H b=some (.tup (k.map kV))/\r=pO kvs k
def KH(H:Hp)(a:Addr)(y v:V)(H':Hp):Prop:=
 (∃kvs k,H a=some (.dK kvs)/\y=kV k/\kvs.length<QB/\H'=upd H a (.dK (qD kvs k v)))\/
 ∃kvs k b,H a=some (.dT kvs)/\y=.ref b/\H b=some (.tup (k.map kV))/\kvs.length<QB/\H'=upd H a (.dT (qD kvs k v))
theorem DGet.k{H:Hp}{a:Addr}{kvs:List (Key×V)}{k:Key}(e:H a=some (.dK kvs)):DGet H a (kV k) (pO kvs k):=.inl ⟨kvs,k,.inl e,rfl,rfl⟩
theorem KH.k{H:Hp}{a:Addr}{kvs:List (Key×V)}{k:Key}{v:V}(e:H a=some (.dK kvs))(hl:kvs.length<QB):KH H a (kV k) v (upd H a (.dK (qD kvs k v))):=.inl ⟨kvs,k,e,rfl,hl,rfl⟩
section
variable{X:Cx}{pins:List (Addr×Obj)}{σ:St}{H:Hp}{s:Q8}{a:Addr}{y v:V}{u r:Q2}{o:Option V}{A:Qe}{E:Q2->Q8->Prop}
theorem Inv.big(I:Inv X pins σ H s):sysModules<s.heap.objs.size:=by
 have h:mainGlobals<s.heap.objs.size:=(I.mod.glob.keeps I.bk).lt;exact Nat.lt_trans (by decide) h
theorem zJ{Q:Q2->Q8->Prop}(hu:A.units+1<cLine)(I:Inv X pins σ H s)(g:DGet H a y (some v))(ry:dD y u)(h:∀w' s',Inv X pins σ H s'->dD v w'->Q w' s') :
  wpAny (Qq X.prog X.w) A (getItem (.ref a) u) Q E s:=by
 rcases g with⟨kvs,k,e,ey,l⟩|⟨kvs,k,b,e,ey,eb,l⟩
 ·subst ey;obtain⟨z,hd,vs,rel,dd⟩:=uB I.hok e;obtain⟨w',hw,rw'⟩:=qF.some_of (v:=v) (o:=valueAt vs k) (by rw[l];exact rel.val k);exact wpAny_getItem_of (wK ry) dd.mapOf hw (h w' _ (I.tok _) rw')
 ·subst ey;cases (show u=Value.ref b from ry);obtain⟨z,hd,xs,rel,dd⟩:=wU I.hok e;obtain⟨w',hw,rw'⟩:=qF.some_of (v:=v) (o:=(atKey xs k).map (·.2)) (by rw[l];exact rel.val k);obtain⟨p,hp,hp2⟩:=ZV.mp hw;refine wpAny_getItem_heap (tupleKind_room_in1 hu) (rR I.hok eb) dd hp ?_;rw[hp2];exact h w' _ (I.tok _) rw'
theorem Pf{Q:Q2->Q8->Prop}(hu:A.units+1<cLine)(I:Inv X pins σ H s)(g:DGet H a y o)(ry:dD y u)(h:∀s',Inv X pins σ H s'->Q (.bool o.isSome) s') :
  wpAny (Qq X.prog X.w) A (compareOp .In u (.ref a)) Q E s:=by
 rcases g with⟨kvs,k,e,ey,l⟩|⟨kvs,k,b,e,ey,eb,l⟩
 ·subst ey;obtain⟨z,hd,vs,rel,dd⟩:=uB I.hok e;refine wpAny_in_of (wK ry) hd dd.mapOf ?_;rw[<-(rel.val k).isSome_eq,<-l];exact h _ (I.tok _)
 ·subst ey;cases (show u=Value.ref b from ry);obtain⟨z,hd,xs,rel,dd⟩:=wU I.hok e;refine wpAny_in_heap (tupleKind_room_in1 hu) (rR I.hok eb) hd dd ?_;have q:=(rel.val k).isSome_eq;rw[Option.isSome_map]at q;rw[<-q,<-l];exact h _ (I.tok _)
theorem uD{h':Heap}{t':Nat}{ob:HO}(I:Inv X pins σ H s)(mu:Mut (H a))(hs:Heap.SameBut a s.heap h')(he:∃q,h'.get? a=some q)(new:dB X.prog X.w (upd H a ob) h' a ob) :
  Inv X pins σ (upd H a ob) { s with heap:=h',toks:=t' }:=
 I.write (x:=a) (e:=a) mu (.inl rfl) (fun b q hb z=>(hs.2 b hb).trans z) he new
theorem Dj{P:QL}{w:Qu}{H':Hp}{h':Heap}{kvs:List (Key×V)}{vs:List (Key×Q2)}(z:kvs.length<=QB)(hd:(a == sysModules)=false)(rel:KV kvs vs)(dd:h'.DictOf (dH P w) a vs) :
  dB P w H' h' a (.dK kvs):=⟨z,hd,vs,rel,dd⟩
theorem zI{H':Hp}{Q:Unit->Q8->Prop}(hu:A.units+1<cLine)(I:Inv X pins σ H s)(g:KH H a y v H')(ry:dD y u)(rv:dD v r)(h:∀s',Inv X pins σ H' s'->Q () s') :
  wpAny (Qq X.prog X.w) A (setItem (.ref a) u r) Q E s:=by
 rcases g with⟨kvs,k,e,ey,l,eH⟩|⟨kvs,k,b,e,ey,eb,l,eH⟩
 ·subst ey eH;obtain⟨z,hd,vs,rel,dd⟩:=Km I.hok e;have hz:vs.length<=QB:=by rw[<-rel.length];exact z
  have hl:(qD kvs k v).length<=QB:=by have:=jX kvs k v;omega
  refine wpAny_setItem_pairs (hsz:=hz) (wK ry) dd fun h' dd' hs=>h _ ?_;have he:∃q,h'.get? a=some q:=let ⟨q,_,_,hq,_⟩:=dd';⟨q,hq⟩
  exact uD I (by rw[e];exact True.intro) hs he (Dj hl hd (rel.put k rv) dd')
 ·subst ey eH;cases (show u=Value.ref b from ry);obtain⟨z,hd,xs,rel,dd⟩:=Nv I.hok e;have hz:xs.length<=QB:=by rw[<-Paired.length rel];exact z
  have hl:(qD kvs k v).length<=QB:=by have:=jX kvs k v;omega
  refine wpAny_setItem_heap (hsz:=hz) (tupleKind_room_in1 hu) (rR I.hok eb) dd fun h' dd' hs=>h _ ?_;obtain⟨q,es,ep,hq,h2,h3,h4,_,h5⟩:=dd';refine uD I (by rw[e];exact True.intro) hs ⟨q,hq⟩ ⟨hl,hd,_,(rel.put k eb rv).keeps fun c ys ec=>?_,q,es,ep,hq,h2,h3,h4,h5⟩;rw[aY (MV ec e (fun z=>nomatch z))];exact ec
end
section
variable{X:Cx}{pins:List (Addr×Obj)}{σ:St}{H:Hp}{s:Q8}{a:Addr}{kvs:List (Key×V)}{A:Qe}{E:Q2->Q8->Prop}
theorem Nz{Q:Q2->Q8->Prop}(I:Inv X pins σ H s)(e:Rd H a (.dK kvs))(h:∀t s',Inv X pins σ H s'->Q (.int kvs.length t) s'):wpAny (Qq X.prog X.w) A (call (.builtin "len") [.ref a]) Q E s:=by
 obtain⟨z,hd,vs,rel,dd⟩:=uB I.hok e;refine call_len_dict hd dd (by rw[<-rel.length];rw[sizeLine_eq]at z;omega) ?_;rw[<-rel.length];exact h _ _ (I.tok _)
end
def Lc(i:QK):Prop:=∀ov iv,subscripted i false ov iv=operate [ov,iv] (getItem ov iv)
theorem Ek{prog:QL}{w:Qu}{A:Qe}{E:Q2->Q8->Prop}{s:Q8}{env:Env}{value slice:QK}{pos:Pos}{T id:String}{Q:Q2->Q8->Prop}
  (hl:typeLookup (.type T) "__getitem__"=pure (some (.builtin id))) (hs:Lc slice)
  (h:wpAny (Qq prog w) A (eval value env) (fun o s₁=>wpAny (Qq prog w) A (eval slice env) (fun i s₂=>s₂.TypeIs o T/\wpAny (Qq prog w) A (getItem o i) Q E s₂) E s₁) E s) :
  wpAny (Qq prog w) A (eval (.Subscript value slice pos) env) Q E s:=by
 refine Subscript_ (Z6 h (fun o s₁ h₁=>Z6 h₁ (fun i s₂ h₂=>?_) fun _ _ x=>x) fun _ _ x=>x);obtain⟨hT,h₂⟩:=h₂;unfold subscriptTail;refine Q4 ?_;rw[getitemInPython_of_ne hT.not_modules];refine Q4 (wpAny_specialOf hT hl ?_);have fin:wpAny (Qq prog w) A (subscripted slice false o i) (fun r s₃=>wpAny (Qq prog w) A (letTemporaryGo value o r >>= fun _=>pure r) Q E s₃) E s₂:=by
  rw[hs o i];exact wpAny_operating (Z6 h₂ (fun r s₃ h₃=>Q4 (wpAny_letTemporaryGo (QC h₃))) fun _ _ x=>x)
 first
  |exact QC (Q4 fin)
  |exact Q4 (QC (Q4 fin))
  |exact Q4 fin
theorem uC{X:Cx}{pins:List (Addr×Obj)}{σ:St}{H:Hp}{s:Q8}{a:Addr}{y:V}{o:Option V}(I:Inv X pins σ H s)(g:DGet H a y o):s.TypeIs (.ref a) "dict":=by
 rcases g with⟨kvs,k,e,_,_⟩|⟨kvs,k,b,e,_,_,_⟩
 ·obtain⟨_,_,vs,_,dd⟩:=uB I.hok e;exact dd.typeIs
 ·obtain⟨_,_,xs,_,dd⟩:=wU I.hok e;exact dd.typeIs
def HU(td ty:TE):TE:=fun σ H Q=>td σ H fun x H1=>ty σ H1 fun y H2=>∃a v,x=.ref a/\DGet H2 a y (some v)/\Q v H2
def Mp(ty td:TE):TE:=fun σ H Q=>ty σ H fun y H1=>td σ H1 fun x H2=>∃a o,x=.ref a/\DGet H2 a y o/\Q (.bl o.isSome) H2
def Im(td ty tv:TE):TS:=fun D σ H=>tv σ H fun v H1=>td σ H1 fun x H2=>ty σ H2 fun y H3=>∃a H4,x=.ref a/\KH H3 a y v H4/\D.nx σ H4
section
variable{X:Cx}{o i value:QK}{pos pos':Pos}{td ty tv:TE}
theorem EX(hu:X.A.units+1<cLine)(ho:PE X o td)(hi:PE X i ty)(hs:Lc i):PE X (.Subscript o i pos) (HU td ty):=by
 intro pins s σ H Q I h;refine Ek PySem.F.slot_dict_getitem.lookup hs (thn (ho pins s σ H _ I h) fun u s1 ⟨x,H1,I1,rx,q1⟩=>thn (hi pins s1 σ H1 _ I1 q1) fun iv s2 hz=>?_);obtain⟨y,H2,I2,ry,a,v,ex,g,q2⟩:=hz;subst ex;obtain rfl:u=Value.ref a:=rx;exact⟨uC I2 g,zJ hu I2 g ry fun w' s3 I3 rw'=>⟨v,H2,I3,rw',q2⟩⟩
theorem Jq(hu:X.A.units+1<cLine)(hi:PE X i ty)(ho:PE X o td):PC X .In i o (Mp ty td):=by
 intro pins s σ H Q I h;refine thn (hi pins s σ H _ I h) fun iv s1 ⟨y,H1,I1,ry,q1⟩=>thn (ho pins s1 σ H1 _ I1 q1) fun u s2 hz=>?_;obtain⟨x,H2,I2,rx,a,ov,ex,g,q2⟩:=hz;subst ex;obtain rfl:u=Value.ref a:=rx;exact Pf hu I2 g ry fun s3 I3=>⟨.bl ov.isSome,H2,I3,rfl,q2⟩
theorem EL(hu:X.A.units+1<cLine)(ho:PE X o td)(hi:PE X i ty)(hv:PE X value tv)(hs:Z9 value (some (.Subscript o i pos')) pos.line X.env=pure false) :
  PS X (.Assign [.Subscript o i pos'] value pos) (Im td ty tv):=by
 intro pins s σ H D I h;refine wpAny_Assign_Subscript (thn (hv pins s σ H _ I h) fun r s1 ⟨v,H1,I1,rv,q1⟩=>thn (ho pins s1 σ H1 _ I1 q1) fun u s2 ⟨x,H2,I2,rx,q2⟩=>thn (hi pins s2 σ H2 _ I2 q2) fun iv s3 hz=>?_) hs;obtain⟨y,H3,I3,ry,a,H4,ex,g,q3⟩:=hz;subst ex;obtain rfl:u=Value.ref a:=rx;exact zI hu I3 g ry rv fun s4 I4=>⟨σ,H4,I4,q3⟩
end
theorem B4{P:QL}{w:Qu}{H:Hp}(h:Heap)(hb:sysModules<h.objs.size):dB P w H (h.push { cls:=.type "dict",data:=.dict #[] }) h.objs.size (.dK []):=
 ⟨ZF _,beq_eq_false_iff_ne.mpr (Ne.symm (Qw hb)),[],.nil,Heap.DictOf.new h⟩
def uY:List (TE×TE)->St->Hp->(List (V×V)->Hp->Prop)->Prop
 |[],_,H,Q=>Q [] H
 |(tk,tv)::r,σ,H,Q=>tk σ H fun x H1=>tv σ H1 fun y H2=>uY r σ H2 fun ps H3=>Q ((x,y)::ps) H3
abbrev VV:List (V×V)->List (Q2×Q2)->Prop:=Paired fun p q=>dD p.1 q.1/\dD p.2 q.2
def PPs(X:Cx)(pos:Pos)(keys:List (Option QK))(values:List QK)(trs:List (TE×TE)):Prop:=
 ∀(pins:List (Addr×Obj)) (s:Q8) (σ:St) (H:Hp) (Q:List (V×V)->Hp->Prop),Inv X pins σ H s->uY trs σ H Q->
  wpAny (Qq X.prog X.w) X.A (evalPairs (pairTrees keys values X.env pos)) (fun vs s'=>∃ps H',Inv X pins σ H' s'/\VV ps vs/\Q ps H') X.xe s
def EM{X:Cx}{pos:Pos}:PPs X pos [] [] []:=fun pins s σ H Q I h=>pairTrees_nil_walk ⟨[],H,I,.nil,h⟩
theorem Bj{X:Cx}{pos:Pos}{k v:QK}{ks:List (Option QK)}{vs:List QK}{tk tv:TE}{trs:List (TE×TE)}(hk:PE X k tk)(hv:PE X v tv)(hr:PPs X pos ks vs trs) :
  PPs X pos (some k::ks) (v::vs) ((tk,tv)::trs):=fun pins s σ H Q I h=>
 pairTrees_cons_walk (thn (hk pins s σ H _ I h) fun u s1 ⟨x,H1,I1,rx,q1⟩=>thn (hv pins s1 σ H1 _ I1 q1) fun w2 s2 ⟨y,H2,I2,ry,q2⟩=>
  thn (hr pins s2 σ H2 _ I2 q2) fun ws s3 ⟨ps,H3,I3,rel,q3⟩=>⟨(x,y)::ps,H3,I3,.cons ⟨rx,ry⟩ rel,q3⟩)
def mf(kvs more:List (Key×V)):List (Key×V):=more.foldl (fun acc kv=>qD acc kv.1 kv.2) kvs
theorem KV.merge:∀{more:List (Key×V)} {rs:List (Key×Q2)} {kvs:List (Key×V)} {vs:List (Key×Q2)},KV more rs->KV kvs vs->KV (mf kvs more) (merged vs rs):=by
 intro more rs kvs vs r;unfold KV at r;induction r generalizing kvs vs with
 |nil=>intro q;exact q
 |@cons p q ps qs h t ih=>
  intro r0;have e:KV (qD kvs p.1 p.2) (stored vs q.1 q.2):=by
   have:=r0.put p.1 h.2;rw[<-h.1];exact this
  exact ih e
theorem kF:∀(more kvs:List (Key×V)),(mf kvs more).length<=kvs.length+more.length
 |[],kvs=>by show kvs.length<=kvs.length+0;omega
 |p::r,kvs=>by
  have h1:=kF r (qD kvs p.1 p.2);have h2:=jX kvs p.1 p.2;show(mf (qD kvs p.1 p.2) r).length<=_;rw[Q5];omega
theorem pC{P:QL}{w:Qu}:∀{kvs:List (Key×V)} {ws:List (Q2×Q2)},VV (kvs.map fun kv=>(kV kv.1,kv.2)) ws->∃rs,Carries (dH P w) ws rs/\KV kvs rs
 |[],_,r=>by rw[Qc]at r;cases r;exact⟨[],True.intro,.nil⟩
 |p::kvs,_,r=>by
  rw[QF]at r;cases r with
  |@cons a b as bs h t=>
   obtain⟨rs,c,q⟩:=pC (P:=P) (w:=w) t;obtain⟨b1,b2⟩:=b;exact⟨(p.1,b2)::rs,⟨wK h.1,rfl,c⟩,.cons ⟨rfl,h.2⟩ q⟩
def HS(trs:List (TE×TE)):TE:=fun σ H Q=>∀p,H p=none->uY trs σ (upd H p (.dK [])) fun ps H2=>H2 p=some (.dK [])/\∃kvs:List (Key×V),ps=kvs.map (fun kv=>(kV kv.1,kv.2))/\kvs.length<=15/\Q (.ref p) (upd H2 p (.dK (mf [] kvs)))
theorem EW{X:Cx}{pos:Pos}{keys:List (Option QK)}{values:List QK}{trs:List (TE×TE)}(h:PPs X pos keys values trs)(hall:keys.all (·.isSome)=true)(hl:keys.length=values.length)(h0:keys≠[])
  (h15:keys.length<=15):PE X (.Dict keys values pos) (HS trs):=by
 intro pins s σ H Q I q;have hn:=I.hok.fresh (QU s.heap.objs.size);have I1:=I.laid (a:=s.heap.objs.size) (o:=.dK []) (h':=s.heap.push { cls:=.type "dict",data:=.dict #[] }) (t':=s.toks) (fun _ _ q=>QX _ q) (QU _) (B4 s.heap I.big);refine wpAny_Dict_walk (knd:=dH X.prog X.w) hall hl h0 h15 (thn (h pins _ σ _ _ I1 (q _ hn)) fun ws s2 hz=>?_);obtain⟨ps,H2,I2,rel,e,kvs,ep,lk,q2⟩:=hz;subst ep;obtain⟨rs,c,rk⟩:=pC (P:=X.prog) (w:=X.w) rel;obtain⟨z,hd,vs0,r0,dd⟩:=Km I2.hok e;cases r0;refine⟨rs,c,dd,fun h' dd' hs=>⟨.ref s.heap.objs.size,_,?_,rfl,q2⟩⟩;have hz:(mf [] kvs).length<=QB:=by
  have h1:=kF kvs [];rw[Z7]at h1;rw[sizeLine_eq];omega
 have he:∃q,h'.get? s.heap.objs.size=some q:=let ⟨q,_,_,hq,_⟩:=dd';⟨q,hq⟩
 exact uD I2 (by rw[e];exact True.intro) hs he (Dj hz hd (rk.merge .nil) dd')
structure M2(X:Cx)(o:QK)(m:Str)(apos:Pos)(e f:QK)(cpos:Pos):Prop where
 base:attributeBase o m X.env (eval o X.env)=eval o X.env
 few:((Qa cpos (Q7 [e,f] X.env)).all (fun x=>!x.1)&&(backToKw cpos (keywordEach [] X.env)).all (fun x=>x.1.isSome)
  && decide (([e,f]:List QK).length+([]:List Keyword).length+(if ([]:List Keyword).isEmpty then 0 else 1)<30))=true
 line:(apos.endLine == cpos.line)=true
 trees:Qa cpos (Q7 [e,f] X.env)=[(false,eval e X.env),(false,eval f X.env)]
def IsD(H:Hp)(a:Addr):Prop:=(∃kvs,Rd H a (.dK kvs))\/∃kvs,Rd H a (.dT kvs)
theorem J5{X:Cx}{pins:List (Addr×Obj)}{σ:St}{H:Hp}{s:Q8}{a:Addr}(I:Inv X pins σ H s)(d:IsD H a) :
  s.TypeIs (.ref a) "dict"/\(∀b,Value.ref a=.ref b->∃ob,s.heap.get? b=some ob/\ob.dict=none)/\(a == sysModules)=false:=by
 rcases d with⟨kvs,e⟩|⟨kvs,e⟩
 ·obtain⟨_,hd,vs,_,dd⟩:=uB I.hok e;refine⟨dd.typeIs,fun b q=>?_,hd⟩;cases q;obtain⟨ob,_,_,h1,h2,_⟩:=dd;exact⟨ob,h1,h2.2.1⟩
 ·obtain⟨_,hd,xs,_,dd⟩:=wU I.hok e;refine⟨dd.typeIs,fun b q=>?_,hd⟩;cases q;obtain⟨ob,_,_,h1,h2,_⟩:=dd;exact⟨ob,h1,h2.2.1⟩
section
variable{X:Cx}{pins:List (Addr×Obj)}{σ:St}{H:Hp}{s:Q8}{a:Addr}{y d:V}{u r:Q2}{o:Option V}{A:Qe}{E:Q2->Q8->Prop}
theorem Kn{Q:Q2->Q8->Prop}(hu:A.units+1<cLine)(I:Inv X pins σ H s)(g:DGet H a y o)(ry:dD y u)(rd:dD d r)(h:∀w' s',Inv X pins σ H s'->dD (o.getD d) w'->Q w' s') :
  wpAny (Qq X.prog X.w) A (call (.builtin "dict.get") [.ref a,u,r]) Q E s:=by
 rcases g with⟨kvs,k,e,ey,l⟩|⟨kvs,k,b,e,ey,eb,l⟩
 ·subst ey;obtain⟨z,hd,vs,rel,dd⟩:=uB I.hok e;refine call_meetsIn PySem.F.slot_dict_get dd.typeIs PySem.F.entry_dict_get (PySem.F.args_dict_get_3 _ _ _) (meets_dict_get_default (dH X.prog X.w) a (wK ry) hd r) ⟨_,dd.mapOf,h _ _ (I.tok _) ?_⟩;rw[l];exact(rel.val k).getD rd
 ·subst ey;cases (show u=Value.ref b from ry);obtain⟨z,hd,xs,rel,dd⟩:=wU I.hok e;refine call_meetsIn PySem.F.slot_dict_get dd.typeIs PySem.F.entry_dict_get (PySem.F.args_dict_get_3 _ _ _) (meetsH_dict_get_default (tupleKind (dH X.prog X.w)) a b hd r) ⟨tupleKind_room_in1 hu,k,xs,rR I.hok eb,dd,h _ _ (I.tok _) ?_⟩;rw[l];exact(rel.val k).getD rd
end
def CD(td ty tx:TE):TE:=fun σ H Q=>td σ H fun x H1=>∃a,x=.ref a/\IsD H1 a/\ty σ H1 fun y H2=>tx σ H2 fun z H3=>∃o,DGet H3 a y o/\Q (o.getD z) H3
section
variable{X:Cx}{o e f:QK}{apos cpos:Pos}{td ty tx:TE}
theorem Bq(hu:X.A.units+1<cLine)(ho:PE X o td)(he:PE X e ty)(hf:PE X f tx)(m:M2 X o "get" apos e f cpos):PE X (.Call (.Attribute o "get" apos) [e,f] [] cpos) (CD td ty tx):=by
 intro pins s σ H Q I h;refine wpAny_Call_method m.base m.few m.line PySem.F.plainAttrs_dict PySem.F.slot_dict_get PySem.F.type_dict_get (thn (ho pins s σ H _ I h) fun u s1 hz=>?_);obtain⟨x,H1,I1,rx,a,ex,d,q1⟩:=hz;subst ex;obtain rfl:u=Value.ref a:=rx;obtain⟨t1,t2,_⟩:=J5 I1 d;refine⟨t1,t2,?_⟩;rw[m.trees];refine Calls.callWith_builtin rfl (Calls.evalArgs_plain (Calls.spliced_cons (thn (he pins s1 σ H1 _ I1 q1) fun iv s2 ⟨y,H2,I2,ry,q2⟩=>
  Calls.spliced_cons (thn (hf pins s2 σ H2 _ I2 q2) fun fv s3 ⟨z,H3,I3,rz,ov,g,q3⟩=>Calls.spliced_nil ?_))))
 exact Kn hu I3 g ry rz fun w' s4 I4 rw'=>⟨_,H3,I4,rw',q3⟩
end
end L2
namespace Att
open PySem PySem.W PySem.Calls PyProof.Rows
theorem nS{P:Params}{h:Heap}:∀(ns:List Int) (vs:List Q2),WellAll P h vs (ns.map WData.int)->IntsAre vs ns:=by
 intro ns;induction ns with
 |nil=>
  intro vs w;rw[Qc]at w;cases w;exact .nil
 |cons n ns ih=>
  intro vs w;rw[QF]at w;cases w with
  |cons a b=>
   cases a;exact .cons _ _ (ih _ b)
theorem yf{l:OpenLaw}{n:Nat}(hn:l.most=some n){P:Params}{h:Heap}{args:List WData}{vals:List Q2}
  (hpre:l.row.toRowW.claim.pre args=true) (hwl:WellAll P h vals args) :
  ∃a vs ns,vals=[Value.ref a]/\args=[WData.list (ns.map WData.int)]/\h.get? a=some { cls:=.type "list",data:=.seq vs.toArray }/\IntsAre vs ns/\ns.length<=n:=by
 have hsh:WShape.hasAll [] args [.list .int]=true:=(pre_splitW hpre).1;have hc:l.pre.holds [] { args:=args }=true:=(pre_splitW hpre).2;obtain⟨d,r,rfl,h1,h2⟩:=hasAllW_cons hsh;obtain rfl:=hasAllW_nil h2;obtain⟨xs,rfl,h3⟩:=hasW_list h1;obtain⟨ns,rfl⟩:=items_int h3;have hlen:ns.length<=n:=by
  unfold OpenLaw.pre at hc;have h4:(WTm.not (.lt (.lit (.int (n:Int))) (.len (.arg 0)))).holds [] { args:=[.list (ns.map .int)] }=true:=by
   have h4:=(holds_andW hc).1;rw[hn]at h4;exact h4
  have h5:=condW_of h4 (w_not (w_lt w_lit (w_len_list (w_arg rfl))));rw[QV]at h5;refine Nat.le_of_not_lt fun q=>?_;have q':(n:Int)<((ns.length:Nat):Int):=by omega
  first
   |(rw[decide_eq_true q']at h5;exact absurd h5 (by decide))
   |(simp at h5;omega)
 cases hwl with
 |cons w1 w2=>
  cases w2;cases w1 with
  |list ho hall=>exact⟨_,_,ns,rfl,rfl,ho,nS ns _ hall,hlen⟩
theorem yy(l:OpenLaw)(args:List WData):l.row.toRowW.claim.post args (.bool true) args=true:=
 postW_of (r:=l.row.toRowW) (X:=(true == true))
  (show WShape.has [] (.bool true) .bool=true by first|rfl|decide|simp[WShape.has,WShape.arms,WShape.armsAll])
  (show(WTm.eq .res (.lit (.bool true))).value [] { args:=args,res:=some (.bool true),after:=args }=some (.bool (true == true))from w_eq_bool (w_res rfl) w_lit) rfl
theorem attach_call{l:OpenLaw}{n:Nat}{q:QL}{loose:List Str}{XP:(Str->Option Q2)->Heap->Prop}{YP:Qu->Heap->Prop}{d:DefRec}
  (hn:l.most=some n) (hdf:d.params.defaults=[])
  (call:∀(w:Qu) (s₀ s₁:Q8) (mg mb:Str->Option Q2) (fa:Addr) (o:Obj) (pm cd doc:Q2) (a:Addr) (vs:List Q2) (ns:List Int),
   Ground q loose [] XP w s₀ mg mb s₁.heap->YP w s₁.heap->
   s₁.heap.get? fa=some o->o.data=.func (docDef d.name d.params d.body d.scope pm cd doc)->s₁.heap.CodeRec cd d.name->mg d.name=some (.ref fa)->
   s₁.heap.get? a=some { cls:=.type "list",data:=.seq vs.toArray }->IntsAre vs ns->ns.length<=n->s₁.gens=#[]->
   codeAny (Qq l.prog w) callerA (.call (.ref fa) ⟨[.ref a],[]⟩) (fun r s'=>r=.ok (.ret (.bool true))/\OldK s₁.heap s'.heap/\s'.os=s₁.os/\AllBare s'.gens) s₁) :
  WalkO q loose XP YP l.row.toRowW d [] (fun f vs=>PySem.call f vs):=by
 intro w s₀ s₁ mg mb G Y fa o pm cd doc dV kV ho hd hcd hD hmg hg args vals as hpre hlay hrd hwl hlo;obtain rfl:dV=.none:=Dflts.none hD hdf;obtain rfl:kV=.none:=Dflts.noKw hD;obtain⟨a,vs,ns,rfl,rfl,hobj,hints,hlen⟩:=yf hn hpre hwl;refine enter_call (codeAny_mono (call w s₀ s₁ mg mb fa o pm cd doc a vs ns G Y ho (fd_plain hd) hcd hmg hobj hints hlen hg) fun r s' hq=>?_);obtain⟨rfl,h2,h3,h4⟩:=hq;exact⟨.inl ⟨.bool true,.bool true,[],rfl,fun _=>rfl,.bool true,yy l _,fun _=>⟨List.Pairwise.nil,fun _ hm=>(nomatch hm)⟩⟩,h2,h3,h4⟩
end Att
namespace L2
open PySem PySem.Spec PyProof.Rows
theorem qV:∀{vs:List Q2} {ns:List Int},IntsAre vs ns->cG (ns.map V.int) vs
 |_,_,.nil=>.nil
 |_,_,.cons n t h=>.cons ⟨t,rfl⟩ (qV h)
def NH(H:Hp):Prop:=∀b,H b=none\/∃o xs,H b=some (.frz o (.lst xs))
theorem BK{P:QL}{w:Qu}{K:Q1}{mg mb:Str->Option Q2}{CX:CXT}{k:Nat}{fa a:Addr}{fd:Z8}{x:Str}{sp:Sp}{s₁:Q8}{vs:List Q2}{ns:List Int}
  (KX:K.In s₁.heap) (hns:s₁.heap.Ns mainGlobals mg) (hb:s₁.heap.Ns builtinsNs mb) (hbb:∀x:Str,x≠"__name__"->mb x=Qn x) (hlim:s₁.heap.NoLimit) (hg:s₁.gens=#[])
  (ha:s₁.heap.get? a=some { cls:=.type "list",data:=.seq vs.toArray }) (hi:IntsAre vs ns) (hl:ns.length<=QB) (hr:fZ k callerA)
  (F:∀base:Heap,K.In base->base.Ns mainGlobals mg->j9 P w K mg base CX k fa fd [x] sp) (hbind:∀(s:Q8) (u:Q2),BindsTo s fd ⟨[u],[]⟩ [(x,u)])
  (hsp:∀H:Hp,NH H->SqL K H a (ns.map V.int)->sp [.ref a] H (fun v _=>v=.bl true) fun _ _ _=>False)
  (hCX:∀H e s',CX [] H s₁ (fun _ _ _=>False) e s'->False) :
  codeAny (Qq P w) callerA (.call (.ref fa) ⟨[.ref a],[]⟩) (fun r s'=>r=.ok (.ret (.bool true))/\OldK s₁.heap s'.heap/\s'.os=s₁.os/\AllBare s'.gens) s₁:=by
 have rv:=qV hi;have lenV:=hi.length;have core:∀H:Hp,NH H->SqL K H a (ns.map V.int)->HOk P w H s₁.heap->(∀b,H b≠none->b=a)->(H a≠none->K.lookup a=none)->
   codeAny (Qq P w) callerA (.call (.ref fa) ⟨[.ref a],[]⟩) (fun r s'=>r=.ok (.ret (.bool true))/\OldK s₁.heap s'.heap/\s'.os=s₁.os/\AllBare s'.gens) s₁:=by
  intro H hO hS hok hA hK;have base_of:∀{b:Addr} {o:Obj},s₁.heap.get? b=some o->H b=none->(BO s₁.heap H).get? b=some o:=fun e n=>BN e n;have noA:∀{b:Addr} {o:Obj} {es:Array DictEntry} {ep:Nat},s₁.heap.get? b=some o->o.data=.dict es ep->H b=none:=fun{b o es ep} e d=>by
   cases q:H b with
   |none=>rfl
   |some u=>
    have e':b=a:=hA b (by rw[q];simp);subst e';rw[ha]at e;cases e;have d':Data.seq vs.toArray _=Data.dict es ep:=d;cases d'
  have nsK:∀{b:Addr} {m:Str->Option Q2},s₁.heap.Ns b m->(BO s₁.heap H).Ns b m:=fun{b m} ⟨o,es,ep,e,d,r⟩=>⟨o,es,ep,base_of e (noA e d),d,r⟩;have hKb:K.In (BO s₁.heap H):=fun b o e=>base_of (KX b o e) (by
   cases q:H b with
   |none=>rfl
   |some u=>
    have e':b=a:=hA b (by rw[q];simp);subst e';rw[hK (by rw[q];simp)]at e;cases e)
  have hM:Mod K mg (BO s₁.heap H):=⟨hKb,nsK hns,⟨mb,nsK hb,hbb⟩,let ⟨mc,h1,h2⟩:=hlim;⟨mc,nsK h1,h2⟩⟩;have e0:Gg P w K mg (BO s₁.heap H) callerA [] s₁ H:=⟨rfl,hM,fun b o e=>Fj e,Nat.le_of_eq (zi _ _),trivial,fun b hb=>absurd (show b∈([]:List Addr)from hb) (by simp),hok,.of_eq hg⟩;refine codeAny_mono ((F _ hKb (nsK hns)).run callerA [] s₁ H ⟨[.ref a],[]⟩ [.ref a] [.ref a] _ _ hr e0 (hbind s₁ (.ref a)) (.cons rfl .nil) (hsp H hO hS)) fun r s' h=>?_;cases r with
  |error e=>exact(hCX H e s' h).elim
  |ok fl=>
   cases fl with
   |next=>exact False.elim h
   |brk=>exact False.elim h
   |cont=>exact False.elim h
   |ret u=>
    obtain⟨v,H',os,bare,un,hok',r',q⟩:=h;have q':v=.bl true:=q;subst q';obtain rfl:u=Value.bool true:=r';refine⟨rfl,OldK.of_keep fun b o e=>?_,os,bare⟩;cases q:H b with
    |none=>exact un.keep b o e q (by intro z;exact absurd (show b∈([]:List Addr)from z) (by simp)) (by simp)
    |some u=>
     rcases hO b with z|⟨ob,xs,z⟩
     ·rw[q]at z;cases z
     ·have z2:=un.frzs b ob _ z;obtain⟨e1,_⟩:=hok b _ z;obtain⟨e2,_⟩:=hok' b _ z2;rw[e]at e1;cases e1;exact e2
 cases hk:K.lookup a with
 |some o=>
  have e:=KX a o hk;rw[ha]at e;cases e;refine core (fun _=>none) (fun _=>.inl rfl) (.inr ⟨_,vs.toArray,_,hk,rfl,rfl,rfl,by rw[QH,lenV];exact hl,by simpa using rv⟩) (fun b u z=>by have z':(none:Option HO)=some u:=z;cases z') (fun b z=>absurd rfl z) fun z=>absurd rfl z
 |none=>
  refine core (fun b=>if b=a then some (.frz { cls:=.type "list",data:=.seq vs.toArray } (.lst (ns.map V.int)))else none) (fun b=>?_) (.inl (.inr ⟨{ cls:=.type "list",data:=.seq vs.toArray },if_pos rfl⟩)) (fun b u z=>?_) (fun b z=>?_) fun _=>hk
  ·by_cases hb:b=a
   ·exact .inr ⟨_,_,if_pos hb⟩
   ·exact .inl (if_neg hb)
  ·by_cases hb:b=a
   ·have z':=(if_pos hb).symm.trans z;cases z';subst hb;exact⟨ha,by rw[QV];exact hl,vs,_,rv,ha⟩
   ·have z':=(if_neg hb).symm.trans z;cases z'
  ·by_cases hb:b=a
   ·exact hb
   ·exact absurd (if_neg hb) z
theorem Eb{l:PySem.W.OpenLaw}{n k:Nat}{q:QL}{loose:List Str}{XP:(Str->Option Q2)->Heap->Prop}{YP:Qu->Heap->Prop}{d:DefRec}{K:Params->Q1}{CX:Qu->CXT}{sp:Qu->Sp}{x:Str}
  (hn:l.most=some n) (hn2:n<=QB) (hdf:d.params.defaults=[]) (hr:fZ k callerA)
  (hY:∀(w:Qu) (h:Heap),YP w h->(K w.params).In h)
  (F:∀(w:Qu) (mg:Str->Option Q2) (fa:Addr) (h:Heap),(K w.params).In h->h.Ns mainGlobals mg->mg d.name=some (.ref fa)->
   ∃fd:Z8,(∀(s:Q8) (u:Q2),BindsTo s fd ⟨[u],[]⟩ [(x,u)])/\
    ∀base:Heap,(K w.params).In base->base.Ns mainGlobals mg->j9 l.prog w (K w.params) mg base (CX w) k fa fd [x] (sp w))
  (hsp:∀(w:Qu) (H:Hp) (a:Addr) (ns:List Int),ns.length<=n->NH H->SqL (K w.params) H a (ns.map V.int)->sp w [.ref a] H (fun v _=>v=.bl true) fun _ _ _=>False)
  (hCX:∀(w:Qu) (H:Hp) (s:Q8) (e:Q2) (s':Q8),CX w [] H s (fun _ _ _=>False) e s'->False) :
  PySem.W.WalkO q loose XP YP l.row.toRowW d [] (fun f vs=>PySem.call f vs):=by
 refine Att.attach_call hn hdf fun w s₀ s₁ mg mb fa o pm cd doc a vs ns G Y ho hd hcd hmg hobj hints hlen hg=>?_;have KX:=hY w _ Y;obtain⟨fd,hb,hF⟩:=F w mg fa _ KX G.T.g hmg;exact BK KX G.T.g G.T.b G.T.builtins G.T.nolimit hg hobj hints (Qk hlen hn2) hr hF hb (fun H hO hS=>hsp w H a ns hlen hO hS) fun H e s'=>hCX w H s₁ e s'
def gD(s:Qg)(j:Nat):Qg:=match s with
 |.ClassDef _ _ _ body _ _ _ _ _ _ _=>body.getD j (.Pass ⟨0,0,0,0⟩)
 |_=>.Pass ⟨0,0,0,0⟩
def j2(s:Qg):Arguments:=match s with
 |.FunctionDef _ a _ _ _ _ _ _ _ _=>a
 |_=>{ posonlyargs:=[],args:=[],vararg:=none,kwonlyargs:=[],kw_defaults:=[],kwarg:=none,defaults:=[] }
def d9(s:Qg):List Qg:=match s with
 |.FunctionDef _ _ b _ _ _ _ _ _ _=>b
 |_=>[]
def aG(s:Qg):Scope:=match s with
 |.FunctionDef _ _ _ _ _ _ sc _ _ _=>sc
 |_=>{ kind:=.function,names:=[],isGenerator:=false,isCoroutine:=false }
abbrev CX0:CXT:=fun _ _ _ _ _ _=>False
abbrev E0:XK:=fun _ _ _=>False
def Bu{X:Cx}:gK CX0 X E0:=fun _ _ _ _ _ _ _ h=>h.elim
structure Fun(K:Q1)(x qual:Str)(st:Qg)(f:Addr)(fd:Z8):Prop where
 ex:∃(oc:Q2) (od:Option Addr) (kV doc pm:Q2) (an:Option Addr) (cdv ct:Q2) (osl:Array (Option Q2)),
  fd=PySem.W.fnOf x qual (j2 st) (d9 st) (aG st) .none kV doc pm an cdv ct/\K.lookup f=some ⟨oc,od,.func fd,osl⟩/\PySem.W.codeIn K cdv qual=true
 kp:PySem.W.keepIn K (.ref f)=true
section
variable{P:QL}{w:Qu}{K:Q1}{mg:Str->Option Q2}{base:Heap}
theorem Fun.ok{x qual:Str}{st:Qg}{f:Addr}{fd:Z8}{N ps:List Str}{k:Nat}{sp:Sp}(F:Fun K x qual st f fd)(S:a7 N ps (aG st))(len:∀vs H Q E,sp vs H Q E->vs.length=ps.length)
  (hbody:∀(cdv:Q2) (A:Qe) (outer:List Env) (s:Q8) (H:Hp) (vs:List V) (Q:VK) (E:XK),fZ k (A.deeper (envOfC qual (aG st) s.heap.objs.size f cdv))->sp vs H Q E->
   ∃t,PSs (uE CX0 P w K mg base N qual (aG st) f cdv A outer s H E).nox (d9 st) t/\t { nx:=fun _ H'=>Q .non H',rt:=Q } (jN N vs) H):j9 P w K mg base CX0 (k+1) f fd ps sp:=by
 obtain⟨oc,od,kV,doc,pm,an,cdv,ct,osl,rfl,lk,hcd⟩:=F.ex;refine FX lk hcd S len fun A outer s H vs Q E hr hsp=>?_;obtain⟨t,h,q⟩:=hbody cdv A outer s H vs Q E hr hsp;exact⟨t,h.nox,q⟩
theorem Fun.binds{x qual:Str}{st:Qg}{f:Addr}{fd:Z8}{ps:List Str}(F:Fun K x qual st f fd)
  (h:∀(kV doc pm:Q2) (an:Option Addr) (cdv ct:Q2) (us:List Q2),us.length=ps.length->bindArgs (PySem.W.fnOf x qual (j2 st) (d9 st) (aG st) .none kV doc pm an cdv ct) ⟨us,[]⟩=pure (ps.zip us)):fT K fd ps []:=by
 obtain⟨oc,od,kV,doc,pm,an,cdv,ct,osl,rfl,lk,hcd⟩:=F.ex;exact .all (h kV doc pm an cdv ct)
theorem zm{x qual:Str}{st:Qg}{f:Addr}{oc:Q2}{od an:Option Addr}{osl:Array (Option Q2)}{kV doc pm cdv ct:Q2}(l:K.lookup f=some ⟨oc,od,.func (PySem.W.fnOf x qual (j2 st) (d9 st) (aG st) .none kV doc pm an cdv ct),osl⟩)
  (c:PySem.W.codeIn K cdv qual=true) (k:PySem.W.keepIn K (.ref f)=true):Fun K x qual st f (PySem.W.fnOf x qual (j2 st) (d9 st) (aG st) .none kV doc pm an cdv ct):=⟨⟨oc,od,kV,doc,pm,an,cdv,ct,osl,rfl,l,c⟩,k⟩
end
def d8{A:Qe}{k:Nat}(hr:fZ k A):A.units+1<cLine:=ZC (Nat.add_le_add_left (by decide:1<=64) _) hr.units
def yd{n:Nat}(h:n<=1000):n<QB:=ZC h (by decide)
section
variable{X:Cx}
theorem pv(i:Nat){x:Str}{pos:Pos}(hN:X.N[i]?=some x:=by rfl)(hv:Vis X.env.scope x:=by first|exact Or.inl rfl|exact Or.inr (Or.inl rfl)|exact Or.inr (Or.inr rfl))(hd:(x == ("__debug__":Str))=false:=by decide)
  (hcd:(x == ("__classdict__":Str))=false:=by decide):PE X (.Name x pos) (KP i):=Jd hN hv hd hcd
theorem zS:f7 X (.builtin "len") (fun xs H Q=>∃a kvs,xs=[V.ref a]/\H a=some (.dK kvs)/\Q (.int kvs.length) H):=by
 intro pins s σ H xs us Q I r h;obtain⟨a,kvs,rfl,ha,q⟩:=h;obtain⟨u,rfl,ru⟩:=mK r;cases ru;exact Nz I (.inl ha) fun t s' I'=>⟨.int kvs.length,H,I',⟨t,rfl⟩,q⟩
end
theorem FO{A B:Prop}(h:B):if false=true then A else B:=by
 rw[if_neg QR];exact h
theorem Dd{A B:Prop}(h:A):if true=true then A else B:=by
 rw[if_pos rfl];exact h
def sJ(H H':Hp):Prop:=∀b o,H b=some o->H' b=some o
def sJ.refl(H:Hp):sJ H H:=fun _ _ h=>h
def sJ.trans{H H1 H2:Hp}(a:sJ H H1)(b:sJ H1 H2):sJ H H2:=fun c o h=>b c o (a c o h)
theorem sJ.free{H H':Hp}(e:sJ H H'){l:Addr}(h:H' l=Option.none):H l=Option.none:=by
 cases q:H l with
 |none=>rfl
 |some o=>
  rw[e l o q]at h;cases h
end L2
namespace OG
open PySem PySem.Spec PyProof.Rows L2
structure WE(X:Cx)(e:QK)(t:TE):Prop where
 h:PE X e t
structure WT(X:Cx)(e:QK)(t:TT):Prop where
 h:PT X e t
structure WW(X:Cx)(e:QK)(t:TT):Prop where
 h:PW X e t
structure WA(X:Cx)(es:List QK)(t:TA):Prop where
 h:PA X es t
structure WS(X:Cx)(st:Qg)(t:TS):Prop where
 h:PS X st t
structure WSs(X:Cx)(st:List Qg)(t:TS):Prop where
 h:PSs X st t
structure WI(X:Cx)(tg iter:QK)(wi:TI):Prop where
 h:PI X tg iter wi
structure WG(X:Cx)(target:QK)(t:TG):Prop where
 h:PG X target t
structure WGs(X:Cx)(ts:List QK)(t:TGs):Prop where
 h:PGs X ts t
structure WC(X:Cx)(op:CmpOp)(a b:QK)(t:TE):Prop where
 h:PC X op a b t
structure WO(X:Cx)(e:Option QK)(t:TO):Prop where
 h:PO X e t
section
variable{X:Cx}
def aq{i j pos}:WE X (.Constant (.int i) j pos) (tC (.int i)):=⟨Jk ⟩
def iG{b j pos}:WE X (.Constant (.bool b) j pos) (tC (.bl b)):=⟨MH ⟩
def eN{j pos}:WE X (.Constant .none j pos) (tC .non):=⟨Ji ⟩
def ay{x j pos}:WE X (.Constant (.str x) j pos) (tC (.str x)):=⟨Jf ⟩
end
section
variable{X:Cx}
variable{a b:QK}{pos:Pos}
theorem D0{op:CmpOp}{t:TE}(h:WC X op a b t)(h1:behindInMarks op b=false:=by first|exact nobehind _ (by decide) (by decide)|rfl):WE X (.Compare a [op] [b] pos) t:=⟨Jn h.h h1⟩
end
section
variable{X:Cx}
variable{pos:Pos}
theorem DP{e:QK}{t:TE}(h:WE X e t)(he:∀whole,isTrue e X.env whole=(do let v <-whole;standAt e.pos;holding [v] (truthy v)):=by intro _;rfl):WT X e (tB t):=⟨IT h.h he⟩
end
section
variable{X:Cx}
variable{a:QK}{pos:Pos}
variable{tA:TT}
def Av(ha:WT X a tA):WW X (.BoolOp .And [a] pos) tA:=⟨EE ha.h⟩
def DN(ha:WT X a tA):WW X (.BoolOp .Or [a] pos) tA:=⟨IQ ha.h⟩
end
section
variable{X:Cx}
variable{a b:QK}{pos:Pos}
variable{tA tB':TT}{rest:List QK}
theorem DO(ha:WT X a tA)(hb:WW X (.BoolOp .And (b::rest) pos) tB'):WW X (.BoolOp .And (a::b::rest) pos) (NX tA tB'):=⟨IS ha.h hb.h⟩
theorem Hv(ha:WT X a tA)(hb:WW X (.BoolOp .Or (b::rest) pos) tB'):WW X (.BoolOp .Or (a::b::rest) pos) (tOr tA tB'):=⟨MA ha.h hb.h⟩
end
section
variable{X:Cx}
variable{a:QK}{pos:Pos}
variable{tA:TT}
def DQ(ha:WT X a tA):WT X (.UnaryOp .Not a pos) (NQ tA):=⟨IU ha.h⟩
end
section
variable{X:Cx}
variable{a:QK}{pos:Pos}
def DX{op}{t:TE}(h:WE X a t):WE X (.BoolOp op [a] pos) t:=⟨Jg h.h⟩
end
section
variable{X:Cx}
variable{a b:QK}{ta tb:TE}{pos:Pos}
variable{rest:List QK}
theorem D2(ha:WE X a ta)(hb:WE X (.BoolOp .And (b::rest) pos) tb):WE X (.BoolOp .And (a::b::rest) pos) (HW ta tb):=⟨Jp ha.h hb.h⟩
end
section
variable{X:Cx}
variable{a:QK}{ta:TE}{pos:Pos}
def DY(ha:WE X a ta):WE X (.UnaryOp .Not a pos) (HP ta):=⟨Jh ha.h⟩
end
section
variable{X:Cx}
def Ax :WSs X [] HQ:=⟨EI ⟩
end
section
variable{X:Cx}{st:Qg}{rest:List Qg}{t u:TS}
def iQ(h1:WS X st t)(h2:WSs X rest u):WSs X (st::rest) (NO t u):=⟨Bf h1.h h2.h⟩
end
section
variable{X:Cx}{st:Qg}{t:TS}
def pF(h1:WS X st t):WSs X [st] t:=⟨EH h1.h⟩
end
section
variable{X:Cx}{e:QK}{te:TE}{pos:Pos}
def pG(he:WE X e te)(hs:Z9 e none pos.line X.env=pure false:=by rfl):WS X (.Expr e pos) (HR te):=⟨EK he.h hs⟩
def sX(he:WE X e te):WS X (.Return (some e) pos) (NP te):=⟨IW he.h⟩
end
section
variable{X:Cx}{t u:TS}{pos:Pos}
theorem Cu{c:QK}{a b:List Qg}{tc:TT}(hc:WT X c tc)(ha:WSs X a t)(hb:WSs X b u):WS X (.If c a b pos) (NT tc t u):=⟨MB hc.h ha.h hb.h⟩
end
section
variable{X:Cx}{st:Qg}
def xw :WS X st uZ:=⟨Bi ⟩
end
section
variable{X:Cx}
def oU{sts:List Qg}:WSs X sts uZ:=⟨yx ⟩
end
section
variable{X:Cx}{pos:Pos}
theorem cH{i:Nat}{x:Str}(hN:X.N.Nodup)(hi:X.N[i]?=some x)(hx:Loc X.env.scope x)(hf:X.fn x=true\/X.env.scope.names.lookup x=some .local:=by first|exact .inl rfl|exact .inr rfl|assumption):WG X (.Name x pos) (wO i):=⟨ET hN hi hx hf⟩
end
section
variable{X:Cx}
def AA :WGs X [] Ol:=⟨ES ⟩
theorem xA{e:QK}{es:List QK}{t:TG}{u:TGs}(h1:WG X e t)(h2:WGs X es u)(hs:(assignEach (e::es) X.env).map (·.2)=assign e X.env::(assignEach es X.env).map (·.2):=by rfl):WGs X (e::es) (Kc t u):=⟨Bm h1.h h2.h hs⟩
end
section
variable{X:Cx}{pos:Pos}
theorem DV{es:List QK}{k:Nat}{t:TGs}{n:Nat}(hc:X.calm=true)(h:WGs X es t)(hn:(assignEach es X.env).length=n:=by rfl)(hst:(assignEach es X.env).findIdx? (·.1)=none:=by rfl):WG X (.Tuple es k pos) (Og X.K n t):=⟨Jb hc h.h hn hst⟩
theorem DW {o i : QK} {to ti : TE} {t : K9} (ho : WE X o to) (hi : WE X i ti) (hs : NG X t) (ha : ∀ v, assign (.Subscript o i pos) X.env v = (do
   let ov <-holding [v] (eval o X.env)
   let iv <-holding [v,ov] (eval i X.env)
   standAt pos
   holding [v,ov,iv] (setItem ov iv v)
   release [v,ov,iv] []):=by intro _;rfl):WG X (.Subscript o i pos) (Oh to ti t):=⟨Jc ho.h hi.h hs ha⟩
theorem DS{tg e:QK}{te:TE}{g:TG}(he:WE X e te)(hg:WG X tg g)(hs:swapsWithSole [tg] e pos.line X.env=pure false:=by rfl)(hw:swappedStores [tg] e X.env=pure none:=by rfl)(h1:(assignEach [tg] X.env).map (·.2)=[assign tg X.env]:=by rfl):WS X (.Assign [tg] e pos) (KR te g):=⟨I0 he.h hg.h hs hw h1⟩
theorem sW{i:Nat}{x:Str}{e:QK}{te:TE}{pos':Pos}(hN:X.N.Nodup)(hi:X.N[i]?=some x)(hx:Loc X.env.scope x)(he:WE X e te)(hs:Z9 e (some (.Name x pos')) pos.line X.env=pure false:=by rfl)(hf:X.fn x=true\/X.env.scope.names.lookup x=some .local:=by first|exact .inl rfl|exact .inr rfl|assumption):WS X (.Assign [.Name x pos'] e pos) (KR te (wO i)):=⟨IV hN hi hx he.h hs hf⟩
theorem qL{c:QK}{body:List Qg}{tc:TT}{tb:TS}(hp:PassesOwn (Qq X.prog X.w) X.A X.env X.xe)(hc:WT X c tc)(hb:WSs X body tb):WS X (.While c body [] pos) (xW tc tb):=⟨Bg hp hc.h hb.h⟩
end
section
variable{X:Cx}{tg:QK}
def Az{l:QK}{tl:TE}(hl:WE X l tl):WI X tg l (J9 X.K tl):=⟨ER hl.h⟩
def DT{l:QK}{tl:TE}(hl:WE X l tl):WI X tg l (Of X.K tl):=⟨Ja hl.h⟩
theorem vZ{a:QK}{ta:TA}{p pos:Pos}(hg:Gl X "range")(hm:X.mg "range"=none)(ha:WA X [a] ta)(hs:Q7 [a] X.env=[(false,eval a X.env)]:=by rfl):WI X tg (.Call (.Name "range" p) [a] [] pos) (J8 ta):=⟨yB hg hm ha.h hs⟩
theorem vY{a b:QK}{ta:TA}{p pos:Pos}(hg:Gl X "range")(hm:X.mg "range"=none)(ha:WA X [a,b] ta)(hs:Q7 [a,b] X.env=[(false,eval a X.env),(false,eval b X.env)]:=by rfl)(hs2:Q7 [b] X.env=[(false,eval b X.env)]:=by rfl):WI X tg (.Call (.Name "range" p) [a,b] [] pos) (J7 ta):=⟨yA hg hm ha.h hs hs2⟩
theorem xy{iter:QK}{body:List Qg}{wi:TI}{g:TG}{tb:TS}{pos:Pos}(hp:PassesOwn (Qq X.prog X.w) X.A X.env X.xe)(hc:X.calm=true)(hi:WI X tg iter wi)(hg:WG X tg g)(hb:WSs X body tb)(hs:∀x,foldedSetIterable iter X.env x=pure x:=by intro _;rfl):WS X (.For tg iter body [] pos) (Mo wi g tb):=⟨IX hp hc hi.h hg.h hb.h hs⟩
end
section
variable{X:Cx}{a b:QK}{ta tb:TE}{pos:Pos}
theorem Hy{op:Operator}{r:R2}(ho:OpR X (binaryOp op) r)(ha:WE X a ta)(hb:WE X b tb):WE X (.BinOp a op b pos) (tOp r ta tb):=⟨ME ho ha.h hb.h⟩
end
section
variable{X:Cx}{a:QK}{ta:TE}{pos:Pos}
theorem Hx{op:UnaryOp}{r:V->Hp->VK->Prop}(ho:UnR X (unaryOp op) r)(ha:WE X a ta):WE X (.UnaryOp op a pos) (tUn r ta):=⟨MD ho ha.h⟩
end
section
variable{X:Cx}{a b:QK}{ta tb:TE}{pos:Pos}
theorem pH{op:CmpOp}{r:R2}(ho:OpR X (compareOp op) r)(ha:WE X a ta)(hb:WE X b tb)(hm:behindInMarks op b=false):WE X (.Compare a [op] [b] pos) (tOp r ta tb):=⟨EY ho ha.h hb.h hm⟩
theorem Aw{op:CmpOp}{r:R2}(ho:OpR X (compareOp op) r)(ha:WE X a ta)(hb:WE X b tb)(hm:behindInMarks op b=false):WT X (.Compare a [op] [b] pos) (HL (tOp r ta tb)):=⟨EG ho ha.h hb.h hm⟩
end
section
variable{X:Cx}{a b c:QK}{ta tb tc:TE}{pos:Pos}
theorem xF{op op':CmpOp}{r r':R2}(ho:OpR X (compareOp op) r)(ho':OpR X (compareOp op') r')(ha:WE X a ta)(hb:WE X b tb)(hc:WE X c tc)(hm:lastMarks [op,op'] [b,c]=false:=by with_unfolding_all rfl):WE X (.Compare a [op,op'] [b,c] pos) (xY r r' ta tb tc):=⟨Br ho ho' ha.h hb.h hc.h hm⟩
end
section
variable{X:Cx}{a b c:QK}{ta tb:TE}{pos:Pos}
theorem qP(ha:WE X a ta)(hb:WE X b tb)(hs:qz b):WE X (.Subscript a b pos) (tOp (fun x y H Q=>∃z i c,x=.str z/\y=.int i/\0<=i/\i<2^63/\i<z.length/\z.cps[i.toNat]?=some c/\Q (.str ⟨#[c]⟩) H) ta tb):=⟨tR ha.h hb.h hs⟩
end
section
variable{X:Cx}{e:QK}{f:Str}{pos:Pos}{ta:TE}
theorem DZ(he:WE X e ta)(hb:attributeBase e f X.env (eval e X.env)=eval e X.env):WE X (.Attribute e f pos) (NV X.K ta f):=⟨Jm he.h hb⟩
end
section
variable{X:Cx}{o value:QK}{f:Str}{pos pos':Pos}{ta tv:TE}
theorem DR(ha:WE X o ta)(hv:WE X value tv)(hs:Z9 value (some (.Attribute o f pos')) pos.line X.env=pure false):WS X (.Assign [.Attribute o f pos'] value pos) (NY X.K ta tv f):=⟨IY ha.h hv.h hs⟩
end
section
variable{X:Cx}
def fU :WA X [] KQ:=⟨Jr ⟩
end
section
variable{X:Cx}{e:QK}{es:List QK}{te:TE}{t:TA}
theorem bK(ha:WE X e te)(hr:WA X es t)(hs:Q7 (e::es) X.env=(false,eval e X.env)::Q7 es X.env:=by rfl):WA X (e::es) (HV te t):=⟨E7 ha.h hr.h hs⟩
end
section
variable{X:Cx}{es:List QK}{t:TA}{pos:Pos}
def xC{x1}(h:WA X es t):WE X (.Tuple es x1 pos) (NN t):=⟨Je h.h⟩
def xD(h:WA X es t):WE X (.List es pos) (NR t):=⟨Jj h.h⟩
end
section
variable{X:Cx}{CX:CXT}{k:Nat}{f C:Addr}{fd:Z8}{ps:List Str}{sp:Sp}{dvs:List V}{ds:List Q2}{E:XK}{m:Str}{pos apos:Pos}{e o:QK}{es:List QK}{ta:TE}{t:TA}
theorem uS {pl : Sem Bool} (he : WE X o ta) (c : Cls X.K C) (hm : Ck X.K C m f) (F : j9 X.prog X.w X.K X.mg X.base CX k f fd ps sp) (hr : fZ k X.A) (hb : fT X.K fd ps ds) (hd : cG dvs ds) (hx : gK CX X E) (ha : WA X (e :: es) t) (hst : Q7 (e :: es) X.env = (false, eval e X.env) :: Q7 es X.env := by rfl) (hpl : (Qa pos (Q7 es X.env)).any (·.1) = false := by rfl) (ht : eval (.Call (.Attribute o m apos) (e :: es) [] pos) X.env = (do
   let ov <-eval o X.env
   standAt apos.atName
   let (f,first) <-holding [ov] (getMethod ov m pl)
   callWith pos f first (Qa pos (Q7 (e::es) X.env)) (backToKw pos (keywordEach [] X.env))):=by rfl):WE X (.Call (.Attribute o m apos) (e::es) [] pos) (wj C m sp dvs E ta t):=⟨EU he.h c hm F hr hb hd hx ha.h hst hpl ht⟩
end
section
variable{X:Cx}{CX:CXT}{k:Nat}{f C:Addr}{fd:Z8}{ps:List Str}{sp:Sp}{dvs:List V}{ds:List Q2}{E:XK}{m:Str}{pos apos:Pos}{o:QK}{ta:TE}
theorem qO {pl : Sem Bool} (he : WE X o ta) (c : Cls X.K C) (hm : Ck X.K C m f) (F : j9 X.prog X.w X.K X.mg X.base CX k f fd ps sp) (hr : fZ k X.A) (hb : fT X.K fd ps ds) (hd : cG dvs ds) (hx : gK CX X E) (ht : eval (.Call (.Attribute o m apos) [] [] pos) X.env = (do
   let ov <-eval o X.env
   standAt apos.atName
   let (f,first) <-holding [ov] (getMethod ov m pl)
   callWith pos f first (Qa pos (Q7 [] X.env)) (backToKw pos (keywordEach [] X.env))):=by rfl):WE X (.Call (.Attribute o m apos) [] [] pos) (wj C m sp dvs E ta KQ):=⟨Bo he.h c hm F hr hb hd hx ht⟩
end
section
variable{X:Cx}{CX:CXT}{k:Nat}{f C:Addr}{fd:Z8}{ps:List Str}{sp:Sp}{dvs:List V}{ds:List Q2}{E:XK}{x:Str}{p pos:Pos}{e:QK}{es:List QK}{t:TA}
theorem AB(M:Mk X.K C f)(F:j9 X.prog X.w X.K X.mg X.base CX k f fd ps sp)(hr:fZ (k+1) X.A)(hg:Gl X x)(hm:X.mg x=some (.ref C))(hb:fT X.K fd ps ds)(hd:cG dvs ds)(hx:gK CX X E)(ha:WA X (e::es) t)(hdb:(x == ("__debug__":Str))=false:=by decide)(he:Q7 (e::es) X.env=(false,eval e X.env)::Q7 es X.env:=by rfl)(hpl:(Qa pos (Q7 es X.env)).any (·.1)=false:=by rfl):WE X (.Call (.Name x p) (e::es) [] pos) (Eg C sp dvs E t):=⟨EV M F hr hg hm hb hd hx ha.h hdb he hpl⟩
end
section
variable{X:Cx}{x:Str}{p pos:Pos}{e:QK}{es:List QK}{t:TA}{id:String}{r:List V->Hp->VK->Prop}
theorem iR(hc:f7 X (.builtin id) r)(hg:Gl X x)(hm:X.mg x=none)(hv:Qn x=some (.builtin id))(ha:WA X (e::es) t)(hn:x≠"__name__":=by decide)(hdb:(x == ("__debug__":Str))=false:=by decide)(he:Q7 (e::es) X.env=(false,eval e X.env)::Q7 es X.env:=by rfl)(hpl:(Qa pos (Q7 es X.env)).any (·.1)=false:=by rfl):WE X (.Call (.Name x p) (e::es) [] pos) (tCB r t):=⟨Bs hc hg hm hv ha.h hn hdb he hpl⟩
end
section
variable{X:Cx}{x:Str}{p pos:Pos}{e:QK}{es:List QK}{t:TA}{T:String}{r:List V->Hp->VK->Prop}
theorem oV(hc:f7 X (.type T) r)(hg:Gl X x)(hm:X.mg x=none)(hv:Qn x=some (.type T))(ha:WA X (e::es) t)(hn:x≠"__name__":=by decide)(hdb:(x == ("__debug__":Str))=false:=by decide)(he:Q7 (e::es) X.env=(false,eval e X.env)::Q7 es X.env:=by rfl)(hpl:(Qa pos (Q7 es X.env)).any (·.1)=false:=by rfl):WE X (.Call (.Name x p) (e::es) [] pos) (tCB r t):=⟨yC hc hg hm hv ha.h hn hdb he hpl⟩
end
section
variable{X:Cx}
def uR :WO X none xX:=⟨EO ⟩
end
section
variable{X:Cx}{e:QK}{te:TE}
def uQ(h:WE X e te):WO X (some e) (HN te):=⟨EN h.h⟩
end
section
variable{X:Cx}{e:QK}{te:TE}{lo hi:Option QK}{tl th:TO}{pos p2:Pos}
theorem qM{r:V->Option Int->Option Int->Hp->VK->Prop}(hr:SlR X r)(he:WE X e te)(hl:WO X lo tl)(hu:WO X hi th):WE X (.Subscript e (.Slice lo hi none p2) pos) (tSl r te tl th):=⟨Bn hr he.h hl.h hu.h⟩
end
section
variable{X:Cx}{a b:QK}{ta tb:TE}{pos:Pos}
theorem Hz{r:R2}(hr:IxR X r)(ha:WE X a ta)(hb:WE X b tb)(hs:uL b):WE X (.Subscript a b pos) (tOp r ta tb):=⟨MF hr ha.h hb.h hs⟩
end
section
variable{X:Cx}
variable{o:QK}{to:TE}{name:Str}{apos cpos:Pos}{T id:String}{r:V->List V->Hp->VK->Prop}
theorem D1(pa:PlainAttrs T)(slot:Slot T name id)(hty:typeOf (.builtin id)=pure (.type "method_descriptor"))(hm:MtR X id r)(ho:WE X o to)(hbase:attributeBase o name X.env (eval o X.env)=eval o X.env:=by rfl)(hline:(apos.endLine == cpos.line)=true:=by rfl):WE X (.Call (.Attribute o name apos) [] [] cpos) (NW X.K T r to):=⟨Jo pa slot hty hm ho.h hbase hline⟩
end
section
variable{X:Cx}
variable{o e:QK}{es:List QK}{to:TE}{t:TA}{name:Str}{apos cpos:Pos}{T id:String}{r:V->List V->Hp->VK->Prop}
theorem qQ (pa : PlainAttrs T) (slot : Slot T name id) (hty : typeOf (.builtin id) = pure (.type "method_descriptor")) (hm : MtR X id r) (ho : WE X o to) (ha : WA X (e :: es) t) (hbase : attributeBase o name X.env (eval o X.env) = eval o X.env := by rfl) (hfew : ((Qa cpos (Q7 (e :: es) X.env)).all (fun x => !x.1) && (backToKw cpos (keywordEach [] X.env)).all (fun x => x.1.isSome)
   && decide ((e::es).length+([]:List Keyword).length+(if ([]:List Keyword).isEmpty then 0 else 1)<30))=true:=by rfl) (hline:(apos.endLine == cpos.line)=true:=by rfl) (hs:Q7 (e::es) X.env=(false,eval e X.env)::Q7 es X.env:=by rfl) (hplain:(Qa cpos (Q7 es X.env)).any (·.1)=false:=by rfl):WE X (.Call (.Attribute o name apos) (e::es) [] cpos) (tBM X.K T r to t):=⟨MG pa slot hty hm ho.h ha.h hbase hfew hline hs hplain⟩
end
section
variable{X:Cx}{o i:QK}{pos:Pos}{td ty:TE}
theorem AF(hu:X.A.units+1<cLine)(ho:WE X o td)(hi:WE X i ty)(hs:Lc i):WE X (.Subscript o i pos) (HU td ty):=⟨EX hu ho.h hi.h hs⟩
end
section
variable{X:Cx}{o i:QK}{td ty:TE}
def D3(hu:X.A.units+1<cLine)(hi:WE X i ty)(ho:WE X o td):WC X .In i o (Mp ty td):=⟨Jq hu hi.h ho.h⟩
end
section
variable{X:Cx}{o i value:QK}{pos pos':Pos}{td ty tv:TE}
theorem Ay(hu:X.A.units+1<cLine)(ho:WE X o td)(hi:WE X i ty)(hv:WE X value tv)(hs:Z9 value (some (.Subscript o i pos')) pos.line X.env=pure false):WS X (.Assign [.Subscript o i pos'] value pos) (Im td ty tv):=⟨EL hu ho.h hi.h hv.h hs⟩
end
theorem AE{X:Cx}{pos:Pos}{keys:List (Option QK)}{values:List QK}{trs:List (TE×TE)}(h:PPs X pos keys values trs)(hall:keys.all (·.isSome)=true)(hl:keys.length=values.length)(h0:keys≠[])(h15:keys.length<=15):WE X (.Dict keys values pos) (HS trs):=⟨EW h hall hl h0 h15⟩
section
variable{X:Cx}{o e f:QK}{apos cpos:Pos}{td ty tx:TE}
theorem xE(hu:X.A.units+1<cLine)(ho:WE X o td)(he:WE X e ty)(hf:WE X f tx)(m:M2 X o "get" apos e f cpos):WE X (.Call (.Attribute o "get" apos) [e,f] [] cpos) (CD td ty tx):=⟨Bq hu ho.h he.h hf.h m⟩
end
section
variable{X:Cx}
theorem wpv(i:Nat){x:Str}{pos:Pos}(hN:X.N[i]?=some x:=by rfl)(hv:Vis X.env.scope x:=by first|exact Or.inl rfl|exact Or.inr (Or.inl rfl)|exact Or.inr (Or.inr rfl))(hd:(x == ("__debug__":Str))=false:=by decide)(hcd:(x == ("__classdict__":Str))=false:=by decide):WE X (.Name x pos) (KP i):=⟨pv i hN hv hd hcd⟩
end
def WW.pt{X:Cx}{e:QK}{t:TT}(h:WW X e t):WT X e t:=⟨h.h.pt⟩
section
variable{X:Cx}{e:QK}
def w4(i j:Int):Prop:=0<j/\j.natAbs.log2<9000
theorem p9:OpR X (binaryOp .FloorDiv) (rI w4 fun i j=>.int (i / j)):=opI fun i j _ _ _ _ _ hc q=>by
 refine PyProof.Rows.floordiv_int (by have:=hc.1;omega) ?_ (.inl (PyProof.noPylong_of_log2 hc.2));rw[Int.fdiv_eq_ediv_of_nonneg i (Int.le_of_lt hc.1)];exact q
theorem uF:f7 X (.builtin "isinstance") (fun xs H Q=>∃(x:V) (T:String) (t:Q2) (k:Bool),xs=[x,.ty T]/\vS X.K H x t/\PySem.W.kitOne X.K t (.type T)=some k/\Q (.bl k) H):=by
 rintro pins s σ H xs us Q I r ⟨x,T,t,k,rfl,ty,e,q⟩;obtain⟨u,w',rfl,ru,rw'⟩:=tD r;cases rw';exact ze I ru ty e fun tk=>⟨.bl k,H,I.tok tk,rfl,q⟩
end
def cS{H:Hp}{p:Addr}(h:H p=none)(o:HO):sJ H (upd H p o):=fun b u q=>by rw[aY (dS q h)];exact q
def Def(K:Q1)(mg:Str->Option Q2)(x:Str)(st:Qg)(ps:List Str):Prop:=
 ∃f fd,Fun K x x st f fd/\fT K fd ps []/\mg x=some (.ref f)
def Has(P:QL)(w:Qu)(K:Q1)(mg:Str->Option Q2)(base:Heap)(x:Str)(k:Nat)(ps:List Str)(sp:Sp):Prop:=
 ∃f fd,j9 P w K mg base CX0 k f fd ps sp/\fT K fd ps []/\PySem.W.keepIn K (.ref f)=true/\mg x=some (.ref f)
section
variable{P:QL}{w:Qu}{K:Q1}{mg:Str->Option Q2}{base:Heap}{x:Str}{st:Qg}{ps N:List Str}{k j:Nat}{sp:Sp}
theorem Has.mono(h:Has P w K mg base x j ps sp)(l:j<=k):Has P w K mg base x k ps sp:=by
 obtain⟨f,fd,a,b,c,d⟩:=h;exact⟨f,fd,a.mono l,b,c,d⟩
theorem Def.has(d:Def K mg x st ps)(S:a7 N ps (aG st))(len:∀vs H Q E,sp vs H Q E->vs.length=ps.length)
  (hbody:∀(f:Addr) (cdv:Q2) (A:Qe) (outer:List Env) (s:Q8) (H:Hp) (vs:List V) (Q:VK) (E:XK),fZ k (A.deeper (envOfC x (aG st) s.heap.objs.size f cdv))->sp vs H Q E->
   ∃t,WSs (uE CX0 P w K mg base N x (aG st) f cdv A outer s H E).nox (d9 st) t/\t { nx:=fun _ H'=>Q .non H',rt:=Q } (jN N vs) H):Has P w K mg base x (k+1) ps sp:=by
 obtain⟨f,fd,F,b,m⟩:=d;exact⟨f,fd,F.ok S len (fun cdv A outer s H vs Q E hr h=>let ⟨t,a,b⟩:=hbody f cdv A outer s H vs Q E hr h;⟨t,a.h,b⟩),b,F.kp,m⟩
theorem Def.none(d:Def K mg x st ps)(no:∀vs H Q E,¬sp vs H Q E):Has P w K mg base x k ps sp:=by
 obtain⟨f,fd,F,b,m⟩:=d;exact⟨f,fd,⟨fun vs H Q E h=>absurd h (no vs H Q E),fun A outer s H args us vs Q E _ _ _ _ h=>absurd h (no vs H Q E)⟩,b,F.kp,m⟩
end
theorem Cv{X:Cx}{k:Nat}{ps:List Str}{sp:Sp}{x:Str}{p pos:Pos}{e:QK}{es:List QK}{t:TA}(F:Has X.prog X.w X.K X.mg X.base x k ps sp)(hr:fZ k X.A)(hg:Gl X x)
  (ha:WA X (e::es) t) (hdb:(x == ("__debug__":Str))=false:=by decide) (he:Q7 (e::es) X.env=(false,eval e X.env)::Q7 es X.env:=by rfl) (hpl:(Qa pos (Q7 es X.env)).any (·.1)=false:=by rfl) :
  WE X (.Call (.Name x p) (e::es) [] pos) (Ei sp [] E0 t):=by
 obtain⟨f,fd,a,b,c,d⟩:=F;exact⟨EZ a hr hg d c b .nil Bu ha.h hdb he hpl⟩
structure Blt(mg:Str->Option Q2):Prop where
 len:mg "len"=none
 isinstance:mg "isinstance"=none
 int:mg "int"=none
 bool:mg "bool"=none
 str:mg "str"=none
 tuple:mg "tuple"=none
 list:mg "list"=none
 range:mg "range"=none
 min:mg "min"=none
 sum:mg "sum"=none
 all:mg "all"=none
 zip:mg "zip"=none
 sorted:mg "sorted"=none
 dict:mg "dict"=none
 enumerate:mg "enumerate"=none
 any:mg "any"=none
 max:mg "max"=none
 set:mg "set"=none
def rb{n:Nat}(h:n<=1000):n<=QB:=Nat.le_of_lt (yd h)
theorem wH{n:Nat}(h:n<2^60):n.log2<1920:=by
 by_cases e:n=0
 ·subst e;decide
 ·have:=(Nat.log2_lt e).mpr h;omega
theorem B6(ns:List Int)(lo hi:Option Int):zL (ns.map V.int) lo hi=((ns.drop (HT.sIx (ns.map V.int).length 0 lo)).take (HT.sIx (ns.map V.int).length (ns.map V.int).length hi-HT.sIx (ns.map V.int).length 0 lo)).map V.int:=by
 unfold zL;rw[List.map_take,List.map_drop]
def AU(K:Q1):Sp:=fun vs H Q _=>∃(a:Addr) (ns:List Int),vs=[.ref a]/\SqL K H a (ns.map V.int)/\ns.length<=63/\∀H',Q (.bl true) H'
def vN:Qn "int"=some (.type "int"):=rfl
def z6:Qn "bool"=some (.type "bool"):=rfl
def iD:Qn "str"=some (.type "str"):=rfl
def lD:Qn "tuple"=some (.type "tuple"):=rfl
def zY:Qn "list"=some (.type "list"):=rfl
def eW:Qn "isinstance"=some (.builtin "isinstance"):=rfl
def Cd:Qn "min"=some (.builtin "min"):=rfl
def Ce:Qn "all"=some (.builtin "all"):=rfl
theorem xB{X:Cx}{x:Str}{T:String}{pos:Pos}(hg:Gl X x)(hm:X.mg x=none)(hv:Qn x=some (.type T))(hn:x≠"__name__":=by decide)(hd:(x == ("__debug__":Str))=false:=by decide):WE X (.Name x pos) (tC (.ty T)):=
 ⟨E5 hg hm hv rfl hn hd⟩
theorem eB{X:Cx}{x:Str}{i:Int}{pos:Pos}(hg:Gl X x)(hm:∃t,X.mg x=some (.int i t))(hd:(x == ("__debug__":Str))=false:=by decide):WE X (.Name x pos) (tC (.int i)):=by
 obtain⟨t,hm⟩:=hm;exact⟨tV hg hm ⟨t,rfl⟩ hd⟩
theorem Ks{α:Type}{xs:List α}{k:Int}{v:α}(h0:0<=k)(h:xs[k.toNat]?=some v):atI xs k=some v:=by
 have ek:k=((k.toNat:Nat):Int):=by omega
 rw[ek];exact j4 h
theorem Fun.okW{P:QL}{w:Qu}{K:Q1}{mg:Str->Option Q2}{base:Heap}{x qual:Str}{st:Qg}{f:Addr}{fd:Z8}{N ps:List Str}{k:Nat}{sp:Sp}(F:Fun K x qual st f fd)(S:a7 N ps (aG st))(len:∀vs H Q E,sp vs H Q E->vs.length=ps.length)
  (hbody:∀(cdv:Q2) (A:Qe) (outer:List Env) (s:Q8) (H:Hp) (vs:List V) (Q:VK) (E:XK),fZ k (A.deeper (envOfC qual (aG st) s.heap.objs.size f cdv))->sp vs H Q E->
   ∃t,WSs (uE CX0 P w K mg base N qual (aG st) f cdv A outer s H E).nox (d9 st) t/\t { nx:=fun _ H'=>Q .non H',rt:=Q } (jN N vs) H):j9 P w K mg base CX0 (k+1) f fd ps sp:=
 F.ok S len fun cdv A outer s H vs Q E hr h=>let ⟨t,a,b⟩:=hbody cdv A outer s H vs Q E hr h;⟨t,a.h,b⟩
def Ds(env:Env):List (Str×Addr)->Prop
 |[]=>True
 |p::r=>env.cells.lookup p.1=some p.2/\Ds env r
theorem Ds.look{env:Env}:∀{cl:List (Str×Addr)} {y:Str} {c:Addr},Ds env cl->cl.lookup y=some c->env.cells.lookup y=some c
 |[],_,_,_,h=>by simp at h
 |(n,d)::r,y,c,a,h=>by
  obtain⟨a1,a2⟩:=a;rw[List.lookup_cons]at h;by_cases e:(y == n)=true
  ·rw[e]at h;have e':y=n:=by simpa using e
   subst e';cases h;exact a1
  ·have e':(y == n)=false:=by simpa using e
   rw[e']at h;exact Ds.look a2 h
abbrev cxC(X:Cx)(Nc:List Str)(scope:Scope)(cl:List (Str×Addr))(s3:Q8)(H3:Hp)(fp:List Addr):Cx where
 prog:=X.prog
 w:=X.w
 K:=X.K
 mg:=X.mg
 base:=X.base
 A:=X.A
 N:=Nc
 s₀:=s3
 H₀:=H3
 env:=compEnvC scope cl s3.heap.objs.size X.env
 outer:=X.stack
 stack:=X.stack
 ex:=fp
 fn:=fun _=>false
 calm:=X.calm
 pn:=[]
 xe:=fun _ _=>False
def stC(n:Nat)(caps:List Nat)(σ:L2.St):L2.St:=Q9 n none++caps.map fun i=>(σ[i]?).getD none
def Eh(wi:TI)(g:TG)(te:TE)(n:Nat)(caps:List Nat):TE:=fun σ H Q=>wi σ H fun J H1=>∀l,H1 l=none->∃W:Nat->Nat->L2.St->Hp->Prop,(∃m,W 0 m (stC n caps σ) (upd H1 l (.lst [])))/\
 ∀i m σ' H2,W i m σ' H2->(J.stop i H2/\Q (.ref l) H2)\/(J.go i H2/\∃N:L2.St->Hp->Prop,(∀σ'' H',N σ'' H'->∃m',m'<m/\W (i+1) m' σ'' H')/\
  ∀x H3,J.yld i H2 x H3->g x σ' H3 fun σ2 H4=>te σ2 H4 fun v H5=>∃ys,H5 l=some (.lst ys)/\ys.length<QB/\N σ2 (upd H5 l (.lst (ys++[v]))))
theorem sx{prog:QL}{w:Qu}{A:Qe}{R:Result->Q8->Prop}{s:Q8}{elt target iter:QK}{scope:Scope}{pos:Pos}{it acc:Q2}{env:Env}(I:Nat->Q8->Prop)
  (turn:∀n s,I n s->wpAny (Qq prog w) A (pyNext it) (fun r s₁=>match r with
   |none=>R (.ok .next) s₁
   | some v=>wpAny (Qq prog w) A (letOwnedTupleGo target it v) (fun _ s₁'=>wpAny (Qq prog w) A (assign target env v) (fun _ s₂=>wpAny (Qq prog w) A (eval elt env) (fun x s₃=>
     wpAny (Qq prog w) A (call (.builtin "list.append") [acc,x]) (fun _ s₄=>∃m,m<n/\I m s₄) (fun _ _=>False) s₃)
     (fun _ _=>False) s₂) (fun _ _=>False) s₁') (fun _ _=>False) s₁) (fun _ _=>False) s)
  (n:Nat) (h:I n s) :
  codeAny (Qq prog w) A (.compLoop (.ListComp elt [⟨target,iter,[],0⟩] scope pos) 0 it acc env) R s:=by
 refine codeAny_loop rfl I (fun n s hI=>?_) n h;show wpAny _ _ ((compTurn (.ListComp elt [⟨target,iter,[],0⟩] scope pos) 0 it acc env).onRaise (fun x=>do noteFrame x env;theTreesLotGoes x)) _ _ s;refine wpAny_noted ?_;rw[compTurn_list1];refine Q4 (wpAny_standAt (Q4 (Z6 (turn n s hI) (fun r s₁ h₁=>?_) fun _ _ h'=>h'.elim)));cases r with
 |none=>exact QC h₁
 |some v=>
  refine Q4 (Z6 h₁ (fun _ s₁' h₁'=>?_) fun _ _ h'=>h'.elim);exact Q4 (Z6 h₁' (fun _ s₂ h₂=>Q4 (Q4 (Z6 h₂ (fun x s₃ h₃=>Q4 (Z6 h₃
   (fun _ s₄ h₄=>QC (QC ⟨rfl,h₄⟩)) fun _ _ h'=>h'.elim)) fun _ _ h'=>h'.elim))) fun _ _ h'=>h'.elim)
section
variable{X:Cx}{pins:List (Addr×Obj)}{σ:L2.St}{H:Hp}{s:Q8}{Nc capN:List Str}{scope:Scope}{cl:List (Str×Addr)}{fp:List Addr}{n:Nat}{caps:List Nat}
def Cap(X:Cx)(scope:Scope)(cl:List (Str×Addr))(i:Nat)(y:Str):Prop:=X.N[i]?=some y/\X.env.scope.names.lookup y=some .cell/\(relabel scope X.env).names.lookup y=some .cell/\∃c,cl.lookup y=some c
theorem Inv.comp{h1:Heap}{t':Nat}(I:Inv X pins σ H s)(hc:X.calm=true)(f2:∀b∈fp,Ap X pins H b)(fo:∀b∈fp,b<s.heap.objs.size)(hkind:scope.kind=.function)(hcl:Ds X.env cl)
  (hhas:((relabel scope X.env).names.all fun p=>!(p.2 == .cell||p.2 == .free)||(cl.lookup p.1).isSome)=true)
  (hcap:Paired (Cap X scope cl) caps capN) (tn:List Str) (hN:Nc=tn++capN) (hn:tn.length=n)
  (hns:h1.Ns s.heap.objs.size (fun _=>none)) (hk:∀b o,s.heap.get? b=some o->h1.get? b=some o) :
  Inv (cxC X Nc scope cl s H fp) [] (stC n caps σ) H { s with heap:=h1,toks:=t' }:=by
 have lkc:∀y c,cl.lookup y=some c->X.env.cells.lookup y=some c:=fun y c e=>hcl.look e;refine⟨⟨I.ok.mod,?_,I.ok.glob,I.ok.blt,QU _,fun x y c a b=>I.ok.inj x y c (lkc _ _ a) (lkc _ _ b),fun x hx=>?_,fun x c z=>(nomatch z),I.ok.hd,I.ok.frames,.inl rfl,fun b hb=>⟨Qw (fo b hb),fun x c e=>(f2 b hb).2.2.2.2.1 x c (lkc _ _ e)⟩,I.bs,Qk I.ok.bsz I.sz,
  fun b o e hb=>?_,fun b hb z=>?_,I.stack,I.stkFree⟩,rfl,I.bare,Un.kept hk,⟨_,hns,fun i y v h1' h2 h3=>?_⟩,fun y c e=>?_,I.hok.fresh (QU _),fun y c e=>I.freeC y c (lkc _ _ e),fun p hp=>(by simp at hp),I.hok.kept hk,?_⟩
 ·exact hkind
 ·have hx':(relabel scope X.env).names.lookup x=some .cell\/(relabel scope X.env).names.lookup x=some .free:=hx;have mem:∀{k},(relabel scope X.env).names.lookup x=some k->(x,k)∈(relabel scope X.env).names:=fun{k} e=>by
   generalize (relabel scope X.env).names=L at e;induction L with
   |nil=>simp at e
   |cons p r ih=>
    obtain⟨a,b⟩:=p;rw[List.lookup_cons]at e;by_cases q:(x == a)=true
    ·rw[q]at e;cases e;have:x=a:=by simpa using q
     subst this;exact QY
    ·rw[show(x == a)=false by simpa using q]at e;exact QZ _ (ih e)
  have fin:∀{k},(k=NameKind.cell\/k=.free)->(relabel scope X.env).names.lookup x=some k->∃c,cl.lookup x=some c:=fun{k} hk' e=>by
   have:=List.all_eq_true.mp hhas _ (mem e);dsimp only at this;have q:(cl.lookup x).isSome=true:=by
    rcases hk' with z|z<;>subst z<;>simpa using this
   exact Option.isSome_iff_exists.mp q
  rcases hx' with e|e
  ·exact fin (.inl rfl) e
  ·exact fin (.inr rfl) e
 ·rcases(f2 b hb).2.2.2.1 with z|z
  ·exact I.ok.noex b o e z
  ·exact absurd (Qv (QD e) I.ok.bsz) (Nat.not_lt.mpr z)
 ·rcases Qz.mp (I.stkSub b z)with q|q
  ·exact(f2 b hb).2.1 q
  ·exact(f2 b hb).2.2.1 q
 ·obtain⟨m,hm,hl⟩:=I.loc;have h2':(stC n caps σ)[i]?=some (some v):=h2;have h1'':Nc[i]?=some y:=h1';unfold stC at h2';by_cases hi:i<n
  ·rw[Qx (by simpa using hi),ZX,if_pos hi]at h2';cases h2'
  ·rw[Qb (by simp;omega),ZP,Z0]at h2';rw[hN,Qb (by omega),hn]at h1'';have key:∀(j:Nat) {caps:List Nat} {capN:List Str},Paired (Cap X scope cl) caps capN->capN[j]?=some y->(Option.map (fun i=>(σ[i]?).getD none) caps[j]?)=some (some v)->∃k,Cap X scope cl k y/\σ[k]?=some (some v):=by
    intro j;induction j with
    |zero=>
     intro caps capN P e1 e2;cases P with
     |nil=>simp at e1
     |@cons a b l r p t=>
      simp at e1 e2;subst e1;cases q:σ[a]? with
      |none=>rw[q]at e2;simp at e2
      |some w'=>rw[q]at e2;simp at e2;subst e2;exact⟨a,p,q⟩
    |succ j ih=>
     intro caps capN P e1 e2;cases P with
     |nil=>simp at e1
     |cons p t=>exact ih t (by simpa using e1) (by simpa using e2)
   obtain⟨k,⟨c1,c2,c3,c,c4⟩,e⟩:=key _ hcap h1'' h2';obtain⟨u,r,lk⟩:=hl k y v c1 e (.inr (.inl c2));refine⟨u,r,.inr ⟨.inl c3,c,c4,?_⟩⟩;rcases lk with⟨z,_⟩|⟨_,c',e',o,ho,hd⟩
   ·have z':X.env.scope.names.lookup y=some .local:=z;rw[c2]at z';cases z'
   ·rw[lkc _ _ c4]at e';cases e';exact⟨o,hk _ _ ho,hd⟩
 ·obtain⟨v,o,ho,hd⟩:=I.cell y c (lkc _ _ e);exact⟨v,o,hk _ _ ho,hd⟩
 ·show(stC n caps σ).length=Nc.length;have pl:caps.length=capN.length:=Paired.length hcap;unfold stC;rw[QJ,ZP,QV,hN,QJ,hn,pl]
end
theorem B9{X:Cx}{Nc capN tn:List Str}{scope:Scope}{cl:List (Str×Addr)}{n:Nat}{caps:List Nat}{tg iter elt:QK}{pos:Pos}{wi:TI}{g:TG}{te:TE}
  (hc:X.calm=true) (hi:WI X tg iter wi) (hg:∀s3 H3 fp,WG (cxC X Nc scope cl s3 H3 fp) tg g) (he:∀s3 H3 fp,WE (cxC X Nc scope cl s3 H3 fp) elt te)
  (hclos:closureFor scope X.env=pure cl) (hkind:scope.kind=.function) (hnl:∀x∈scope.names,x.2=.local->scope.names.lookup x.1=some .local) (hcell:∀x∈scope.names,x.2≠.cell)
  (hcl:Ds X.env cl) (hhas:((relabel scope X.env).names.all fun p=>!(p.2 == .cell||p.2 == .free)||(cl.lookup p.1).isSome)=true)
  (hcap:Paired (Cap X scope cl) caps capN) (hN:Nc=tn++capN) (hn:tn.length=n)
  {use:Option (Q2->Sem Unit)} {pins:List (Addr×Obj)} {σ:L2.St} {H:Hp} {s:Q8} {Q:VK} {Qf:Q2->Q8->Prop} (I:Inv X pins σ H s) (h:Eh wi g te n caps σ H Q)
  (hend:∀(D C:Addr) (s6:Q8) (H5:Hp) (m:Str->Option Q2),Inv X pins σ H5 s6->s6.heap.Ns C m->H5 C=none->C≠X.env.locals->X.s₀.heap.objs.size<=C->(∀x c,X.env.cells.lookup x=some c->c≠C)->(∀p∈X.pn++pins,p.1≠C)->Q (.ref D) H5->compPost (Qq X.prog X.w) X.A X.xe use Qf (.ref D) C (.ok .next) s6)
  (hs:∀x,foldedSetIterable iter X.env x=pure x) :
  wpAny (Qq X.prog X.w) X.A (comprehension (.ListComp elt [⟨tg,iter,[],0⟩] scope pos) scope X.env (firstIterPos [⟨tg,iter,[],0⟩] pos) (newList []) (firstAsync [⟨tg,iter,[],0⟩]) (firstIter [⟨tg,iter,[],0⟩] X.env) use) Qf X.xe s:=by
 refine wpAny_comprehension_free (use:=use) (g:=⟨tg,iter,[],0⟩) (gs:=[]) rfl hs hclos hkind hnl (thn (hi.h pins s σ H _ I h) fun v s1 h1=>thn h1 fun itv s2 h2=>?_);obtain⟨it,fp,tnn,J,H2,rfl,I2,T,st2,f2,hW⟩:=h2;have hD:=I2.fresh;obtain⟨W,⟨m0,w0⟩,turn⟩:=hW _ hD;refine wpAny_newObj_type (wpAny_newFunctionEnv hcell (by intro y hy;simp at hy) (fun h₁ hns₁ hsb₁=>?_) hkind);dsimp only at hns₁ hsb₁ ⊢;have I3:Inv X pins σ (upd H2 s2.heap.objs.size (.lst [])) { s2 with heap:=s2.heap.push { cls:=.type "list",dict:=none,data:=.seq ([]:List Q2).toArray },toks:=s2.toks }:=I2.lnew (its:=[]) .nil (ZF _);generalize hs3:({ s2 with heap:=s2.heap.push { cls:=.type "list",dict:=none,data:=.seq ([]:List Q2).toArray },toks:=s2.toks }:Q8)=s3 at I3;have es3:s3.heap=s2.heap.push { cls:=.type "list",dict:=none,data:=.seq ([]:List Q2).toArray }:=by rw[<-hs3]
 generalize hDD:s2.heap.objs.size=D at *;have kept:∀b o,s3.heap.get? b=some o->h₁.get? b=some o:=fun b o e=>by
  have lt:=QD e;rw[es3]at lt e;exact hsb₁.extBut b o (Qw lt) (QX _ e)
 have old:∀b o,s2.heap.get? b=some o->s3.heap.get? b=some o:=fun b o e=>by rw[es3];exact QX _ e
 have ltD:∀b∈fp,b<D:=fun b hb=>by
  obtain⟨o,e,_⟩:=T.obj 0 _ st2 b hb;rw[<-hDD];exact QD e
 have fo:∀b∈fp,b<s3.heap.objs.size:=fun b hb=>by
  obtain⟨o,e,_⟩:=T.obj 0 _ st2 b hb;exact QD (old _ _ e)
 have f3:∀b∈fp,Ap X pins (upd H2 D (.lst [])) b:=fun b hb=>by
  refine⟨?_,(f2 b hb).2⟩;rw[aY (Qw (ltD b hb))];exact(f2 b hb).1
 rw[<-es3]at hns₁ hsb₁ ⊢;have Ic:=fun t'=>Inv.comp (h1:=h₁) (t':=t') (Nc:=Nc) (n:=n) I3 hc f3 fo hkind hcl hhas hcap tn hN hn hns₁ kept;have stat:∀{H':Hp},(∀b∈fp,H' b=none)->∀b∈fp,Ap (cxC X Nc scope cl s3 (upd H2 D (.lst [])) fp) [] H' b:=fun hn' b hb=>by
  refine⟨hn' b hb,Qw (fo b hb),fun z=>?_,.inl hb,fun x c e=>(f2 b hb).2.2.2.2.1 x c (hcl.look e),fun p hp=>(by simp at hp)⟩;rcases Qz.mp (I3.stkSub b z)with q|q
  ·exact(f2 b hb).2.1 q
  ·exact(f2 b hb).2.2.1 q
 have loop:∀s4:Q8,(∃t',s4={ s3 with heap:=h₁,toks:=t' })->codeAny (Qq X.prog X.w) X.A (.compLoop (.ListComp elt [⟨tg,iter,[],0⟩] scope pos) 0 (.ref it) (.ref D) (compEnvC scope cl s3.heap.objs.size X.env))
   (compPost (Qq X.prog X.w) X.A X.xe use Qf (.ref D) s3.heap.objs.size) s4:=by
  rintro s4 ⟨t',rfl⟩;refine sx (fun n' s'=>∃i σ' H',Inv (cxC X Nc scope cl s3 (upd H2 D (.lst [])) fp) [] σ' H' s'/\tnn i s'.heap/\(∀b∈fp,H' b=none)/\W i n' σ' H') ?_ m0
   ⟨0,_,_,Ic t',T.keep 0 _ _ st2 fun b hb o e=>kept _ _ (old _ _ e),fun b hb=>(f3 b hb).1,w0⟩
  rintro n' s5 ⟨i,σ5,H5,I5,st5,fr5,w5⟩;rcases turn i n' σ5 H5 w5 with⟨stop,qn⟩|⟨go,N,hN',step⟩
  ·refine thn (T.done (cxC X Nc scope cl s3 (upd H2 D (.lst [])) fp) rfl rfl rfl hc i [] s5 σ5 H5 (fun _ _=>False) I5 (stat fr5) st5 stop) fun r s6 ⟨hr,I6⟩=>?_;subst hr;obtain⟨m,hm,_⟩:=I6.loc;have I7:Inv X pins σ H5 s6:=Inv.call' (ch:=fp) I3 I6.os I6.base I6.hok I6.bare fun b hb=>⟨(f2 b hb).2.2.2.1,(f2 b hb).2.1,(f2 b hb).2.2.2.2.1,(f2 b hb).2.2.2.2.2⟩;exact hend D _ s6 H5 m I7 hm I6.free (Ne.symm (Qw I3.lt)) I3.sz (fun x c e=>by
     obtain⟨v',o,ho,_⟩:=I3.cell x c e;exact Qw (QD ho)) (fun p hp=>Qw (QD (I3.pin p hp).1)) qn
  ·refine thn (T.item (cxC X Nc scope cl s3 (upd H2 D (.lst [])) fp) rfl rfl rfl hc i [] s5 σ5 H5 (fun _ _=>False) I5 (stat fr5) st5 go) fun r s6 ⟨u,hr,h6⟩=>?_;subst hr;refine thn h6 fun _ s7 hz=>?_;obtain⟨x,H7,I7,r7,y7,st7,fr7⟩:=hz;have I7':=I7.pinned (stat fr7) (T.obj _ _ st7);refine thn ((hg s3 (upd H2 D (.lst [])) fp).h _ s7 σ5 H7 x u _ I7' r7 (step x H7 y7)) fun _ s8 hz=>?_;obtain⟨σ8,H8,I8,q8⟩:=hz;refine thn ((he s3 (upd H2 D (.lst [])) fp).h _ s8 σ8 H8 _ I8 q8) fun v9 s9 hz=>?_;obtain⟨x9,H9,I9,r9,ys,hy,hlt,q9⟩:=hz;refine thn (rL (X:=cxC X Nc scope cl s3 (upd H2 D (.lst [])) fp) _ s9 σ8 H9 (.ref D) [x9] (.ref D) [v9] (fun _ H'=>N σ8 H') I9 rfl (.cons r9 .nil) ⟨D,ys,x9,rfl,rfl,hy,hlt,q9⟩) fun _ s10 hz=>?_;obtain⟨_,H10,I10,_,q10⟩:=hz;obtain⟨m',hm,w10⟩:=hN' σ8 H10 q10;refine⟨m',hm,i+1,σ8,H10,I10.unpinned,T.keep _ _ _ st7 fun b hb o e=>(I10.pin (b,o) (Qp _ (Qp _ (jt hb e)))).1,fun b hb=>?_,w10⟩;obtain⟨o,e,d⟩:=T.obj _ _ st7 b hb;exact(I10.pin (b,o) (Qp _ (Qp _ (jt hb e)))).2.1
 have e4:∀t',({ s2 with heap:=h₁,toks:=t' }:Q8)={ s3 with heap:=h₁,toks:=t' }:=fun t'=>by rw[<-hs3]
 refine codeAny_compStart_list (loop _ ⟨_,e4 _⟩) (T.self _ 0 _ _ _ (T.keep 0 _ _ st2 fun b hb o e=>kept _ _ (old _ _ e)) (loop _ ⟨_,e4 _⟩))
theorem AG{X:Cx}{Nc capN tn:List Str}{scope:Scope}{cl:List (Str×Addr)}{n:Nat}{caps:List Nat}{tg iter elt:QK}{pos:Pos}{wi:TI}{g:TG}{te:TE}
  (hc:X.calm=true) (hi:WI X tg iter wi) (hg:∀s3 H3 fp,WG (cxC X Nc scope cl s3 H3 fp) tg g) (he:∀s3 H3 fp,WE (cxC X Nc scope cl s3 H3 fp) elt te)
  (hclos:closureFor scope X.env=pure cl) (hkind:scope.kind=.function) (hnl:∀x∈scope.names,x.2=.local->scope.names.lookup x.1=some .local) (hcell:∀x∈scope.names,x.2≠.cell)
  (hcl:Ds X.env cl) (hhas:((relabel scope X.env).names.all fun p=>!(p.2 == .cell||p.2 == .free)||(cl.lookup p.1).isSome)=true)
  (hcap:Paired (Cap X scope cl) caps capN) (hN:Nc=tn++capN) (hn:tn.length=n)
  (hs:∀x,foldedSetIterable iter X.env x=pure x:=by intro _;rfl) :
  WE X (.ListComp elt [⟨tg,iter,[],0⟩] scope pos) (Eh wi g te n caps):=by
 constructor;intro pins s σ H Q I h;rw[eval_ListComp];refine B9 hc hi hg he hclos hkind hnl hcell hcl hhas hcap hN hn I h (fun D C s6 H5 m I7 hm fr nl sz cn pn qn=>⟨m,hm,fun h' hs'=>?_⟩) hs;exact⟨.ref D,H5,I7.turned (t':=s6.toks) (it:=C) (fun b o hb e=>hs'.extBut b o hb e) fr nl (.inr sz) cn pn,rfl,qn⟩
section
variable{X:Cx}
theorem xP:∀{bs:List Bool} {us:List Q2} {i:Nat} {v:Q2},cG (bs.map V.bl) us->us[i]?=some v->∃b,bs[i]?=some b/\v=.bool b
 |[],_,_,_,r,e=>by cases r;simp at e
 |b::bs,_,0,_,.cons r _,e=>by
  have r':_=Value.bool b:=r;simp at e;subst e;exact⟨b,by simp,r'⟩
 |b::bs,_,i+1,v,.cons _ t,e=>by
  obtain⟨b',e1,e2⟩:=xP (i:=i) (v:=v) t (by simpa using e);exact⟨b',by simpa using e1,e2⟩
theorem Cg(bs:List Bool):(List.range bs.length).all (fun i=>(bs[i]?).getD true)=bs.all id:=by
 rw[Bool.eq_iff_iff,List.all_eq_true,List.all_eq_true];constructor
 ·intro h b hb;obtain⟨i,hi,e⟩:=List.mem_iff_getElem.mp hb;have:=h i (List.mem_range.mpr hi);rw[Qr hi,Option.getD_some,e]at this;exact this
 ·intro h i hi;have hi':=List.mem_range.mp hi;have:=h _ (List.getElem_mem hi');rw[Qr hi',Option.getD_some];exact this
theorem Fu{h:Heap}{b:Addr}{o:Obj}(e:h.get? b=some o):¬b∈[h.objs.size]:=fun z=>by
 have z':b=h.objs.size:=by simpa using z
 exact absurd (QD e) (by rw[z'];exact ZE _)
theorem Cb(hc:X.calm=true):f7 X (.builtin "all") (fun xs H Q=>∃(p:Addr) (bs:List Bool),xs=[.ref p]/\SqL X.K H p (bs.map V.bl)/\Q (.bl (bs.all id)) H):=by
 intro pins s σ H xs us Q I r h;obtain⟨p,bs,rfl,hq,q⟩:=h;obtain⟨u,rfl,rx⟩:=mK r;cases rx;obtain⟨its,rv,pl,hz⟩:=I.list hq;have hlen:=rv.length;rw[QV]at hlen;refine call_all_walk (wpAny_pyIter_list pl.isList ?_);have lt:p<s.heap.objs.size:=by obtain⟨o,e,_⟩:=pl.isList;exact QD e
 refine⟨s.heap.objs.size,_,_,_,_,_,fun i=>(bs[i]?).getD true,rfl,Walks.list (show X.A.in1.handled=none from I.ok.hd hc) s.heap.objs.size p (Qw lt) its.toArray,⟨⟨_,Qy _ rfl,rfl,rfl⟩,pl.isList.at fun o e=>QX _ e⟩,?_,fun h' tk hk=>?_⟩
 ·intro i v s' Q' E' hP hQ;have hP':its.toArray[i]?=some v:=hP;obtain⟨b,e1,e2⟩:=xP rv (by simpa using hP');subst e2;dsimp only at hQ;rw[e1,Option.getD_some]at hQ;exact wpAny_truthy_bool hQ
 ·have e:(List.range its.toArray.size).all (fun i=>(bs[i]?).getD true)=bs.all id:=by
   rw[QH,<-hlen];exact Cg bs
  rw[e];exact⟨.bl (bs.all id),H,I.kept fun b o e=>hk b o (Fu e) (QX _ e),rfl,q⟩
end
open PySem.AutoSeq1 (wpAny_loadPart')
theorem Ca{prog:QL}{w:Qu}{A:Qe}{E:Q2->Q8->Prop}{s:Q8}{t b:Addr}{vs ws:List Q2}{Q:Q2->Q8->Prop}(ht:IsTup s.heap t vs.toArray)(hb:IsTup s.heap b ws.toArray)(hv:vs=[])
  (h1:Q (.ref b) s):wpAny (Qq prog w) A (binaryOp .Add (.ref t) (.ref b)) Q E s:=by
 obtain⟨⟨cls,dd,data,sl⟩,ho,hc,n,hd⟩:=id ht;obtain⟨⟨cls2,dd2,data2,sl2⟩,ho2,hc2,n2,hd2⟩:=id hb;simp only at hc hd hc2 hd2;subst hc hd hc2 hd2;exact concat_meets ⟨_,ho,rfl⟩ ⟨_,ho2,rfl⟩ noFill_tuple_add seq_tuple_add PySem.F.slot_tuple_add PySem.F.entry_tuple_add (PySem.F.args_tuple_add_2 _ _)
   (tuple_addW0 t b vs.toArray ws.toArray n n2 dd dd2 sl sl2 (by simp[hv])) ⟨ho,ho2,h1⟩
theorem iK:fillsNumberSlot (.type "tuple") "mul"=pure false:=
 PySem.fillsNumberSlot_seq (id:="tuple.__mul__") (r:=some (.builtin "tuple.__rmul__")) F.slot_tuple_mul.lookup (by decide +kernel) F.slot_tuple_rmul.lookup (by decide +kernel)
theorem md:seqRepeat? (.type "tuple")=pure (some (.builtin "tuple.__mul__")):=by
 unfold seqRepeat?;rw[PySem.seqSlot_of (T:="tuple") (name:="__mul__") (id:="tuple.__mul__") F.slot_tuple_mul.lookup (by decide +kernel),PySem.seqSlot_of (T:="tuple") (name:="__rmul__") (id:="tuple.__rmul__") F.slot_tuple_rmul.lookup (by decide +kernel)];rfl
theorem jH(a:Int)(t:Tok)(l:Addr)(items:Array Q2)(n:Nat)(dd:Option Addr)(sl:Array (Option Q2)) :
  Meets (Builtin.«int.__rmul__» ⟨[.int a t,.ref l],[]⟩) (fun _ R s=>s.heap.get? l=some { cls:=.type "tuple",dict:=dd,data:=.seq items n,slots:=sl }/\R (.ok (.ret Value.notImplemented)) s):=
 .of_wp fun prog w A R s h=>by obtain⟨hp,g,d,tk,os⟩:=s;obtain⟨hl,h⟩:=h;wp_walk using wpAny_loadPart' hl;exact⟨_,rfl,h⟩
theorem tH(l:Addr)(items:Array Q2)(n:Nat)(dd:Option Addr)(sl:Array (Option Q2))(t:Tok) :
  Meets (Builtin.«tuple.__mul__» ⟨[.ref l,.int 1 t],[]⟩) (fun _ R s=>s.heap.get? l=some { cls:=.type "tuple",dict:=dd,data:=.seq items n,slots:=sl }/\R (.ok (.ret (Value.ref l))) s):=
 .of_wp fun prog w A R s h=>by obtain⟨hp,g,d,tk,os⟩:=s;obtain⟨hl,h⟩:=h;have f1:=AutoSeq1.idx_int;wp_walk using wpAny_loadPart' hl;exact⟨_,rfl,h⟩
theorem tF(l:Addr)(items:Array Q2)(n:Nat)(dd:Option Addr)(sl:Array (Option Q2))(k:Int)(t:Tok)(hc0:¬(decide (k < -2^63)||decide (k≥2^63))=true)(hc1:¬(items.isEmpty||k == 1)=true)(hc2:¬(decide (k<=0)||items.isEmpty)=true)
  (hc3:¬((items.size:Int)*k>(2^63-1) / 8)) (hc4:¬Builtin.Tuple.tupleTooMany ((items.size:Int)*k)=true) (hz:(List.foldl (fun x1 x2=>x1++x2) #[] (Q9 k.toNat items)).size<=QB) :
  Meets (Builtin.«tuple.__mul__» ⟨[.ref l,.int k t],[]⟩) (fun _ R s=>s.heap.get? l=some { cls:=.type "tuple",dict:=dd,data:=.seq items n,slots:=sl }/\
   R (.ok (.ret (Value.ref s.heap.objs.size))) { s with heap:=s.heap.push { cls:=Value.type "tuple",data:=Data.seq (List.foldl (fun x1 x2=>x1++x2) #[] (Q9 k.toNat items)) } }):=
 .of_wp fun prog w A R s h=>by
  obtain⟨hp,g,d,tk,os⟩:=s;obtain⟨hl,h⟩:=h;have f1:=AutoSeq1.idx_int;have g0:(decide (k < -2^63)||decide (k≥2^63))=false:=by simpa using hc0
  have g1:(items.isEmpty||k == 1)=false:=by simpa using hc1
  have g2:(decide (k<=0)||items.isEmpty)=false:=by simpa using hc2
  have g4:Builtin.Tuple.tupleTooMany ((items.size:Int)*k)=false:=by simpa using hc4
  wp_walk using wpAny_loadPart' hl
  refine PySem.W.KFB.if_not g0 ?_
  wp_walk using wpAny_loadPart' hl
  try (refine PySem.W.KFB.if_not g1 ?_;wp_walk using wpAny_loadPart' hl)
  try (refine PySem.W.KFB.if_not g2 ?_;wp_walk using wpAny_loadPart' hl)
  try (rw[if_neg hc3];wp_walk using wpAny_loadPart' hl)
  try (refine PySem.W.KFB.if_not g4 ?_;wp_walk using wpAny_loadPart' hl)
  try (refine wpAny_ite_false (decide_eq_false (Nat.not_lt.mpr hz)) ?_;wp_walk)
  exact⟨_,rfl,h⟩
structure Ot(H:Hp)(p xs:Addr):Prop where
 ex:∃(ns:List Int) (at' cur:Int),H p=some (.lst [.ref xs,.int at',.int cur])/\H xs=some (.lst (ns.map V.int))/\xs≠p/\0<=at'/\0<=cur
def CJ(K:Q1):Sp:=fun vs H Q _=>∃(a:Addr) (ns:List Int),vs=[.ref a]/\SqL K H a (ns.map V.int)/\∀(q xs:Addr) (H':Hp),sJ H H'->Ot H' q xs->H q=none->Q (.ref q) H'
theorem yQ{m:Int}(h0:0<=m)(h:m<2^60):m.natAbs.log2<9000:=by
 have:=wH (n:=m.natAbs) (by omega);omega
end OG
namespace OP
open PySem PySem.Spec PyProof.Rows L2 OG
inductive U where
 |non|bl (b:Bool)|int (i:Int)|str (x:Str)|tup (us:List U)|ref (l:Nat)|kl (ns:List Int)
structure Cl where
 C:Addr
 ns:List Str
inductive O where
 |lst (us:List U)|dic (kvs:List (Key×U))|ins (c:Cl) (fs:List (Option U))|fdc (ep:Nat) (kvs:List (Key×U))|dit (kvs:List (List Key×U))|fdt (ep:Nat) (kvs:List (List Key×U))|dnt (kvs:List (List (List Int)×U))|fdn (ep:Nat) (kvs:List (List (List Int)×U))|cod (p:Addr) (pos:Pos) (q:Str)|exc (C:Addr)|xat (C:Addr) (n:Int)
abbrev Sto:=List O
abbrev Rho:=List (Option U)
def KL(K:Q1)(H:Hp)(a:Addr)(ns:List Int):Prop:=
 (∃o,H a=some (.frz o (.lst (ns.map V.int))))\/
  ∃(o:Obj) (its:Array Q2) (n:Nat),K.lookup a=some o/\o.cls=.type "list"/\o.dict=none/\o.data=.seq its n/\its.size<=QB/\cG (ns.map V.int) its.toList
theorem KL.sq{K:Q1}{H:Hp}{a:Addr}{ns:List Int}(h:KL K H a ns):SqL K H a (ns.map V.int):=by
 rcases h with h|h
 ·exact .inl (.inr h)
 ·exact .inr h
mutual
def Is(K:Q1)(m:List Addr)(H:Hp):V->U->Prop
 |v,.non=>v=.non
 |v,.bl b=>v=.bl b
 |v,.int i=>v=.int i
 |v,.str x=>v=.str x
 |v,.tup us=>∃a xs,v=.ref a/\SqT K H a xs/\IsL K m H xs us
 |v,.ref l=>∃a,m[l]?=some a/\v=.ref a
 |v,.kl ns=>∃a,v=.ref a/\KL K H a ns
def IsL(K:Q1)(m:List Addr)(H:Hp):List V->List U->Prop
 |xs,[]=>xs=[]
 |xs,u::us=>∃x r,xs=x::r/\Is K m H x u/\IsL K m H r us
end
structure Cn(K:Q1)(H H':Hp):Prop where
 t:∀a xs,SqT K H a xs->SqT K H' a xs
 l:∀a ns,KL K H a ns->KL K H' a ns
 c:∀a ob,H a=some (.frz ob (.own 0))->H' a=some (.frz ob (.own 0))
structure Ext(K:Q1)(m:List Addr)(H:Hp)(m':List Addr)(H':Hp):Prop where
 pre:∃t,m'=m++t
 keep:Cn K H H'
section
variable{K:Q1}{m m' m'':List Addr}{H H' H'':Hp}{v x:V}{u:U}{xs ys:List V}{us ws:List U}{a q:Addr}{o:HO}
def Ext.refl:Ext K m H m H:=⟨⟨[],by simp⟩,fun _ _ h=>h,fun _ _ h=>h,fun _ _ h=>h⟩
theorem Ext.trans(a:Ext K m H m' H')(b:Ext K m' H' m'' H''):Ext K m H m'' H'':=by
 obtain⟨t,rfl⟩:=a.pre;obtain⟨t',rfl⟩:=b.pre;exact⟨⟨t++t',by simp⟩,fun c ys h=>b.keep.t c ys (a.keep.t c ys h),fun c ys h=>b.keep.l c ys (a.keep.l c ys h),fun c ob h=>b.keep.c c ob (a.keep.c c ob h)⟩
def Ext.of(k:Cn K H H'):Ext K m H m H':=⟨⟨[],by simp⟩,k⟩
def Ext.new(k:Cn K H H'):Ext K m H (m++[q]) H':=⟨⟨[q],rfl⟩,k⟩
theorem Ext.get{l:Nat}(e:Ext K m H m' H')(h:m[l]?=some a):m'[l]?=some a:=by
 obtain⟨t,rfl⟩:=e.pre;rw[Qx (Q6.mp h).1];exact h
mutual
theorem Is.mono(e:Ext K m H m' H'):∀{v:V} {u:U},Is K m H v u->Is K m' H' v u
 |v,.non,h=>by unfold Is at h ⊢;exact h
 |v,.bl b,h=>by unfold Is at h ⊢;exact h
 |v,.int i,h=>by unfold Is at h ⊢;exact h
 |v,.str x,h=>by unfold Is at h ⊢;exact h
 |v,.tup us,h=>by
  unfold Is at h ⊢;obtain⟨a,xs,e1,k,l⟩:=h;exact⟨a,xs,e1,e.keep.t _ _ k,IsL.mono e l⟩
 |v,.ref l,h=>by
  unfold Is at h ⊢;obtain⟨a,k,e1⟩:=h;exact⟨a,e.get k,e1⟩
 |v,.kl ns,h=>by
  unfold Is at h ⊢;obtain⟨a,e1,k⟩:=h;exact⟨a,e1,e.keep.l _ _ k⟩
theorem IsL.mono(e:Ext K m H m' H'):∀{xs:List V} {us:List U},IsL K m H xs us->IsL K m' H' xs us
 |xs,[],h=>by unfold IsL at h ⊢;exact h
 |xs,u::us,h=>by
  unfold IsL at h ⊢;obtain⟨x,r,e1,k,l⟩:=h;exact⟨x,r,e1,Is.mono e k,IsL.mono e l⟩
end
def Is.int_{i:Int}:Is K m H (.int i) (.int i):=by unfold Is;rfl
def Is.bl_{b:Bool}:Is K m H (.bl b) (.bl b):=by unfold Is;rfl
def Is.non_:Is K m H .non .non:=by unfold Is;rfl
def Is.str_{x:Str}:Is K m H (.str x) (.str x):=by unfold Is;rfl
def Is.of_int{i:Int}(h:Is K m H v (.int i)):v=.int i:=by unfold Is at h;exact h
def Is.of_bl{b:Bool}(h:Is K m H v (.bl b)):v=.bl b:=by unfold Is at h;exact h
def Is.of_non(h:Is K m H v .non):v=.non:=by unfold Is at h;exact h
def Is.of_str{x:Str}(h:Is K m H v (.str x)):v=.str x:=by unfold Is at h;exact h
def Is.of_tup(h:Is K m H v (.tup us)):∃a xs,v=.ref a/\SqT K H a xs/\IsL K m H xs us:=by unfold Is at h;exact h
def Is.of_ref{l:Nat}(h:Is K m H v (.ref l)):∃a,m[l]?=some a/\v=.ref a:=by unfold Is at h;exact h
def Is.of_kl{ns:List Int}(h:Is K m H v (.kl ns)):∃a,v=.ref a/\KL K H a ns:=by unfold Is at h;exact h
def Is.tup_(e:SqT K H a xs)(h:IsL K m H xs us):Is K m H (.ref a) (.tup us):=by unfold Is;exact⟨a,xs,rfl,e,h⟩
def Is.ref_{l:Nat}(e:m[l]?=some a):Is K m H (.ref a) (.ref l):=by unfold Is;exact⟨a,e,rfl⟩
def IsL.nil_:IsL K m H [] []:=by unfold IsL;rfl
def IsL.cons_(h:Is K m H x u)(t:IsL K m H xs us):IsL K m H (x::xs) (u::us):=by unfold IsL;exact⟨x,xs,rfl,h,t⟩
def IsL.of_nil(h:IsL K m H xs []):xs=[]:=by unfold IsL at h;exact h
def IsL.of_cons(h:IsL K m H xs (u::us)):∃x r,xs=x::r/\Is K m H x u/\IsL K m H r us:=by unfold IsL at h;exact h
theorem IsL.length:∀{xs:List V} {us:List U},IsL K m H xs us->xs.length=us.length
 |xs,[],h=>by rw[h.of_nil];rfl
 |xs,d::ds,h=>by
  obtain⟨x,r,rfl,_,t⟩:=h.of_cons;rw[Q5,Q5,IsL.length t]
theorem IsL.getD:∀{xs:List V} {us:List U} {i:Nat} {u:U},IsL K m H xs us->us[i]?=some u->∃x,xs[i]?=some x/\Is K m H x u
 |xs,[],i,x,h,e=>by simp at e
 |xs,d::ds,0,x,h,e=>by
  obtain⟨y,r,rfl,k,t⟩:=h.of_cons;simp at e;subst e;exact⟨y,by simp,k⟩
 |xs,d::ds,i+1,x,h,e=>by
  obtain⟨y,r,rfl,k,t⟩:=h.of_cons;obtain⟨d',e1,e2⟩:=IsL.getD (i:=i) (u:=x) t (by simpa using e);exact⟨d',by simpa using e1,e2⟩
theorem IsL.append:∀{xs:List V} {us:List U},IsL K m H xs us->IsL K m H ys ws->IsL K m H (xs++ys) (us++ws)
 |xs,[],h,k=>by rw[h.of_nil];exact k
 |xs,d::ds,h,k=>by
  obtain⟨y,r,rfl,z,t⟩:=h.of_cons;exact .cons_ z (IsL.append t k)
theorem IsL.set:∀{xs:List V} {us:List U} {j:Nat},IsL K m H xs us->Is K m H x u->IsL K m H (xs.set j x) (us.set j u)
 |xs,[],j,h,k=>by rw[h.of_nil];exact .nil_
 |xs,d::ds,0,h,k=>by
  obtain⟨y,r,rfl,z,t⟩:=h.of_cons;exact .cons_ k t
 |xs,d::ds,j+1,h,k=>by
  obtain⟨y,r,rfl,z,t⟩:=h.of_cons;exact .cons_ z (IsL.set t k)
theorem IsL.drop:∀{xs:List V} {us:List U} (n:Nat),IsL K m H xs us->IsL K m H (xs.drop n) (us.drop n)
 |xs,us,0,h=>h
 |xs,[],n+1,h=>by rw[h.of_nil];exact .nil_
 |xs,d::ds,n+1,h=>by
  obtain⟨y,r,rfl,z,t⟩:=h.of_cons;exact IsL.drop n t
theorem IsL.take:∀{xs:List V} {us:List U} (n:Nat),IsL K m H xs us->IsL K m H (xs.take n) (us.take n)
 |xs,us,0,h=>.nil_
 |xs,[],n+1,h=>by rw[h.of_nil];exact .nil_
 |xs,d::ds,n+1,h=>by
  obtain⟨y,r,rfl,z,t⟩:=h.of_cons;exact .cons_ z (IsL.take n t)
theorem IsL.rep:∀(n:Nat),IsL K m H xs us->IsL K m H (Q9 n xs).flatten (Q9 n us).flatten
 |0,h=>.nil_
 |n+1,h=>by
  rw[Qs,Qs,ZH,ZH];exact h.append (IsL.rep n h)
theorem vw(h:H a=some o)(nt:∀xs,o≠.tup xs)(nf:∀ob xs,o≠.frz ob (.tup xs))(nl:∀ob xs,o≠.frz ob (.lst xs))(nc:∀ob,o≠.frz ob (.own 0))(o':HO):Cn K H (upd H a o'):=by
 refine⟨fun b xs q=>?_,fun b ns q=>?_,fun b ob q=>by rw[aY (fun z=>by subst z;rw[q]at h;cases h;exact nc _ rfl)];exact q⟩
 ·rcases q with(q|⟨ob,q⟩)|q
  ·have n:b≠a:=fun z=>by subst z;rw[q]at h;cases h;exact nt _ rfl
   exact .inl (.inl (by rw[aY n];exact q))
  ·have n:b≠a:=fun z=>by subst z;rw[q]at h;cases h;exact nf _ _ rfl
   exact .inl (.inr ⟨ob,by rw[aY n];exact q⟩)
  ·exact .inr q
 ·rcases q with⟨ob,q⟩|q
  ·have n:b≠a:=fun z=>by subst z;rw[q]at h;cases h;exact nl _ _ rfl
   exact .inl ⟨ob,by rw[aY n];exact q⟩
  ·exact .inr q
theorem cV(s:sJ H H'):Cn K H H':=by
 refine⟨fun b xs q=>?_,fun b ns q=>?_,fun b ob q=>s _ _ q⟩
 ·rcases q with(q|⟨ob,q⟩)|q
  ·exact .inl (.inl (s _ _ q))
  ·exact .inl (.inr ⟨ob,s _ _ q⟩)
  ·exact .inr q
 ·rcases q with⟨ob,q⟩|q
  ·exact .inl ⟨ob,s _ _ q⟩
  ·exact .inr q
def dU(h:H q=none)(o':HO):Cn K H (upd H q o'):=cV (cS h o')
end
abbrev NK:=List (List Int)
def hNK(ks:NK):Int:=reduceHash (Builtin.Tuple.tupleHashOf (ks.map fun k=>reduceHash (Builtin.Tuple.tupleHashOf (k.map hashInt))))
abbrev KN:List ((NK×Addr)×V)->List (NK×Addr×Q2)->Prop:=Paired fun p q=>p.1.1=q.1/\p.1.2=q.2.1/\dD p.2 q.2.2
def dNo(a:Addr)(kvs:List ((NK×Addr)×V)):HO:=.ext fun h=>kvs.length<=QB/\(a == sysModules)=false/\∃xs,KN kvs xs/\
 ∃o es ep,h.get? a=some o/\o.ExactDict/\o.data=.dict es ep/\es.toList=(xs.map fun x=>(⟨hNK x.1,.ref x.2.1,x.2.2⟩:DictEntry))/\(xs.map (·.1)).Nodup
def Kz(K:Q1)(H:Hp)(b:Addr)(k:NK):Prop:=∃cs:List Addr,SqT K H b (cs.map V.ref)/\Paired (fun(l:List Int) c=>SqT K H c (l.map V.int)) k cs
theorem Kz.mono{K:Q1}{H H':Hp}{b:Addr}{k:NK}(e:Cn K H H')(h:Kz K H b k):Kz K H' b k:=let ⟨cs,p,q⟩:=h;⟨cs,e.t _ _ p,Paired.mapP q fun _ _ z=>e.t _ _ z⟩
def nP(kvs:List ((NK×Addr)×V)):List (NK×V):=kvs.map fun p=>(p.1.1,p.2)
def IsP{κ:Type}(K:Q1)(m:List Addr)(H:Hp)(kvs:List (κ×V))(kus:List (κ×U)):Prop:=kvs.map (·.1)=kus.map (·.1)/\IsL K m H (kvs.map (·.2)) (kus.map (·.2))
def Rf(K:Q1)(m:List Addr)(H:Hp):Option V->Option U->Prop
 |some v,some u=>Is K m H v u
 |none,none=>True
 |_,_=>False
structure InF(K:Q1)(m:List Addr)(H:Hp)(c:Cl)(fs:List (Str×V))(fus:List (Option U)):Prop where
 nd:c.ns.Nodup
 few:c.ns.length<1000
 knd:(fs.map (·.1)).Nodup
 sub:∀x∈fs.map (·.1),x∈c.ns
 len:fus.length=c.ns.length
 at_:∀(i:Nat) (x:Str),c.ns[i]?=some x->Rf K m H (fs.lookup x) ((fus[i]?).join)
theorem Rf.mono{K:Q1}{m m':List Addr}{H H':Hp}{v:Option V}{u:Option U}(e:Ext K m H m' H')(h:Rf K m H v u):Rf K m' H' v u:=by
 cases v with
 |none=>cases u with
  |none=>trivial
  |some u=>exact h.elim
 |some v=>cases u with
  |none=>exact h.elim
  |some u=>exact Is.mono e h
theorem InF.mono{K:Q1}{m m':List Addr}{H H':Hp}{c:Cl}{fs:List (Str×V)}{fus:List (Option U)}(e:Ext K m H m' H')(h:InF K m H c fs fus):InF K m' H' c fs fus:=⟨h.nd,h.few,h.knd,h.sub,h.len,fun i x q=>(h.at_ i x q).mono e⟩
def Ci(H:Hp)(pos:Pos)(q:Str)(ps:Array Q2):Prop:=TriplesOk ps.toList/\(codeAmong pos ps.toList=none\/∃c ob vs t,codeAmong pos ps.toList=some (.ref c)/\H c=some (.frz ob (.own 0))/\ob.data=.fields vs/\vs[1]?=some (.str q t))
theorem Ci.mono{K:Q1}{H H':Hp}{pos:Pos}{q:Str}{ps:Array Q2}(e:Cn K H H')(h:Ci H pos q ps):Ci H' pos q ps:=⟨h.1,h.2.imp id fun⟨c,ob,vs,t,h1,h2,h3⟩=>⟨c,ob,vs,t,h1,e.c _ _ h2,h3⟩⟩
def Kf(a C:Addr):HO:=.ext fun h=>∃o,h.get? a=some o/\o.cls=.ref C/\o.dict=none/\∃vs,o.data=.fields vs
def vI(a C dx:Addr):HO:=.ext fun h=>∃o,h.get? a=some o/\o.cls=.ref C/\o.dict=some dx/\∃vs,o.data=.fields vs
def sM(o:Obj)(mA:Str->Option Q2):Prop:=∀(h:Heap) (d:Addr),h.get? d=some o->h.Ns1 d mA
def Ob(K:Q1)(m:List Addr)(H:Hp)(a:Addr):O->Prop
 |.lst us=>∃xs,H a=some (.lst xs)/\IsL K m H xs us
 |.dic kus=>∃kvs,H a=some (.dK kvs)/\IsP K m H kvs kus
 |.ins c fus=>∃dx fs,H a=some (.ins c.C dx fs)/\InF K m H c fs fus
 |.fdc ep kus=>∃ob es kvs,H a=some (.frz ob (.dK kvs))/\ob.data=.dict es ep/\IsP K m H kvs kus
 |.dit kus=>∃kvs,H a=some (.dT kvs)/\IsP K m H kvs kus
 |.fdt ep kus=>∃ob es kvs,H a=some (.frz ob (.dT kvs))/\ob.data=.dict es ep/\IsP K m H kvs kus
 |.dnt kus=>∃kvs,H a=some (dNo a kvs)/\(∀p∈kvs,Kz K H p.1.2 p.1.1)/\IsP K m H (nP kvs) kus
 |.fdn ep kus=>∃ob es kvs,H a=some (.frz ob (dNo a kvs))/\ob.data=.dict es ep/\(∀p∈kvs,Kz K H p.1.2 p.1.1)/\IsP K m H (nP kvs) kus
 |.cod p pos q=>a=p/\∃ps,H a=some (.tbl ps)/\Ci H pos q ps
 |.exc C=>H a=some (Kf a C)
 |.xat C n=>∃dx ob t,H a=some (vI a C dx)/\H dx=some (.frz ob (.own 0))/\sM ob fun y=>if y="at" then some (.int n t)else none
structure Sr(K:Q1)(m:List Addr)(S:Sto)(H:Hp):Prop where
 len:m.length=S.length
 nd:m.Nodup
 ob:∀(l:Nat) (a:Addr) (o:O),m[l]?=some a->S[l]?=some o->Ob K m H a o
structure Lr(K:Q1)(m:List Addr)(H:Hp)(ρ:Rho)(σ:L2.St):Prop where
 len:ρ.length=σ.length
 at_:∀(i:Nat) (u:U),ρ[i]?=some (some u)->∃v,σ[i]?=some (some v)/\Is K m H v u
section
variable{κ:Type}{K:Q1}{m m':List Addr}{H H':Hp}{S:Sto}{ρ:Rho}{σ:L2.St}{a q:Addr}{l:Nat}{o:O}{ho:HO}{us:List U}{v:V}{u:U}{kvs:List (κ×V)}{kus:List (κ×U)}
def IsP.mono(e:Ext K m H m' H')(h:IsP K m H kvs kus):IsP K m' H' kvs kus:=⟨h.1,h.2.mono e⟩
def IsP.length(h:IsP K m H kvs kus):kvs.length=kus.length:=by have:=h.2.length;simpa using this
def IsP.nil_:IsP (κ:=κ) K m H [] []:=⟨rfl,.nil_⟩
theorem IsP.cons_{k:κ}(h:Is K m H v u)(t:IsP K m H kvs kus):IsP K m H ((k,v)::kvs) ((k,u)::kus):=⟨by simp[t.1],.cons_ h t.2⟩
theorem IsP.ind{P:List (κ×V)->List (κ×U)->Prop}(h0:P [] [])(h1:∀k v u kvs kus,Is K m H v u->IsP K m H kvs kus->P kvs kus->P ((k,v)::kvs) ((k,u)::kus)):∀{kvs:List (κ×V)} {kus:List (κ×U)},IsP K m H kvs kus->P kvs kus
 |[],[],_=>h0
 |[],p::r,h=>by have:=h.length;simp at this
 |p::r,[],h=>by have:=h.length;simp at this
 |(k,v)::r,(k',u)::r',h=>by
  obtain⟨e,i⟩:=h;simp only[QF,List.cons.injEq]at e;obtain⟨e1,e2⟩:=e;subst e1;obtain⟨x,t,e3,iu,it⟩:=i.of_cons;cases e3;exact h1 k v u r r' iu ⟨e2,it⟩ (IsP.ind h0 h1 (⟨e2,it⟩:IsP K m H r r'))
theorem Ob.mono(e:Ext K m H m' H')(h1:H' a=H a)(h:Ob K m H a o):Ob K m' H' a o:=by
 cases o with
 |lst us=>obtain⟨xs,k,i⟩:=h;exact⟨xs,h1.trans k,i.mono e⟩
 |dic kus=>obtain⟨xs,k,i⟩:=h;exact⟨xs,h1.trans k,i.mono e⟩
 |ins C fus=>obtain⟨dx,fs,k,i⟩:=h;exact⟨dx,fs,h1.trans k,i.mono e⟩
 |fdc ep kus=>obtain⟨ob,es,kvs,k,d,i⟩:=h;exact⟨ob,es,kvs,h1.trans k,d,i.mono e⟩
 |dit kus=>obtain⟨xs,k,i⟩:=h;exact⟨xs,h1.trans k,i.mono e⟩
 |fdt ep kus=>obtain⟨ob,es,kvs,k,d,i⟩:=h;exact⟨ob,es,kvs,h1.trans k,d,i.mono e⟩
 |dnt kus=>obtain⟨kvs,k,y,i⟩:=h;exact⟨kvs,h1.trans k,fun p hp=>(y p hp).mono e.keep,i.mono e⟩
 |fdn ep kus=>obtain⟨ob,es,kvs,k,d,y,i⟩:=h;exact⟨ob,es,kvs,h1.trans k,d,fun p hp=>(y p hp).mono e.keep,i.mono e⟩
 |cod p pos q=>obtain⟨z,ps,k,i⟩:=h;exact⟨z,ps,h1.trans k,i.mono e.keep⟩
 |exc C=>exact h1.trans h
 |xat C n=>obtain⟨dx,ob,t,k,d,x⟩:=h;exact⟨dx,ob,t,h1.trans k,e.keep.c _ _ d,x⟩
theorem Ob.some(h:Ob K m H a o):∃ho,H a=some ho/\(∀xs,ho≠.tup xs)/\(∀ob xs,ho≠.frz ob (.tup xs))/\(∀ob xs,ho≠.frz ob (.lst xs))/\(∀ob,ho≠.frz ob (.own 0)):=by
 cases o with
 |lst us=>obtain⟨xs,k,i⟩:=h;exact⟨_,k,by simp,by simp,by simp,by simp⟩
 |dic kus=>obtain⟨xs,k,i⟩:=h;exact⟨_,k,by simp,by simp,by simp,by simp⟩
 |ins C fus=>obtain⟨dx,fs,k,i⟩:=h;exact⟨_,k,by simp,by simp,by simp,by simp⟩
 |fdc ep kus=>obtain⟨ob,es,kvs,k,d,i⟩:=h;exact⟨_,k,by simp,by simp,by simp,by simp⟩
 |dit kus=>obtain⟨xs,k,i⟩:=h;exact⟨_,k,by simp,by simp,by simp,by simp⟩
 |fdt ep kus=>obtain⟨ob,es,kvs,k,d,i⟩:=h;exact⟨_,k,by simp,by simp,by simp,by simp⟩
 |dnt kus=>obtain⟨kvs,k,y,i⟩:=h;exact⟨_,k,by simp[dNo],by simp[dNo],by simp[dNo],by simp[dNo]⟩
 |fdn ep kus=>obtain⟨ob,es,kvs,k,d,y,i⟩:=h;exact⟨_,k,by simp,by simp[dNo],by simp[dNo],by simp[dNo]⟩
 |cod p pos q=>obtain⟨z,ps,k,i⟩:=h;exact⟨_,k,by simp,by simp,by simp,by simp⟩
 |exc C=>exact⟨_,h,by simp[Kf],by simp[Kf],by simp[Kf],by simp[Kf]⟩
 |xat C n=>obtain⟨dx,ob,t,k,d,x⟩:=h;exact⟨_,k,by simp[vI],by simp[vI],by simp[vI],by simp[vI]⟩
theorem Lr.mono(e:Ext K m H m' H')(h:Lr K m H ρ σ):Lr K m' H' ρ σ:=⟨h.len,fun i u e1=>let ⟨v,e2,e3⟩:=h.at_ i u e1;⟨v,e2,e3.mono e⟩⟩
theorem Lr.set(h:Lr K m H ρ σ)(i:Nat)(hv:Is K m H v u):Lr K m H (ρ.set i (some u)) (σ.set i (some v)):=by
 refine⟨by simp[h.len],fun j w e=>?_⟩;by_cases c:i=j
 ·subst c;rw[List.getElem?_set_self' ]at e;rw[List.getElem?_set_self'];have hl:=h.len;cases e1:ρ[i]? with
  |none=>rw[e1]at e;simp at e
  |some z=>
   rw[e1]at e;simp at e;subst e;have:i < σ.length:=by rw[<-hl];exact(Q6.mp e1).1
   rw[Qr this];exact⟨v,rfl,hv⟩
 ·rw[QM c]at e;rw[QM c];exact h.at_ j w e
theorem Sr.get(r:Sr K m S H)(h:S[l]?=some o):∃a,m[l]?=some a/\Ob K m H a o:=by
 have hl:l<m.length:=by rw[r.len];exact(Q6.mp h).1
 exact⟨_,Qr hl,r.ob _ _ _ (Qr hl) h⟩
theorem Sr.at_(r:Sr K m S H)(h:m[l]?=some a):∃o,S[l]?=some o/\Ob K m H a o:=by
 have hl:l<S.length:=by rw[<-r.len];exact(Q6.mp h).1
 exact⟨_,Qr hl,r.ob _ _ _ h (Qr hl)⟩
theorem Sr.same(r:Sr K m S H)(s:sJ H H'):Sr K m S H':=⟨r.len,r.nd,fun l a o h1 h2=>by
 have q:=r.ob l a o h1 h2;obtain⟨ho,e,_⟩:=q.some;exact q.mono (.of (cV s)) (by rw[s _ _ e,e])⟩
theorem Sr.new(r:Sr K m S H)(h:H q=none)(n:Ob K (m++[q]) (upd H q ho) q o):Sr K (m++[q]) (S++[o]) (upd H q ho):=by
 have hq:q∉m:=fun z=>by
  obtain⟨l,e⟩:=List.getElem?_of_mem z;obtain⟨o,_,k⟩:=r.at_ e;obtain⟨ho,e2,_⟩:=k.some;rw[h]at e2;cases e2
 refine⟨by simp[r.len],?_,fun l a o' h1 h2=>?_⟩
 ·rw[List.nodup_append];exact⟨r.nd,by simp,fun x hx y hy z=>by simp at hy;subst hy;subst z;exact hq hx⟩
 ·by_cases c:l<m.length
  ·rw[Qx c]at h1;rw[Qx (by rw[<-r.len];exact c)]at h2;have q':=r.ob l a o' h1 h2;obtain⟨ho',e,_⟩:=q'.some;exact q'.mono (.new (dU h _)) (by rw[aY (dS e h)])
  ·have e:l=m.length:=by
    have:=(Q6.mp h1).1;simp at this;omega
   subst e;rw[Qb (QU _)]at h1;rw[Qb (by rw[r.len];exact QU _)]at h2;simp[r.len]at h1 h2;subst h1;subst h2;exact n
theorem Sr.put(r:Sr K m S H)(h:m[l]?=some a)(n:Ob K m (upd H a ho) a o):Sr K m (S.set l o) (upd H a ho):=by
 obtain⟨o0,h0,k0⟩:=r.at_ h;obtain⟨ho',e,nt,nf,nl,nc⟩:=k0.some;refine⟨by simp[r.len],r.nd,fun l' a' o' h1 h2=>?_⟩;by_cases c:l=l'
 ·subst c;rw[h]at h1;cases h1;rw[ZK (Q6.mp h0).1]at h2;cases h2;exact n
 ·rw[QM c]at h2;have na:a'≠a:=fun z=>by
   subst z;obtain⟨p1,e1⟩:=Q6.mp h;obtain⟨p2,e2⟩:=Q6.mp h1;exact c ((List.getElem_inj r.nd).mp (e1.trans e2.symm))
  exact(r.ob l' a' o' h1 h2).mono (.of (vw e nt nf nl nc _)) (by rw[aY na])
theorem Sr.keep(r:Sr K m S H)(h:m[l]?=some a)(ho:HO):Cn K H (upd H a ho):=by
 obtain⟨o0,h0,k0⟩:=r.at_ h;obtain⟨ho',e,nt,nf,nl,nc⟩:=k0.some;exact vw e nt nf nl nc _
end
def kJ(K:Q1)(m:List Addr)(H:Hp)(Q:VK)(u:U)(S':Sto):Prop:=∀m' v H',Ext K m H m' H'->Sr K m' S' H'->Is K m' H' v u->Q v H'
abbrev CE:=Rho->Sto->Option (U×Sto)
abbrev CT:=Rho->Sto->Option (Bool×Sto)
abbrev CA:=Rho->Sto->Option (List U×Sto)
inductive Out where
 |nx|rt (u:U)|bk|ct
abbrev CS:=Rho->Sto->Option (Out×Rho×Sto)
def Cj(K:Q1)(m:List Addr)(H:Hp)(Q:Bool->Hp->Prop)(b:Bool)(S':Sto):Prop:=∀m' H',Ext K m H m' H'->Sr K m' S' H'->Q b H'
def NF(K:Q1)(m:List Addr)(H:Hp)(Q:List V->Hp->Prop)(us:List U)(S':Sto):Prop:=∀m' vs H',Ext K m H m' H'->Sr K m' S' H'->IsL K m' H' vs us->Q vs H'
def j5(K:Q1)(m:List Addr)(H:Hp)(Q:L2.St->Hp->Prop)(ρ':Rho)(S':Sto):Prop:=∀m' σ' H',Ext K m H m' H'->Sr K m' S' H'->Lr K m' H' ρ' σ'->Q σ' H'
def wX(K:Q1)(m:List Addr)(H:Hp)(D:Aj):Out->Rho->Sto->Prop
 |.nx,ρ',S'=>j5 K m H D.nx ρ' S'
 |.bk,ρ',S'=>j5 K m H D.bk ρ' S'
 |.ct,ρ',S'=>j5 K m H D.ct ρ' S'
 |.rt u,_,S'=>kJ K m H D.rt u S'
theorem my{α β γ δ ε:Type}{A B C D:α->β->γ->δ->ε->Prop}{p:Prop}(h:∃a b c d e,A a b c d e/\B a b c d e/\C a b c d e/\D a b c d e)(f:∀a b c d e,A a b c d e->B a b c d e->C a b c d e->D a b c d e->p):p:=by
 obtain⟨a,b,c,d,e,h1,h2,h3,h4⟩:=h;exact f a b c d e h1 h2 h3 h4
theorem ux{α β γ δ ε ζ:Type}{A B C D:α->β->γ->δ->ε->ζ->Prop}{p:Prop}(h:∃a b c d e g,A a b c d e g/\B a b c d e g/\C a b c d e g/\D a b c d e g)(f:∀a b c d e g,A a b c d e g->B a b c d e g->C a b c d e g->D a b c d e g->p):p:=by
 obtain⟨a,b,c,d,e,g,h1,h2,h3,h4⟩:=h;exact f a b c d e g h1 h2 h3 h4
theorem Om{α β γ δ ε ζ:Type}{A B C D E:α->β->γ->δ->ε->ζ->Prop}{p:Prop}(h:∃a b c d e g,A a b c d e g/\B a b c d e g/\C a b c d e g/\D a b c d e g/\E a b c d e g)(f:∀a b c d e g,A a b c d e g->B a b c d e g->C a b c d e g->D a b c d e g->E a b c d e g->p):p:=by
 obtain⟨a,b,c,d,e,g,h1,h2,h3,h4,h5⟩:=h;exact f a b c d e g h1 h2 h3 h4 h5
def tE(K:Q1)(c:CE):TE:=fun σ H Q=>∃m ρ S u S',Sr K m S H/\Lr K m H ρ σ/\c ρ S=some (u,S')/\kJ K m H Q u S'
def tT(K:Q1)(c:CT):TT:=fun σ H Q=>∃m ρ S u S',Sr K m S H/\Lr K m H ρ σ/\c ρ S=some (u,S')/\Cj K m H Q u S'
def tA(K:Q1)(c:CA):TA:=fun σ H Q=>∃m ρ S u S',Sr K m S H/\Lr K m H ρ σ/\c ρ S=some (u,S')/\NF K m H Q u S'
def tS(K:Q1)(c:CS):TS:=fun D σ H=>∃m ρ S o ρ' S',Sr K m S H/\Lr K m H ρ σ/\c ρ S=some (o,ρ',S')/\wX K m H D o ρ' S'
abbrev QE(X:Cx)(e:QK)(c:CE):Prop:=WE X e (tE X.K c)
abbrev QT(X:Cx)(e:QK)(c:CT):Prop:=WT X e (tT X.K c)
abbrev QW(X:Cx)(e:QK)(c:CT):Prop:=WW X e (tT X.K c)
abbrev QS(X:Cx)(e:Qg)(c:CS):Prop:=WS X e (tS X.K c)
abbrev QSs(X:Cx)(e:List Qg)(c:CS):Prop:=WSs X e (tS X.K c)
structure QA(X:Cx)(es:List QK)(c:CA):Prop where
 h:WA X es (tA X.K c)
 len:∀ρ S us S',c ρ S=some (us,S')->us.length=es.length
section
variable{X:Cx}{e:QK}{es:List QK}{st:Qg}{sts:List Qg}
theorem _root_.OG.WE.imp{t t':TE}(h:WE X e t)(i:∀σ H Q,t' σ H Q->t σ H Q):WE X e t':=⟨fun pins s σ H Q I k=>h.h pins s σ H Q I (i σ H Q k)⟩
theorem _root_.OG.WT.imp{t t':TT}(h:WT X e t)(i:∀σ H Q,t' σ H Q->t σ H Q):WT X e t':=⟨fun pins s σ H Q I k=>h.h pins s σ H Q I (i σ H Q k)⟩
theorem _root_.OG.WW.imp{t t':TT}(h:WW X e t)(i:∀σ H Q,t' σ H Q->t σ H Q):WW X e t':=⟨fun wh pins s σ H Q I k=>h.h wh pins s σ H Q I (i σ H Q k)⟩
theorem _root_.OG.WA.imp{t t':TA}(h:WA X es t)(i:∀σ H Q,t' σ H Q->t σ H Q):WA X es t':=⟨fun pos pins s σ H Q I k=>h.h pos pins s σ H Q I (i σ H Q k)⟩
theorem _root_.OG.WS.imp{t t':TS}(h:WS X st t)(i:∀D σ H,t' D σ H->t D σ H):WS X st t':=⟨fun pins s σ H D I k=>h.h pins s σ H D I (i D σ H k)⟩
theorem _root_.OG.WSs.imp{t t':TS}(h:WSs X sts t)(i:∀D σ H,t' D σ H->t D σ H):WSs X sts t':=⟨fun pins s σ H D I k=>h.h pins s σ H D I (i D σ H k)⟩
theorem _root_.OG.WI.imp{tg:QK}{t t':TI}(h:WI X tg e t)(i:∀σ H R,t' σ H R->t σ H R):WI X tg e t':=⟨fun pins s σ H R I k=>h.h pins s σ H R I (i σ H R k)⟩
theorem _root_.OG.WG.imp{t t':TG}(h:WG X e t)(i:∀v σ H Q,t' v σ H Q->t v σ H Q):WG X e t':=⟨fun pins s σ H v u Q I r k=>h.h pins s σ H v u Q I r (i v σ H Q k)⟩
theorem _root_.OG.WGs.imp{t t':TGs}(h:WGs X es t)(i:∀v σ H Q,t' v σ H Q->t v σ H Q):WGs X es t':=⟨fun pins s σ H v u Q I r k=>h.h pins s σ H v u Q I r (i v σ H Q k)⟩
theorem _root_.OG.WE.or{t t':TE}(h:WE X e t)(h':WE X e t'):WE X e (fun σ H Q=>t σ H Q\/t' σ H Q):=⟨fun pins s σ H Q I k=>k.elim (h.h pins s σ H Q I) (h'.h pins s σ H Q I)⟩
theorem _root_.OG.WS.or{t t':TS}(h:WS X st t)(h':WS X st t'):WS X st (fun D σ H=>t D σ H\/t' D σ H):=⟨fun pins s σ H D I k=>k.elim (h.h pins s σ H D I) (h'.h pins s σ H D I)⟩
theorem _root_.OG.WI.or{tg:QK}{t t':TI}(h:WI X tg e t)(h':WI X tg e t'):WI X tg e (fun σ H D=>t σ H D\/t' σ H D):=⟨fun pins s σ H D I k=>k.elim (h.h pins s σ H D I) (h'.h pins s σ H D I)⟩
end
section
variable{K:Q1}{m m':List Addr}{H H':Hp}{Q:VK}{R:L2.St->Hp->Prop}{D:Aj}{u:U}{o:Out}{S':Sto}{ρ':Rho}
def kJ.mono(e:Ext K m H m' H')(p:kJ K m H Q u S'):kJ K m' H' Q u S':=fun m2 v H2 e2 r i=>p m2 v H2 (e.trans e2) r i
theorem Cj.mono{Q:Bool->Hp->Prop}{b:Bool}(e:Ext K m H m' H')(p:Cj K m H Q b S'):Cj K m' H' Q b S':=fun m2 H2 e2 r=>p m2 H2 (e.trans e2) r
theorem j5.mono(e:Ext K m H m' H')(p:j5 K m H R ρ' S'):j5 K m' H' R ρ' S':=fun m2 v H2 e2 r i=>p m2 v H2 (e.trans e2) r i
theorem wX.mono(e:Ext K m H m' H')(p:wX K m H D o ρ' S'):wX K m' H' D o ρ' S':=by
 cases o with
 |nx=>exact j5.mono e p
 |rt u=>exact kJ.mono e p
 |bk=>exact j5.mono e p
 |ct=>exact j5.mono e p
end
def LIM:Nat:=100000
def lim{n:Nat}(h:n<=LIM):n<=QB:=Qk h (by unfold LIM QB;decide)
def MZ{n:Nat}(h:n<LIM):n<QB:=Qv h (by unfold LIM QB;decide)
def ah(i:Nat):CE:=fun ρ S=>match ρ[i]? with
 |some (some u)=>some (u,S)
 |_=>none
def cC(u:U):CE:=fun _ S=>some (u,S)
section
variable{X:Cx}{e a b c:QK}{ca cb cc:CE}{pos:Pos}
theorem ak{i:Nat}(h:WE X e (KP i)):QE X e (ah i):=h.imp fun σ H Q hz=>my hz fun m ρ S u S' sr lr hc post=>by
 unfold ah at hc;split at hc
 ·rename_i u' e;cases hc;obtain⟨v,e1,e2⟩:=lr.at_ i u e;exact⟨v,e1,post m v H .refl sr e2⟩
 ·cases hc
theorem q_c{v:V}{u:U}(h:WE X e (tC v))(hi:∀m H,Is X.K m H v u):QE X e (cC u):=h.imp fun σ H Q hz=>my hz fun m ρ S u' S' sr lr hc post=>by
 cases hc;exact post m v H .refl sr (hi m H)
def aE{i:Int}(h:WE X e (tC (.int i))):QE X e (cC (.int i)):=q_c h fun _ _=>.int_
def w6{i:Bool}(h:WE X e (tC (.bl i))):QE X e (cC (.bl i)):=q_c h fun _ _=>.bl_
def aM{i:Str}(h:WE X e (tC (.str i))):QE X e (cC (.str i)):=q_c h fun _ _=>.str_
def kq(h:WE X e (tC .non)):QE X e (cC .non):=q_c h fun _ _=>.non_
def cOp(f:U->U->Sto->Option (U×Sto))(ca cb:CE):CE:=fun ρ S=>(ca ρ S).bind fun p=>(cb ρ p.2).bind fun q=>f p.1 q.1 q.2
def OpP(K:Q1)(r:R2)(f:U->U->Sto->Option (U×Sto)):Prop:=
 ∀m S H x y v w u S' Q,Sr K m S H->Is K m H v x->Is K m H w y->f x y S=some (u,S')->kJ K m H Q u S'->r v w H Q
theorem rq{K:Q1}{r:R2}{f:U->U->Sto->Option (U×Sto)}(hp:OpP K r f):∀σ H Q,tE K (cOp f ca cb) σ H Q->tOp r (tE K ca) (tE K cb) σ H Q:=by
 rintro σ H Q ⟨m,ρ,S,u,S',sr,lr,hc,post⟩;obtain⟨⟨x,S1⟩,h1,h⟩:=Q0.mp hc;obtain⟨⟨y,S2⟩,h2,h3⟩:=Q0.mp h;exact⟨m,ρ,S,x,S1,sr,lr,h1,fun m1 v1 H1 e1 sr1 i1=>⟨m1,ρ,S1,y,S2,sr1,lr.mono e1,h2,fun m2 v2 H2 e2 sr2 i2=>hp m2 S2 H2 x y v1 v2 u S' Q sr2 (i1.mono e2) i2 h3 (post.mono (e1.trans e2))⟩⟩
theorem bZ{op:Operator}{r:R2}{f:U->U->Sto->Option (U×Sto)}(ho:OpR X (binaryOp op) r)(hp:OpP X.K r f)(ha:QE X a ca)(hb:QE X b cb):QE X (.BinOp a op b pos) (cOp f ca cb):=(Hy ho ha hb).imp (rq hp)
theorem fM{op:CmpOp}{r:R2}{f:U->U->Sto->Option (U×Sto)}(ho:OpR X (compareOp op) r)(hp:OpP X.K r f)(ha:QE X a ca)(hb:QE X b cb)(hm:behindInMarks op b=false):QE X (.Compare a [op] [b] pos) (cOp f ca cb):=(pH ho ha hb hm).imp (rq hp)
def aL(c:CE):CT:=fun ρ S=>(c ρ S).bind fun p=>match p.1 with
 |.bl b=>some (b,p.2)
 |_=>none
theorem uW{K:Q1}{c:CE}{t:TE}(h:∀σ H Q,tE K c σ H Q->t σ H Q):∀σ H Q,tT K (aL c) σ H Q->t σ H fun x H'=>∃k,x=.bl k/\Q k H':=by
 rintro σ H Q ⟨m,ρ,S,u,S',sr,lr,hc,post⟩;obtain⟨⟨x,S1⟩,h1,h2⟩:=Q0.mp hc;refine h σ H _ ⟨m,ρ,S,x,S1,sr,lr,h1,fun m1 v1 H1 e1 sr1 i1=>?_⟩;cases x<;>simp at h2;obtain⟨rfl,rfl⟩:=h2;exact⟨_,i1.of_bl,post m1 H1 e1 sr1⟩
theorem aW{op:CmpOp}{r:R2}{f:U->U->Sto->Option (U×Sto)}(ho:OpR X (compareOp op) r)(hp:OpP X.K r f)(ha:QE X a ca)(hb:QE X b cb)(hm:behindInMarks op b=false):QT X (.Compare a [op] [b] pos) (aL (cOp f ca cb)):=(Aw ho ha hb hm).imp (uW (rq hp))
theorem iJ(h:QE X e ca)(he:∀whole,isTrue e X.env whole=(do let v <-whole;standAt e.pos;holding [v] (truthy v)):=by intro _;rfl):QT X e (aL ca):=(DP h he).imp (uW fun _ _ _ z=>z)
variable{ta tb:CT}{rest:List QK}
def qu(ta tb:CT):CT:=fun ρ S=>(ta ρ S).bind fun p=>if p.1=true then tb ρ p.2 else some (false,p.2)
def cOr(ta tb:CT):CT:=fun ρ S=>(ta ρ S).bind fun p=>if p.1=true then some (true,p.2)else tb ρ p.2
def wV(ta:CT):CT:=fun ρ S=>(ta ρ S).bind fun p=>some (!p.1,p.2)
def yr(h:QW X e ta):QT X e ta:=WW.pt h
def o9(ha:QT X a ta):QW X (.BoolOp .And [a] pos) ta:=Av ha
def yt(ha:QT X a ta):QW X (.BoolOp .Or [a] pos) ta:=DN ha
theorem p7(ha:QT X a ta)(hb:QW X (.BoolOp .And (b::rest) pos) tb):QW X (.BoolOp .And (a::b::rest) pos) (qu ta tb):=(DO ha hb).imp fun σ H Q hz=>my hz fun m ρ S u S' sr lr hc post=>by
 obtain⟨⟨x,S1⟩,h1,h2⟩:=Q0.mp hc;refine⟨m,ρ,S,x,S1,sr,lr,h1,fun m1 H1 e1 sr1=>?_⟩;cases x with
 |true=>exact Dd ⟨m1,ρ,S1,u,S',sr1,lr.mono e1,h2,post.mono e1⟩
 |false=>cases h2;exact FO (post m1 H1 e1 sr1)
theorem CQ(ha:QT X a ta)(hb:QW X (.BoolOp .Or (b::rest) pos) tb):QW X (.BoolOp .Or (a::b::rest) pos) (cOr ta tb):=(Hv ha hb).imp fun σ H Q hz=>my hz fun m ρ S u S' sr lr hc post=>by
 obtain⟨⟨x,S1⟩,h1,h2⟩:=Q0.mp hc;refine⟨m,ρ,S,x,S1,sr,lr,h1,fun m1 H1 e1 sr1=>?_⟩;cases x with
 |true=>cases h2;exact Dd (post m1 H1 e1 sr1)
 |false=>exact FO ⟨m1,ρ,S1,u,S',sr1,lr.mono e1,h2,post.mono e1⟩
theorem ko(ha:QT X a ta):QT X (.UnaryOp .Not a pos) (wV ta):=(DQ ha).imp fun σ H Q hz=>my hz fun m ρ S u S' sr lr hc post=>by
 obtain⟨⟨x,S1⟩,h1,h2⟩:=Q0.mp hc;cases h2;exact⟨m,ρ,S,x,_,sr,lr,h1,fun m1 H1 e1 sr1=>post m1 H1 e1 sr1⟩
def gI(ca cb:CE):CE:=fun ρ S=>(ca ρ S).bind fun p=>match p.1 with
 |.bl true=>cb ρ p.2
 |.bl false=>some (.bl false,p.2)
 |_=>none
def Oo(ca cb:CE):CE:=fun ρ S=>(ca ρ S).bind fun p=>match p.1 with
 |.bl false=>cb ρ p.2
 |.bl true=>some (.bl true,p.2)
 |_=>none
def uG(ca:CE):CE:=fun ρ S=>(ca ρ S).bind fun p=>match p.1 with
 |.bl b=>some (.bl (!b),p.2)
 |_=>none
def tQ{op}(h:QE X a ca):QE X (.BoolOp op [a] pos) ca:=DX h
theorem nI(ha:QE X a ca)(hb:QE X (.BoolOp .And (b::rest) pos) cb):QE X (.BoolOp .And (a::b::rest) pos) (gI ca cb):=(D2 ha hb).imp fun σ H Q hz=>my hz fun m ρ S u S' sr lr hc post=>by
 obtain⟨⟨x,S1⟩,h1,h2⟩:=Q0.mp hc;refine⟨m,ρ,S,x,S1,sr,lr,h1,fun m1 v1 H1 e1 sr1 i1=>?_⟩;cases x with
 |bl k=>
  refine⟨k,i1.of_bl,?_⟩;cases k with
  |true=>exact Dd ⟨m1,ρ,S1,u,S',sr1,lr.mono e1,h2,post.mono e1⟩
  |false=>cases h2;exact FO (post m1 _ H1 e1 sr1 .bl_)
 |_=>simp at h2
theorem IH(ha:QE X a ca):QE X (.UnaryOp .Not a pos) (uG ca):=(DY ha).imp fun σ H Q hz=>my hz fun m ρ S u S' sr lr hc post=>by
 obtain⟨⟨x,S1⟩,h1,h2⟩:=Q0.mp hc;refine⟨m,ρ,S,x,S1,sr,lr,h1,fun m1 v1 H1 e1 sr1 i1=>?_⟩;cases x with
 |bl k=>cases h2;exact⟨k,i1.of_bl,post m1 _ H1 e1 sr1 .bl_⟩
 |_=>simp at h2
def cIf(t:CT)(ca cb:CE):CE:=fun ρ S=>(t ρ S).bind fun p=>if p.1=true then ca ρ p.2 else cb ρ p.2
def ji(f f':U->U->Sto->Option (U×Sto))(ca cb cc:CE):CE:=fun ρ S=>(ca ρ S).bind fun p=>(cb ρ p.2).bind fun q=>(f p.1 q.1 q.2).bind fun r=>match r.1 with
 |.bl true=>(cc ρ r.2).bind fun z=>f' q.1 z.1 z.2
 |.bl false=>some (.bl false,r.2)
 |_=>none
theorem zQ{K:Q1}{r r':R2}{f f':U->U->Sto->Option (U×Sto)}(hp:OpP K r f)(hp':OpP K r' f'):∀σ H Q,tE K (ji f f' ca cb cc) σ H Q->xY r r' (tE K ca) (tE K cb) (tE K cc) σ H Q:=by
 rintro σ H Q ⟨m,ρ,S,u,S',sr,lr,hc,post⟩;obtain⟨⟨x,S1⟩,h1,h⟩:=Q0.mp hc;obtain⟨⟨y,S2⟩,h2,h⟩:=Q0.mp h;obtain⟨⟨z,S3⟩,h3,h4⟩:=Q0.mp h;refine⟨m,ρ,S,x,S1,sr,lr,h1,fun m1 v1 H1 e1 sr1 i1=>⟨m1,ρ,S1,y,S2,sr1,lr.mono e1,h2,fun m2 v2 H2 e2 sr2 i2=>hp m2 S2 H2 x y v1 v2 z S3 _ sr2 (i1.mono e2) i2 h3 fun m3 v3 H3 e3 sr3 i3=>?_⟩⟩;have e03:=(e1.trans e2).trans e3;cases z with
 |bl k=>
  refine⟨k,i3.of_bl,?_⟩;cases k with
  |true=>
   obtain⟨⟨w,S4⟩,h5,h6⟩:=Q0.mp h4;exact Dd ⟨m3,ρ,S3,w,S4,sr3,lr.mono e03,h5,fun m4 v4 H4 e4 sr4 i4=>hp' m4 S4 H4 y w v2 v4 u S' Q sr4 (i2.mono (e3.trans e4)) i4 h6 (post.mono (e03.trans e4))⟩
  |false=>cases h4;exact FO (post m3 _ H3 e03 sr3 .bl_)
 |_=>simp at h4
theorem yv{op op':CmpOp}{r r':R2}{f f':U->U->Sto->Option (U×Sto)}(ho:OpR X (compareOp op) r)(hp:OpP X.K r f)(ho':OpR X (compareOp op') r')(hp':OpP X.K r' f')(ha:QE X a ca)(hb:QE X b cb)(hc:QE X c cc)
  (hm:lastMarks [op,op'] [b,c]=false:=by with_unfolding_all rfl):QE X (.Compare a [op,op'] [b,c] pos) (ji f f' ca cb cc):=(xF ho ho' ha hb hc hm).imp (zQ hp hp')
variable{es:List QK}{cr:CA}
def aB:CA:=fun _ S=>some ([],S)
def ae(ca:CE)(cr:CA):CA:=fun ρ S=>(ca ρ S).bind fun p=>(cr ρ p.2).bind fun q=>some (p.1::q.1,q.2)
theorem aD:QA X [] aB:=⟨fU.imp fun σ H Q hz=>my hz fun m ρ S u S' sr lr hc post=>by cases hc;exact post m [] H .refl sr .nil_,fun ρ S us S' h=>by cases h;rfl⟩
theorem ag(ha:QE X e ca)(hr:QA X es cr)(hs:Q7 (e::es) X.env=(false,eval e X.env)::Q7 es X.env:=by rfl):QA X (e::es) (ae ca cr):=⟨(bK ha hr.h hs).imp fun σ H Q hz=>my hz fun m ρ S u S' sr lr hc post=>by
 obtain⟨⟨x,S1⟩,h1,h⟩:=Q0.mp hc;obtain⟨⟨y,S2⟩,h2,h3⟩:=Q0.mp h;cases h3;exact⟨m,ρ,S,x,S1,sr,lr,h1,fun m1 v1 H1 e1 sr1 i1=>⟨m1,ρ,S1,y,S2,sr1,lr.mono e1,h2,fun m2 v2 H2 e2 sr2 i2=>post m2 _ H2 (e1.trans e2) sr2 (.cons_ (i1.mono e2) i2)⟩⟩,
 fun ρ S us S' h=>by
 obtain⟨⟨x,S1⟩,h1,h⟩:=Q0.mp h;obtain⟨⟨y,S2⟩,h2,h3⟩:=Q0.mp h;cases h3;simp[hr.len ρ S1 y S2 h2]⟩
def fY(cr:CA):CE:=fun ρ S=>(cr ρ S).bind fun p=>some (.tup p.1,p.2)
def b7(cr:CA):CE:=fun ρ S=>(cr ρ S).bind fun p=>some (.ref p.2.length,p.2++[.lst p.1])
def h7{m:List Addr}{S:Sto}{q:Addr}(h:m.length=S.length):(m++[q])[S.length]?=some q:=by rw[Qb (by omega)];simp[h]
theorem p8{K:Q1}{m:List Addr}{H:Hp}{S:Sto}{us:List U}{xs:List V}{Q:VK}{p:Addr}(sr:Sr K m S H)(i:IsL K m H xs us)(post:kJ K m H Q (.tup us) S)(hp:H p=none):Q (.ref p) (upd H p (.tup xs)):=
 post m _ _ (.of (dU hp _)) (sr.same (cS hp _)) (.tup_ (SqT.of aU) (i.mono (.of (dU hp _))))
theorem kr{K:Q1}{m:List Addr}{H:Hp}{S:Sto}{us:List U}{xs:List V}{Q:VK}{p:Addr}(sr:Sr K m S H)(i:IsL K m H xs us)(post:kJ K m H Q (.ref S.length) (S++[.lst us]))(hp:H p=none):Q (.ref p) (upd H p (.lst xs)):=
 post (m++[p]) _ _ (.new (dU hp _)) (sr.new hp ⟨xs,aU,i.mono (.new (dU hp _))⟩) (.ref_ (h7 sr.len))
theorem eR{x1}(h:QA X es cr)(hl:es.length<=1000:=by exact Qd rfl):QE X (.Tuple es x1 pos) (fY cr):=(xC h.h).imp fun σ H Q hz=>my hz fun m ρ S u S' sr lr hc post=>by
 obtain⟨⟨us,S1⟩,h1,h2⟩:=Q0.mp hc;cases h2;refine⟨m,ρ,S,us,_,sr,lr,h1,fun m1 v1 H1 e1 sr1 i1=>⟨rb ?_,fun p hp=>p8 sr1 i1 (post.mono e1) hp⟩⟩;rw[i1.length,h.len _ _ _ _ h1];exact hl
theorem dG(h:QA X es cr)(hl:es.length<=1000:=by exact Qd rfl):QE X (.List es pos) (b7 cr):=(xD h.h).imp fun σ H Q hz=>my hz fun m ρ S u S' sr lr hc post=>by
 obtain⟨⟨us,S1⟩,h1,h2⟩:=Q0.mp hc;cases h2;refine⟨m,ρ,S,us,_,sr,lr,h1,fun m1 v1 H1 e1 sr1 i1=>⟨rb ?_,fun p hp=>kr sr1 i1 (post.mono e1) hp⟩⟩;rw[i1.length,h.len _ _ _ _ h1];exact hl
def cCB(f:List U->Sto->Option (U×Sto))(cr:CA):CE:=fun ρ S=>(cr ρ S).bind fun p=>f p.1 p.2
def oR(K:Q1)(r:List V->Hp->VK->Prop)(f:List U->Sto->Option (U×Sto)):Prop:=
 ∀m S H us vs u S' Q,Sr K m S H->IsL K m H vs us->f us S=some (u,S')->kJ K m H Q u S'->r vs H Q
theorem Dp{K:Q1}{r:List V->Hp->VK->Prop}{f:List U->Sto->Option (U×Sto)}(hp:oR K r f):∀σ H Q,tE K (cCB f cr) σ H Q->tCB r (tA K cr) σ H Q:=by
 rintro σ H Q ⟨m,ρ,S,u,S',sr,lr,hc,post⟩;obtain⟨⟨us,S1⟩,h1,h2⟩:=Q0.mp hc;exact⟨m,ρ,S,us,S1,sr,lr,h1,fun m1 v1 H1 e1 sr1 i1=>hp m1 S1 H1 us v1 u S' Q sr1 i1 h2 (post.mono e1)⟩
theorem cD{id:String}{x:Str}{p:Pos}{r:List V->Hp->VK->Prop}{f:List U->Sto->Option (U×Sto)}(hc:f7 X (.builtin id) r)(hp:oR X.K r f)(hg:Gl X x)(hm:X.mg x=none)(hv:Qn x=some (.builtin id))(ha:QA X (e::es) cr)(hn:x≠"__name__":=by decide)(hdb:(x == ("__debug__":Str))=false:=by decide)(he:Q7 (e::es) X.env=(false,eval e X.env)::Q7 es X.env:=by rfl)(hpl:(Qa pos (Q7 es X.env)).any (·.1)=false:=by rfl) :
  QE X (.Call (.Name x p) (e::es) [] pos) (cCB f cr):=(iR hc hg hm hv ha.h hn hdb he hpl).imp (Dp hp)
theorem eS{id:String}{x:Str}{p:Pos}{r:List V->Hp->VK->Prop}{f:List U->Sto->Option (U×Sto)}(hc:f7 X (.type id) r)(hp:oR X.K r f)(hg:Gl X x)(hm:X.mg x=none)(hv:Qn x=some (.type id))(ha:QA X (e::es) cr)(hn:x≠"__name__":=by decide)(hdb:(x == ("__debug__":Str))=false:=by decide)(he:Q7 (e::es) X.env=(false,eval e X.env)::Q7 es X.env:=by rfl)(hpl:(Qa pos (Q7 es X.env)).any (·.1)=false:=by rfl) :
  QE X (.Call (.Name x p) (e::es) [] pos) (cCB f cr):=(oV hc hg hm hv ha.h hn hdb he hpl).imp (Dp hp)
end
def Ak(K:Q1)(f:List U->Sto->Option (U×Sto)):Sp:=fun vs H Q _=>∃m us S u S',IsL K m H vs us/\Sr K m S H/\f us S=some (u,S')/\kJ K m H Q u S'
abbrev Fn:=List U->Sto->Option (U×Sto)
abbrev eM(P:QL)(w:Qu)(K:Q1)(mg:Str->Option Q2)(base:Heap)(x:Str)(k:Nat)(ps:List Str)(f:Fn):Prop:=Has P w K mg base x k ps (Ak K f)
def oX(n:Nat)(us:List U):Rho:=us.map some++Q9 (n-us.length) none
def fnU(n k:Nat)(c:CS):Fn:=fun us S=>if us.length=k then(c (oX n us) S).bind fun r=>match r.1 with
 |.rt u=>some (u,r.2.2)
 |.nx=>some (.non,r.2.2)
 |_=>none else none
section
variable{P:QL}{w:Qu}{K:Q1}{mg:Str->Option Q2}{base:Heap}{x:Str}{st:Qg}{ps N:List Str}{k:Nat}{c:CS}{f:Fn}
theorem vt{m:List Addr}{H:Hp}{vs:List V}{us:List U}(i:IsL K m H vs us):Lr K m H (oX N.length us) (L2.jN N vs):=by
 have hl:=i.length;refine⟨by simp[oX,L2.jN,hl],fun j u e=>?_⟩;unfold oX at e;unfold L2.jN;by_cases c:j<us.length
 ·rw[Qx (by simpa using c),Z0]at e;rw[Qx (by simpa [hl] using c),Z0];rw[Qr c]at e;simp at e;obtain⟨v,e1,e2⟩:=i.getD (Qr c);rw[e1];subst e;exact⟨v,rfl,e2⟩
 ·rw[Qb (by simpa using c),ZX]at e;split at e<;>cases e
theorem zo{X:Cx}{body:List Qg}{Q:VK}{E:XK}{vs:List V}{H:Hp}(hK:X.K=K)(h:Ak K (fnU N.length ps.length c) vs H Q E):tS X.K c { nx:=fun _ H'=>Q .non H',rt:=Q } (L2.jN N vs) H:=by
 subst hK;obtain⟨m,us,S,u,S',i,sr,hf,post⟩:=h;unfold fnU at hf;split at hf
 ·obtain⟨⟨o,ρ',S2⟩,h1,h2⟩:=Q0.mp hf;refine⟨m,_,S,o,ρ',S2,sr,vt i,h1,?_⟩;cases o with
  |rt v=>cases h2;exact post
  |nx=>cases h2;exact fun m1 σ1 H1 e1 sr1 _=>post m1 _ H1 e1 sr1 .non_
  |bk=>simp at h2
  |ct=>simp at h2
 ·cases hf
theorem u9{vs:List V}{H:Hp}{Q:VK}{E:XK}{n k:Nat}(h:Ak K (fnU n k c) vs H Q E):vs.length=k:=by
 obtain⟨m,us,S,u,S',i,sr,hf,post⟩:=h;unfold fnU at hf;split at hf
 ·rename_i e;rw[i.length,e]
 ·cases hf
theorem _root_.OG.Def.pure(d:Def K mg x st ps)(S:a7 N ps (aG st))
  (hb:∀(f:Addr) (cdv:Q2) (A:Qe) (outer:List Env) (s:Q8) (H:Hp) (E:XK),fZ k (A.deeper (envOfC x (aG st) s.heap.objs.size f cdv))->
   WSs (uE CX0 P w K mg base N x (aG st) f cdv A outer s H E).nox (d9 st) (tS K c)):eM P w K mg base x (k+1) ps (fnU N.length ps.length c):=
 d.has S (fun vs H Q E h=>u9 h) fun f cdv A outer s H vs Q E hr h=>⟨_,hb f cdv A outer s H E hr,zo (X:=(uE CX0 P w K mg base N x (aG st) f cdv A outer s H E).nox) (body:=[]) (ps:=ps) rfl h⟩
theorem _root_.OG.Def.no(d:Def K mg x st ps):eM P w K mg base x k ps (fun _ _=>none):=d.none fun vs H Q E h=>by
 obtain⟨m,us,S,u,S',i,sr,hf,post⟩:=h;cases hf
theorem aZ{X:Cx}{e:QK}{es:List QK}{cr:CA}{p pos:Pos}(F:Has X.prog X.w X.K X.mg X.base x k ps (Ak X.K f))(hr:fZ k X.A)(hg:Gl X x)(ha:QA X (e::es) cr)
  (hdb:(x == ("__debug__":Str))=false:=by decide) (he:Q7 (e::es) X.env=(false,eval e X.env)::Q7 es X.env:=by rfl) (hpl:(Qa pos (Q7 es X.env)).any (·.1)=false:=by rfl) :
  QE X (.Call (.Name x p) (e::es) [] pos) (cCB f cr):=(Cv F hr hg ha.h hdb he hpl).imp fun σ H Q hz=>my hz fun m ρ S u S' sr lr hc post=>by
 obtain⟨⟨us,S1⟩,h1,h2⟩:=Q0.mp hc;exact⟨m,ρ,S,us,S1,sr,lr,h1,fun m1 v1 H1 e1 sr1 i1=>⟨m1,us,S1,u,S',by simpa using i1,sr1,h2,post.mono e1⟩⟩
end
section
variable{X:Cx}{e a b c:QK}{ca cb:CE}{pos:Pos}{st:Qg}{sts:List Qg}{c1 c2:CS}
def bb:CS:=fun ρ S=>some (.nx,ρ,S)
def aT(c1 c2:CS):CS:=fun ρ S=>(c1 ρ S).bind fun r=>match r.1 with
 |.nx=>c2 r.2.1 r.2.2
 |o=>some (o,r.2.1,r.2.2)
theorem br:QSs X [] bb:=Ax.imp fun D σ H hz=>ux hz fun m ρ S o ρ' S' sr lr hc post=>by cases hc;exact post m σ H .refl sr lr
theorem ax(h1:QS X st c1)(h2:QSs X sts c2):QSs X (st::sts) (aT c1 c2):=(iQ h1 h2).imp fun D σ H hz=>ux hz fun m ρ S o ρ' S' sr lr hc post=>by
 obtain⟨⟨o1,ρ1,S1⟩,h1,h2⟩:=Q0.mp hc;refine⟨m,ρ,S,o1,ρ1,S1,sr,lr,h1,?_⟩;cases o1 with
 |nx=>exact fun m1 σ1 H1 e1 sr1 lr1=>⟨m1,ρ1,S1,o,ρ',S',sr1,lr1,h2,post.mono e1⟩
 |rt u=>cases h2;exact post
 |bk=>cases h2;exact post
 |ct=>cases h2;exact post
def aH(h1:QS X st c1):QSs X [st] c1:=pF h1
def zV:CS:=fun _ _=>none
def Bc:QS X st zV:=xw.imp fun D σ H hz=>ux hz fun m ρ S o ρ' S' sr lr hc post=>by cases hc
def bp(ca:CE):CS:=fun ρ S=>(ca ρ S).bind fun p=>some (.nx,ρ,p.2)
theorem a8(he:QE X e ca)(hs:Z9 e none pos.line X.env=pure false:=by rfl):QS X (.Expr e pos) (bp ca):=(pG he hs).imp fun D σ H hz=>ux hz fun m ρ S o ρ' S' sr lr hc post=>by
 obtain⟨⟨u,S1⟩,h1,h2⟩:=Q0.mp hc;cases h2;exact⟨m,ρ,S,u,_,sr,lr,h1,fun m1 v1 H1 e1 sr1 i1=>post m1 σ H1 e1 sr1 (lr.mono e1)⟩
def cm(ca:CE):CS:=fun ρ S=>(ca ρ S).bind fun p=>some (.rt p.1,ρ,p.2)
theorem aV(he:QE X e ca):QS X (.Return (some e) pos) (cm ca):=(sX he).imp fun D σ H hz=>ux hz fun m ρ S o ρ' S' sr lr hc post=>by
 obtain⟨⟨u,S1⟩,h1,h2⟩:=Q0.mp hc;cases h2;exact⟨m,ρ,S,u,_,sr,lr,h1,post⟩
def cE(t:CT)(c1 c2:CS):CS:=fun ρ S=>(t ρ S).bind fun p=>if p.1=true then c1 ρ p.2 else c2 ρ p.2
theorem b6{t:CT}{s1 s2:List Qg}(hc:QT X c t)(h1:QSs X s1 c1)(h2:QSs X s2 c2):QS X (.If c s1 s2 pos) (cE t c1 c2):=(Cu hc h1 h2).imp fun D σ H hz=>ux hz fun m ρ S o ρ' S' sr lr hc post=>by
 obtain⟨⟨x,S1⟩,h1,h2⟩:=Q0.mp hc;refine⟨m,ρ,S,x,S1,sr,lr,h1,fun m1 H1 e1 sr1=>?_⟩;cases x with
 |true=>exact Dd ⟨m1,ρ,S1,o,ρ',S',sr1,lr.mono e1,h2,post.mono e1⟩
 |false=>exact FO ⟨m1,ρ,S1,o,ρ',S',sr1,lr.mono e1,h2,post.mono e1⟩
abbrev CG:=U->Rho->Sto->Option (Rho×Sto)
def tG(K:Q1)(g:CG):TG:=fun v σ H Q=>∃m ρ S u ρ' S',Sr K m S H/\Lr K m H ρ σ/\Is K m H v u/\g u ρ S=some (ρ',S')/\j5 K m H Q ρ' S'
abbrev QG(X:Cx)(e:QK)(g:CG):Prop:=WG X e (tG X.K g)
def gNm(i:Nat):CG:=fun u ρ S=>some (ρ.set i (some u),S)
theorem eQ{i:Nat}(h:WG X e (wO i)):QG X e (gNm i):=h.imp fun v σ H Q hz=>Om hz fun m ρ S u ρ' S' sr lr iu hc post=>by
 cases hc;exact post m _ H .refl sr (lr.set i iu)
def iH:List Nat->List U->Rho->Option Rho
 |[],[],ρ=>some ρ
 |i::is,u::us,ρ=>iH is us (ρ.set i (some u))
 |_,_,_=>none
def tGs(K:Q1)(is:List Nat):TGs:=fun vs σ H Q=>∃m ρ S us ρ',Sr K m S H/\Lr K m H ρ σ/\IsL K m H vs us/\iH is us ρ=some ρ'/\j5 K m H Q ρ' S
abbrev QGs(X:Cx)(es:List QK)(is:List Nat):Prop:=WGs X es (tGs X.K is)
theorem EB:QGs X [] []:=AA.imp fun v σ H Q ⟨m,ρ,S,us,ρ',sr,lr,iu,hc,post⟩=>by
 cases us with
 |nil=>cases hc;exact⟨iu.of_nil,post m σ H .refl sr lr⟩
 |cons a r=>simp[iH]at hc
theorem vi{i:Nat}{is:List Nat}{es:List QK}(h:WG X e (wO i))(h2:QGs X es is)(hs:(assignEach (e::es) X.env).map (·.2)=assign e X.env::(assignEach es X.env).map (·.2):=by rfl):QGs X (e::es) (i::is):=(xA h h2 hs).imp fun v σ H Q ⟨m,ρ,S,us,ρ',sr,lr,iu,hc,post⟩=>by
 cases us with
 |nil=>simp[iH]at hc
 |cons u r=>
  obtain⟨x,xr,rfl,i1,i2⟩:=iu.of_cons;exact⟨x,xr,rfl,m,ρ.set i (some u),S,r,ρ',sr,lr.set i i1,i2,hc,post⟩
def gTp(is:List Nat):CG:=fun u ρ S=>match u with
 |.tup us=>(iH is us ρ).bind fun ρ'=>some (ρ',S)
 |_=>none
theorem o8:∀{is:List Nat} {us:List U} {ρ ρ':Rho},iH is us ρ=some ρ'->us.length=is.length
 |[],[],_,_,_=>rfl
 |[],_::_,_,_,h=>by simp[iH]at h
 |_::_,[],_,_,h=>by simp[iH]at h
 |i::is,u::us,ρ,ρ',h=>by
  have:=o8 (is:=is) (us:=us) h;simp[this]
theorem IF{is:List Nat}{es:List QK}{k:Nat}(hc:X.calm=true)(h:QGs X es is)(hn:(assignEach es X.env).length=is.length:=by rfl)(hst:(assignEach es X.env).findIdx? (·.1)=none:=by rfl):QG X (.Tuple es k pos) (gTp is):=(DV hc h hn hst).imp fun v σ H Q hz=>Om hz fun m ρ S u ρ' S' sr lr iu hc post=>by
 cases u with
 |tup us=>
  obtain⟨ρ2,h1,h2⟩:=Q0.mp hc;cases h2;obtain⟨a,xs,rfl,sq,il⟩:=iu.of_tup;refine⟨a,xs,rfl,sq,?_,m,ρ,S,us,ρ',sr,lr,il,h1,post⟩;rw[il.length];exact o8 h1
 |_=>simp[gTp]at hc
def Ph(ca:CE)(g:CG):CS:=fun ρ S=>(ca ρ S).bind fun p=>(g p.1 ρ p.2).bind fun q=>some (.nx,q.1,q.2)
def bj(i:Nat)(ca:CE):CS:=fun ρ S=>(ca ρ S).bind fun p=>some (.nx,ρ.set i (some p.1),p.2)
theorem aS{i:Nat}{x:Str}{pos':Pos}(hN:X.N.Nodup)(hi:X.N[i]?=some x)(hx:Loc X.env.scope x)(he:QE X e ca)(hs:Z9 e (some (.Name x pos')) pos.line X.env=pure false:=by rfl)(hf:X.fn x=true\/X.env.scope.names.lookup x=some .local:=by first|exact .inl rfl|exact .inr rfl|assumption) :
  QS X (.Assign [.Name x pos'] e pos) (bj i ca):=(sW hN hi hx he hs hf).imp fun D σ H hz=>ux hz fun m ρ S o ρ' S' sr lr hc post=>by
 obtain⟨⟨u,S1⟩,h1,h2⟩:=Q0.mp hc;cases h2;exact⟨m,ρ,S,u,_,sr,lr,h1,fun m1 v1 H1 e1 sr1 i1=>post m1 _ H1 e1 sr1 ((lr.mono e1).set i i1)⟩
abbrev CI:=Rho->Sto->Option (List U×(Sto->Prop)×Sto)
def Gf(K:Q1)(J:It)(m:List Addr)(H:Hp)(us:List U)(ok:Sto->Prop):Prop:=∀m2 S2 H2 i,Ext K m H m2 H2->Sr K m2 S2 H2->ok S2->
 (∀u,us[i]?=some u->J.go i H2/\∀x H3,J.yld i H2 x H3->Ext K m2 H2 m2 H3/\Sr K m2 S2 H3/\Is K m2 H3 x u)/\(us.length<=i->J.stop i H2)
def tI(K:Q1)(ci:CI):TI:=fun σ H R=>∃m ρ S us ok S',Sr K m S H/\Lr K m H ρ σ/\ci ρ S=some (us,ok,S')/\∀m' H' J,Ext K m H m' H'->Sr K m' S' H'->Gf K J m' H' us ok->R J H'
abbrev QI(X:Cx)(tg iter:QK)(ci:CI):Prop:=WI X tg iter (tI X.K ci)
open Classical in
def d7(ok:Sto->Prop)(g:CG)(cb:CS):List U->CS
 |[]=>fun ρ S=>if ok S then some (.nx,ρ,S)else none
 |u::us=>fun ρ S=>if ok S then(g u ρ S).bind fun p=>(cb p.1 p.2).bind fun r=>match r.1 with
  |.nx=>d7 ok g cb us r.2.1 r.2.2
  |.ct=>d7 ok g cb us r.2.1 r.2.2
  |.bk=>some (.nx,r.2.1,r.2.2)
  |.rt v=>some (.rt v,r.2.1,r.2.2)else none
def gO(ci:CI)(g:CG)(cb:CS):CS:=fun ρ S=>(ci ρ S).bind fun p=>d7 p.2.1 g cb p.1 ρ p.2.2
theorem n5{α:Type}{us:List α}{i:Nat}{u:α}(h:us[i]?=some u):us.drop i=u::us.drop (i+1):=by
 obtain⟨hl,e⟩:=Q6.mp h;rw[List.drop_eq_getElem_cons hl,e]
theorem BJ{K:Q1}{g:CG}{cb:CS}{J:It}{us:List U}{ok:Sto->Prop}{D:Aj}{m1:List Addr}{H1:Hp}{ρ ρ':Rho}{σ:L2.St}{S1 S':Sto}{o:Out}(sr1:Sr K m1 S1 H1)(lr1:Lr K m1 H1 ρ σ)(ito:Gf K J m1 H1 us ok)(h2:d7 ok g cb us ρ S1=some (o,ρ',S'))(post:wX K m1 H1 D o ρ' S') :
  ∃W:Nat->Nat->L2.St->Hp->Prop,(∃n,W 0 n σ H1)/\∀i n σ H,W i n σ H->
   (J.stop i H/\D.nx σ H)\/(J.go i H/\∃N:L2.St->Hp->Prop,(∀σ' H',N σ' H'->∃n',n'<n/\W (i+1) n' σ' H')/\∀x H',J.yld i H x H'->tG K g x σ H' fun σ2 H2=>tS K cb { D with nx:=N,ct:=N,bk:=D.nx } σ2 H2):=by
 let W:Nat->Nat->L2.St->Hp->Prop:=fun i n σ2 H2=>n=us.length-i/\i<=us.length/\∃m2 ρ2 S2,Ext K m1 H1 m2 H2/\Sr K m2 S2 H2/\Lr K m2 H2 ρ2 σ2/\d7 ok g cb (us.drop i) ρ2 S2=some (o,ρ',S')
 refine⟨W,⟨us.length,by simp,ZF _,m1,ρ,S1,.refl,sr1,lr1,by simpa using h2⟩,?_⟩;rintro i n σ2 H2 ⟨rfl,hi,m2,ρ2,S2,e2,sr2,lr2,hl⟩;by_cases hlt:i<us.length
 ·have hu:=Qr hlt;rw[n5 hu]at hl;unfold d7 at hl;split at hl
  ·rename_i hok;obtain⟨⟨ρ3,S3⟩,h3,hl⟩:=Q0.mp hl;obtain⟨⟨o4,ρ4,S4⟩,h4,hl⟩:=Q0.mp hl;obtain⟨hgo,hy⟩:=(ito m2 S2 H2 i e2 sr2 hok).1 _ hu;refine .inr ⟨hgo,W (i+1) (us.length-(i+1)),fun σ' H' w'=>⟨_,by omega,w'⟩,fun x H3 y=>?_⟩;obtain⟨e3,sr3,ix⟩:=hy x H3 y;refine⟨m2,ρ2,S2,_,ρ3,S3,sr3,lr2.mono e3,ix,h3,fun m4 σ4 H4 e4 sr4 lr4=>⟨m4,ρ3,S3,o4,ρ4,S4,sr4,lr4,h4,?_⟩⟩;have e14:=(e2.trans e3).trans e4;have nxt:d7 ok g cb (us.drop (i+1)) ρ4 S4=some (o,ρ',S')->j5 K m4 H4 (W (i+1) (us.length-(i+1))) ρ4 S4:=fun hn m5 σ5 H5 e5 sr5 lr5=>⟨rfl,hlt,m5,ρ4,S4,e14.trans e5,sr5,lr5,hn⟩;cases o4 with
   |nx=>exact nxt hl
   |ct=>exact nxt hl
   |bk=>cases hl;exact j5.mono e14 post
   |rt v=>cases hl;exact kJ.mono e14 post
  ·cases hl
 ·have e:i=us.length:=by omega
  subst e;rw[List.drop_length]at hl;unfold d7 at hl;split at hl
  ·rename_i hok;cases hl;exact .inl ⟨(ito m2 _ H2 _ e2 sr2 hok).2 (QU _),post m2 σ2 H2 e2 sr2 lr2⟩
  ·cases hl
theorem FW{K:Q1}{ci:CI}{g:CG}{cb:CS}:∀D σ H,tS K (gO ci g cb) D σ H->Mo (tI K ci) (tG K g) (tS K cb) D σ H:=by
 rintro D σ H ⟨m,ρ,S,o,ρ',S',sr,lr,hc,post⟩;obtain⟨⟨us,ok,S1⟩,h1,h2⟩:=Q0.mp hc;exact⟨m,ρ,S,us,ok,S1,sr,lr,h1,fun m1 H1 J e1 sr1 ito=>BJ sr1 (lr.mono e1) ito h2 (wX.mono e1 post)⟩
theorem iI{tg iter:QK}{body:List Qg}{ci:CI}{g:CG}{cb:CS}(hp:PassesOwn (Qq X.prog X.w) X.A X.env X.xe)(hc:X.calm=true)(hi:QI X tg iter ci)(hg:QG X tg g)(hb:QSs X body cb)(hs:∀x,foldedSetIterable iter X.env x=pure x:=by intro _;rfl):QS X (.For tg iter body [] pos) (gO ci g cb):=(xy hp hc hi hg hb hs).imp FW
def e8(t:CT)(cb:CS):Nat->CS
 |0=>fun _ _=>none
 |n+1=>fun ρ S=>(t ρ S).bind fun p=>if p.1=true then(cb ρ p.2).bind fun r=>match r.1 with
  |.nx=>e8 t cb n r.2.1 r.2.2
  |.ct=>e8 t cb n r.2.1 r.2.2
  |.bk=>some (.nx,r.2.1,r.2.2)
  |.rt v=>some (.rt v,r.2.1,r.2.2)else some (.nx,ρ,p.2)
theorem xH{K:Q1}{t:CT}{cb:CS}{n:Nat}:∀D σ H,tS K (e8 t cb n) D σ H->xW (tT K t) (tS K cb) D σ H:=by
 rintro D σ H ⟨m,ρ,S,o,ρ',S',sr,lr,hc,post⟩;let W:Nat->L2.St->Hp->Prop:=fun n σ2 H2=>∃m2 ρ2 S2,Ext K m H m2 H2/\Sr K m2 S2 H2/\Lr K m2 H2 ρ2 σ2/\e8 t cb n ρ2 S2=some (o,ρ',S')
 refine⟨W,⟨n,m,ρ,S,.refl,sr,lr,hc⟩,?_⟩;rintro k σ2 H2 ⟨m2,ρ2,S2,e2,sr2,lr2,hl⟩;cases k with
 |zero=>cases hl
 |succ k=>
  unfold e8 at hl;obtain⟨⟨x,S3⟩,h3,hl⟩:=Q0.mp hl;refine⟨m2,ρ2,S2,x,S3,sr2,lr2,h3,fun m3 H3 e3 sr3=>?_⟩;have e13:=e2.trans e3;cases x with
  |true=>
   rw[if_pos rfl]at hl;refine Dd ?_;obtain⟨⟨o4,ρ4,S4⟩,h4,hl⟩:=Q0.mp hl;refine⟨W k,fun σ' H' w'=>⟨k,Nat.lt_succ_self _,w'⟩,m3,ρ2,S3,o4,ρ4,S4,sr3,lr2.mono e3,h4,?_⟩;have nxt:e8 t cb k ρ4 S4=some (o,ρ',S')->j5 K m3 H3 (W k) ρ4 S4:=fun hn m5 σ5 H5 e5 sr5 lr5=>⟨m5,ρ4,S4,e13.trans e5,sr5,lr5,hn⟩;cases o4 with
   |nx=>exact nxt hl
   |ct=>exact nxt hl
   |bk=>cases hl;exact j5.mono e13 post
   |rt v=>cases hl;exact kJ.mono e13 post
  |false=>
   rw[if_neg QR]at hl;refine FO ?_;cases hl;exact post m3 σ2 H3 e13 sr3 (lr2.mono e3)
theorem Bb{body:List Qg}{t:CT}{cb:CS}(n:Nat)(hp:PassesOwn (Qq X.prog X.w) X.A X.env X.xe)(hc:QT X c t)(hb:QSs X body cb):QS X (.While c body [] pos) (e8 t cb n):=(qL hp hc hb).imp xH
def iTp(ca:CE):CI:=fun ρ S=>(ca ρ S).bind fun p=>match p.1 with
 |.tup us=>some (us,fun _=>True,p.2)
 |.ref l=>match p.2[l]? with
  |some (.lst us)=>some (us,fun S=>S[l]?=some (.lst us),p.2)
  |_=>none
 |_=>none
theorem J1{K:Q1}{m:List Addr}{H:Hp}{us:List U}{a:Addr}{xs:List V}(sq:SqT K H a xs)(il:IsL K m H xs us):Gf K (Itt K a) m H us (fun _=>True):=by
 intro m2 S2 H2 i e2 sr2 _;have sq2:=e2.keep.t _ _ sq;have il2:=il.mono e2;refine⟨fun u hu=>?_,fun hi=>⟨xs,sq2,by rw[il2.length];exact hi⟩⟩;obtain⟨x,hx,ix⟩:=il2.getD hu;refine⟨⟨xs,x,sq2,hx⟩,fun y H3 hy=>?_⟩;obtain⟨rfl,hy⟩:=hy;have:=hy xs sq2;rw[hx]at this;cases this;exact⟨.refl,sr2,ix⟩
theorem J3{K:Q1}{m:List Addr}{H:Hp}{us:List U}{a:Addr}{l:Nat}(hl:m[l]?=some a):Gf K (Itl K a) m H us (fun S=>S[l]?=some (.lst us)):=by
 intro m2 S2 H2 i e2 sr2 hok;obtain⟨a',ha',xs,hx,il⟩:=sr2.get hok;rw[e2.get hl]at ha';cases ha';refine⟨fun u hu=>?_,fun hi=>⟨xs,SqL.of hx,by rw[il.length];exact hi⟩⟩;obtain⟨x,hx',ix⟩:=il.getD hu;refine⟨⟨xs,x,SqL.of hx,hx'⟩,fun y H3 hy=>?_⟩;obtain⟨rfl,hy⟩:=hy;have:=hy xs (SqL.of hx);rw[hx']at this;cases this;exact⟨.refl,sr2,ix⟩
theorem me{tg:QK}(h:QE X e ca):QI X tg e (iTp ca):=((DT h).or (Az h)).imp fun σ H R hz=>ux hz fun m ρ S us ok S' sr lr hc post=>by
 obtain⟨⟨u,S1⟩,h1,h2⟩:=Q0.mp hc;cases u with
 |tup ws=>
  cases h2;refine .inl ⟨m,ρ,S,.tup us,_,sr,lr,h1,fun m1 v1 H1 e1 sr1 i1=>?_⟩;obtain⟨a,xs,rfl,sq,il⟩:=i1.of_tup;exact⟨a,rfl,⟨xs,sq⟩,post m1 H1 _ e1 sr1 (J1 sq il)⟩
 |ref l=>
  simp only at h2;split at h2
  ·rename_i us' hS;cases h2;refine .inr ⟨m,ρ,S,.ref l,_,sr,lr,h1,fun m1 v1 H1 e1 sr1 i1=>?_⟩;obtain⟨a,hl,rfl⟩:=i1.of_ref;obtain⟨a',ha',xs,hx,il⟩:=sr1.get hS;rw[hl]at ha';cases ha';exact⟨a,rfl,⟨xs,SqL.of hx⟩,post m1 H1 _ e1 sr1 (J3 hl)⟩
  ·cases h2
 |_=>simp at h2
def fV(lo:Int)(n:Nat):List U:=(List.range n).map fun i=>.int (lo+(i:Nat))
theorem vy{K:Q1}{m:List Addr}{H:Hp}{lo:Int}{n:Nat}:Gf K (Itr lo n) m H (fV lo n) (fun _=>True):=by
 intro m2 S2 H2 i e2 sr2 _;refine⟨fun u hu=>?_,fun hi=>by show n<=i;simpa [fV] using hi⟩;unfold fV at hu;rw[Z0]at hu;by_cases c:i<n
 ·rw[List.getElem?_range c]at hu;simp at hu;subst hu;refine⟨c,fun y H3 hy=>?_⟩;obtain⟨rfl,rfl⟩:=hy;exact⟨.refl,sr2,.int_⟩
 ·rw[ZT (by simpa using c)]at hu;cases hu
def ib(cr:CA):CI:=fun ρ S=>(cr ρ S).bind fun p=>match p.1 with
 |[.int j]=>if -(2^62)<=j/\j<2^62 then some (fV 0 j.toNat,fun _=>True,p.2)else none
 |_=>none
def h9(cr:CA):CI:=fun ρ S=>(cr ρ S).bind fun p=>match p.1 with
 |[.int i,.int j]=>if (-(2^62)<=i/\i<2^62)/\-(2^62)<=j/\j<2^62 then some (fV i (j-i).toNat,fun _=>True,p.2)else none
 |_=>none
theorem nG{tg:QK}{cr:CA}{p:Pos}(hg:Gl X "range")(hm:X.mg "range"=none)(ha:QA X [a] cr)(hs:Q7 [a] X.env=[(false,eval a X.env)]:=by rfl):QI X tg (.Call (.Name "range" p) [a] [] pos) (ib cr):=(vZ hg hm ha.h hs).imp fun σ H R hz=>ux hz fun m ρ S us ok S' sr lr hc post=>by
 obtain⟨⟨ws,S1⟩,h1,h2⟩:=Q0.mp hc;simp only at h2;split at h2
 ·rename_i j;split at h2
  ·rename_i hj;cases h2;refine⟨m,ρ,S,_,S',sr,lr,h1,fun m1 v1 H1 e1 sr1 i1=>?_⟩;obtain⟨x,r,rfl,ix,ir⟩:=i1.of_cons;rw[ir.of_nil,ix.of_int];exact⟨j,rfl,hj.1,hj.2,post m1 H1 _ e1 sr1 vy⟩
  ·cases h2
 ·cases h2
theorem rh{tg:QK}{cr:CA}{p:Pos}(hg:Gl X "range")(hm:X.mg "range"=none)(ha:QA X [a,b] cr)(hs:Q7 [a,b] X.env=[(false,eval a X.env),(false,eval b X.env)]:=by rfl)(hs2:Q7 [b] X.env=[(false,eval b X.env)]:=by rfl):QI X tg (.Call (.Name "range" p) [a,b] [] pos) (h9 cr):=(vY hg hm ha.h hs hs2).imp fun σ H R hz=>ux hz fun m ρ S us ok S' sr lr hc post=>by
 obtain⟨⟨ws,S1⟩,h1,h2⟩:=Q0.mp hc;simp only at h2;split at h2
 ·rename_i i j;split at h2
  ·rename_i hj;cases h2;refine⟨m,ρ,S,_,S',sr,lr,h1,fun m1 v1 H1 e1 sr1 i1=>?_⟩;obtain⟨x,r,rfl,ix,ir⟩:=i1.of_cons;obtain⟨y,r,rfl,iy,ir⟩:=ir.of_cons;rw[ir.of_nil,ix.of_int,iy.of_int];exact⟨i,j,rfl,⟨hj.1.1,hj.1.2,hj.2⟩,post m1 H1 _ e1 sr1 vy⟩
  ·cases h2
 ·cases h2
end
def fI(g:Int->Int->Option U):U->U->Sto->Option (U×Sto)
 |.int i,.int j,S=>(g i j).bind fun u=>some (u,S)
 |_,_,_=>none
section
variable{X:Cx}{K:Q1}
theorem KW{C:Int->Int->Prop}{gV:Int->Int->V}{g:Int->Int->Option U}(h:∀i j u,g i j=some u->C i j/\∀m H,Is K m H (gV i j) u):OpP K (rI C gV) (fI g):=by
 intro m S H x y v w u S' Q sr ix iy hf post;cases x<;>cases y<;>simp only[fI]at hf<;>try cases hf
 rename_i i j;obtain⟨u1,h1,h2⟩:=Q0.mp hf;cases h2;obtain⟨hc,hi⟩:=h i j u h1;exact⟨i,j,ix.of_int,iy.of_int,hc,post m _ H .refl sr (hi m H)⟩
theorem yD{gV:Int->Int->V}{g:Int->Int->Option U}(h:∀i j u,g i j=some u->∀m H,Is K m H (gV i j) u):OpP K (rI0 gV) (fI g):=by
 intro m S H x y v w u S' Q sr ix iy hf post;cases x<;>cases y<;>simp only[fI]at hf<;>try cases hf
 rename_i i j;obtain⟨u1,h1,h2⟩:=Q0.mp hf;cases h2;exact⟨i,j,ix.of_int,iy.of_int,post m _ H .refl sr (h i j u h1 m H)⟩
def Ba(K:Q1):R2:=fun x y H Q=>∃a b xs ys,x=.ref a/\y=.ref b/\SqT K H a xs/\SqT K H b ys/\xs.length+ys.length<=QB/\∀q H',sJ H H'->SqT K H' q (xs++ys)->Q (.ref q) H'
theorem Fh:OpR X (binaryOp .Add) (Ba X.K):=by
 intro pins s σ H x y v u Q I rx ry h;obtain⟨a,b,xs,ys,rfl,rfl,ha,hb,hz,q⟩:=h;by_cases e:xs=[]
 ·cases rx;cases ry;obtain⟨its,r1,p1,_⟩:=I.tuple ha;obtain⟨its2,r2,p2,_⟩:=I.tuple hb;refine Ca p1 p2 (r1.nil_iff.mpr e) ⟨.ref b,H,I,rfl,q b H (.refl _) (by rw[e];exact hb)⟩
 ·refine Fg pins s σ H _ _ v u Q I rx ry ⟨a,b,xs,ys,rfl,rfl,ha,hb,e,hz,fun z=>q a H (.refl _) (by rw[z,QN];exact ha),fun _ p hp=>q p _ (cS hp _) (SqT.of aU)⟩
def zp:U->U->Sto->Option (U×Sto)
 |.tup a,.tup b,S=>if a.length+b.length<=LIM then some (.tup (a++b),S)else none
 |_,_,_=>none
theorem Bw:OpP K (Ba K) zp:=by
 intro m S H x y v w u S' Q sr ix iy hf post;cases x<;>cases y<;>simp only[zp]at hf<;>try cases hf
 split at hf<;>try cases hf
 rename_i hl;obtain⟨a,xs,rfl,sa,la⟩:=ix.of_tup;obtain⟨b,ys,rfl,sb,lb⟩:=iy.of_tup;refine⟨a,b,xs,ys,rfl,rfl,sa,sb,lim (by rw[la.length,lb.length];exact hl),fun q H' s sq=>?_⟩;exact post m _ H' (.of (cV s)) (sr.same s) (.tup_ sq ((la.append lb).mono (.of (cV s))))
def qq:U->U->Sto->Option (U×Sto)
 |.ref l,.ref k,S=>match S[l]?,S[k]? with
  |some (.lst a),some (.lst b)=>if a.length+b.length<=LIM then some (.ref S.length,S++[.lst (a++b)])else none
  |_,_=>none
 |_,_,_=>none
theorem By:OpP K KU qq:=by
 intro m S H x y v w u S' Q sr ix iy hf post;cases x<;>cases y<;>simp only[qq]at hf<;>try cases hf
 rename_i l k;split at hf<;>try cases hf
 rename_i a b h1 h2;split at hf<;>try cases hf
 rename_i hl;obtain⟨p,hp,rfl⟩:=ix.of_ref;obtain⟨q,hq,rfl⟩:=iy.of_ref;obtain⟨p',hp',xs,hx,il⟩:=sr.get h1;obtain⟨q',hq',ys,hy,il'⟩:=sr.get h2;rw[hp]at hp';cases hp';rw[hq]at hq';cases hq';exact⟨p,q,xs,ys,rfl,rfl,hx,hy,lim (by rw[il.length,il'.length];exact hl),fun r hr=>kr sr (il.append il') post hr⟩
def zq:U->U->Sto->Option (U×Sto)
 |.str a,.str b,S=>if a.length+b.length<=LIM then some (.str (a++b),S)else none
 |_,_,_=>none
theorem Bx:OpP K (fun x y H Q=>∃i j,x=.str i/\y=.str j/\i.length+j.length<=QB/\Q (.str (i++j)) H) zq:=by
 intro m S H x y v w u S' Q sr ix iy hf post;cases x<;>cases y<;>simp only[zq]at hf<;>try cases hf
 split at hf<;>try cases hf
 rename_i hl;exact⟨_,_,ix.of_str,iy.of_str,lim hl,post m _ H .refl sr .str_⟩
def bI:U->U->Sto->Option (U×Sto)
 |.int i,.int j,S=>some (.int (i+j),S)
 |.tup a,.tup b,S=>if a.length+b.length<=LIM then some (.tup (a++b),S)else none
 |.str a,.str b,S=>if a.length+b.length<=LIM then some (.str (a++b),S)else none
 |.ref l,.ref k,S=>qq (.ref l) (.ref k) S
 |_,_,_=>none
theorem bS:OpR X (binaryOp .Add) (fun x y H Q=>rI0 (fun i j=>.int (i+j)) x y H Q\/(KU x y H Q\/(Ba X.K x y H Q\/∃i j,x=.str i/\y=.str j/\i.length+j.length<=QB/\Q (.str (i++j)) H))):=JD.or (JC.or (Fh.or wz))
theorem bR:OpP K (fun x y H Q=>rI0 (fun i j=>.int (i+j)) x y H Q\/(KU x y H Q\/(Ba K x y H Q\/∃i j,x=.str i/\y=.str j/\i.length+j.length<=QB/\Q (.str (i++j)) H))) bI:=by
 intro m S H x y v w u S' Q sr ix iy hf post;cases x<;>cases y<;>simp only[bI]at hf<;>try cases hf
 ·exact .inl ⟨_,_,ix.of_int,iy.of_int,post m _ H .refl sr .int_⟩
 ·exact .inr (.inr (.inr (Bx m S H _ _ v w u S' Q sr ix iy hf post)))
 ·exact .inr (.inr (.inl (Bw m S H _ _ v w u S' Q sr ix iy hf post)))
 ·exact .inr (.inl (By m S H _ _ v w u S' Q sr ix iy hf post))
def gM:=fI fun i j=>some (.int (i-j))
def hR:OpP K (rI0 fun i j=>.int (i-j)) gM:=yD fun i j u h m H=>by cases h;exact .int_
instance {i j:Int}:Decidable (wZ i j):=by unfold wZ;exact inferInstance
def nW:=fI fun i j=>if wZ i j then some (.int (i*j))else none
theorem rp:OpP K (rI wZ fun i j=>.int (i*j)) nW:=KW fun i j u h=>by
 split at h
 ·rename_i c;cases h;exact⟨c,fun m H=>.int_⟩
 ·cases h
instance {i j:Int}:Decidable (w4 i j):=by unfold w4;exact inferInstance
def BV:=fI fun i j=>if w4 i j then some (.int (i / j))else none
theorem Fb:OpP K (rI w4 fun i j=>.int (i / j)) BV:=KW fun i j u h=>by
 split at h
 ·rename_i c;cases h;exact⟨c,fun m H=>.int_⟩
 ·cases h
def se:=fI fun i j=>if 0<j then some (.int (i % j))else none
theorem tZ:OpP K (rI (fun _ j=>0<j) fun i j=>.int (i % j)) se:=KW fun i j u h=>by
 split at h
 ·rename_i c;cases h;exact⟨c,fun m H=>.int_⟩
 ·cases h
instance {i j:Int}:Decidable (Gr i j):=by unfold Gr;exact inferInstance
def Gj:=fI fun i j=>if Gr i j then some (.int (i^j.toNat))else none
theorem Js:OpP K (rI Gr fun i j=>.int (i^j.toNat)) Gj:=KW fun i j u h=>by
 split at h
 ·rename_i c;cases h;exact⟨c,fun m H=>.int_⟩
 ·cases h
def fLt:=fI fun i j=>some (.bl (decide (i<j)))
def fLe:=fI fun i j=>some (.bl (decide (i<=j)))
def fGt:=fI fun i j=>some (.bl (decide (j<i)))
def fGe:=fI fun i j=>some (.bl (decide (j<=i)))
def oE:OpP K (rI0 fun i j=>.bl (decide (i<j))) fLt:=yD fun i j u h m H=>by cases h;exact .bl_
def KZ:OpP K (rI0 fun i j=>.bl (decide (i<=j))) fLe:=yD fun i j u h m H=>by cases h;exact .bl_
def Am:OpP K (rI0 fun i j=>.bl (decide (j<i))) fGt:=yD fun i j u h m H=>by cases h;exact .bl_
def O9:OpP K (rI0 fun i j=>.bl (decide (j<=i))) fGe:=yD fun i j u h m H=>by cases h;exact .bl_
def eqS:U->U->Option Bool
 |.int i,.int j=>some (decide (i=j))
 |.bl i,.bl j=>some (decide (i=j))
 |.str i,.str j=>some (decide (i=j))
 |.non,.non=>some true
 |.non,.int _=>some false|.int _,.non=>some false
 |.non,.bl _=>some false|.bl _,.non=>some false
 |.non,.str _=>some false|.str _,.non=>some false
 |.int _,.str _=>some false|.str _,.int _=>some false
 |.bl _,.str _=>some false|.str _,.bl _=>some false
 |_,_=>none
def fEq:U->U->Sto->Option (U×Sto):=fun x y S=>(eqS x y).bind fun b=>some (.bl b,S)
def fNe:U->U->Sto->Option (U×Sto):=fun x y S=>(eqS x y).bind fun b=>some (.bl (!b),S)
theorem Dh{m:List Addr}{H:Hp}{x y:U}{v w:V}{b:Bool}(ix:Is K m H v x)(iy:Is K m H w y)(h:eqS x y=some b):Mr v w=true/\decide (v=w)=b:=by
 cases x<;>cases y<;>simp only[eqS]at h<;>(first|cases h|skip);all_goals
  (first|(have e1:=ix.of_int)|(have e1:=ix.of_bl)|(have e1:=ix.of_str)|(have e1:=ix.of_non))
  (first|(have e2:=iy.of_int)|(have e2:=iy.of_bl)|(have e2:=iy.of_str)|(have e2:=iy.of_non))
  subst e1 e2;exact⟨rfl,by simp⟩
theorem iO:OpP K rEq fEq:=by
 intro m S H x y v w u S' Q sr ix iy hf post;obtain⟨b,h1,h2⟩:=Q0.mp hf;cases h2;obtain⟨e1,e2⟩:=Dh ix iy h1;exact⟨e1,by rw[e2];exact post m _ H .refl sr .bl_⟩
theorem KY:OpP K rNe fNe:=by
 intro m S H x y v w u S' Q sr ix iy hf post;obtain⟨b,h1,h2⟩:=Q0.mp hf;cases h2;obtain⟨e1,e2⟩:=Dh ix iy h1;exact⟨e1,by rw[e2];exact post m _ H .refl sr .bl_⟩
def BM:U->Bool
 |.non=>true
 |_=>false
def FZ:U->U->Sto->Option (U×Sto)
 |x,.non,S=>some (.bl (BM x),S)
 |_,_,_=>none
def gE:U->U->Sto->Option (U×Sto)
 |x,.non,S=>some (.bl (!BM x),S)
 |_,_,_=>none
theorem vz{m:List Addr}{H:Hp}{x:U}{v:V}(ix:Is K m H v x):decide (v=.non)=BM x:=by
 cases x with
 |non=>rw[ix.of_non];rfl
 |bl b=>rw[ix.of_bl];rfl
 |int i=>rw[ix.of_int];rfl
 |str i=>rw[ix.of_str];rfl
 |tup us=>obtain⟨a,xs,rfl,_⟩:=ix.of_tup;rfl
 |ref l=>obtain⟨a,_,rfl⟩:=ix.of_ref;rfl
 |kl ns=>obtain⟨a,rfl,_⟩:=ix.of_kl;rfl
theorem Jw:OpP K (fun x y H Q=>y=.non/\Q (.bl (decide (x=.non))) H) FZ:=by
 intro m S H x y v w u S' Q sr ix iy hf post;cases y<;>simp only[FZ]at hf<;>cases hf;exact⟨iy.of_non,by rw[vz ix];exact post m _ H .refl sr .bl_⟩
theorem pf:OpP K (fun x y H Q=>y=.non/\Q (.bl (!decide (x=.non))) H) gE:=by
 intro m S H x y v w u S' Q sr ix iy hf post;cases y<;>simp only[gE]at hf<;>cases hf;exact⟨iy.of_non,by rw[vz ix];exact post m _ H .refl sr .bl_⟩
section
variable{κ:Type}[DecidableEq κ]
def iN{α:Type}(kvs:List (κ×α))(k:κ):Option α:=(kvs.find? fun kv=>decide (kv.1=k)).map (·.2)
def EF{α:Type}(kvs:List (κ×α))(k:κ)(v:α):List (κ×α):=
 if (kvs.any fun kv=>decide (kv.1=k))=true then kvs.map (fun kv=>if kv.1=k then(kv.1,v)else kv)else kvs++[(k,v)]
variable{m:List Addr}{H:Hp}{kvs:List (κ×V)}{kus:List (κ×U)}{k:κ}{v:V}{u:U}
theorem IsP.val(h:IsP K m H kvs kus):Rf K m H (pO kvs k) (iN kus k):=by
 refine IsP.ind (P:=fun kvs kus=>Rf K m H (pO kvs k) (iN kus k)) trivial (fun k' v u kvs kus i _ ih=>?_) h;by_cases e:k'=k
 ·subst e;simp[pO,iN,ZJ,Rf,i]
 ·simp only[pO,iN,ZJ,decide_eq_false e]at ih ⊢;exact ih
theorem IsP.any_(h:IsP K m H kvs kus):(kvs.any fun kv=>decide (kv.1=k))=(kus.any fun kv=>decide (kv.1=k)):=
 IsP.ind (P:=fun kvs kus=>(kvs.any fun kv=>decide (kv.1=k))=(kus.any fun kv=>decide (kv.1=k))) rfl (fun k' v u kvs kus i _ ih=>by simp only[ZN,ih]) h
theorem IsP.append{kvs':List (κ×V)}{kus':List (κ×U)}(h:IsP K m H kvs kus)(h':IsP K m H kvs' kus'):IsP K m H (kvs++kvs') (kus++kus'):=⟨by simp[h.1,h'.1],by simpa using h.2.append h'.2⟩
theorem IsP.put(h:IsP K m H kvs kus)(i:Is K m H v u):IsP K m H (qD kvs k v) (EF kus k u):=by
 unfold qD EF;rw[h.any_];split
 ·refine IsP.ind (P:=fun kvs kus=>IsP K m H (kvs.map fun kv=>if kv.1=k then(kv.1,v)else kv) (kus.map fun kv=>if kv.1=k then(kv.1,u)else kv)) .nil_ (fun k' v' u' kvs kus i' _ ih=>?_) h;simp only[QF];by_cases e:k'=k
  ·simp only[e,if_true];exact .cons_ i ih
  ·simp only[e,if_false];exact .cons_ i' ih
 ·exact h.append (.cons_ i .nil_)
end
def nR:U->Option Key
 |.int i=>some (.inl i)
 |.str x=>some (.inr x)
 |_=>none
theorem jZ{m:List Addr}{H:Hp}{x:U}{v:V}{k:Key}(ix:Is K m H v x)(h:nR x=some k):v=kV k:=by
 cases x<;>simp only[nR]at h<;>cases h
 ·exact ix.of_int
 ·exact ix.of_str
def mx:U->Bool
 |.non=>true|.bl _=>true|.int _=>true|.str _=>true|_=>false
def eqF:U->U->Bool
 |.non,.non=>true
 |.bl a,.bl b=>a == b
 |.bl a,.int b=>(if a then 1 else 0) == b
 |.int a,.bl b=>a == (if b then 1 else 0)
 |.int a,.int b=>a == b
 |.str a,.str b=>a == b
 |_,_=>false
def inU(x:U)(us:List U):Bool:=us.any fun y=>eqF y x
theorem uu{m:List Addr}{H:Hp}{x:U}{v:V}(ix:Is K m H v x)(h:mx x=true):oN v=true:=by
 cases x with
 |non=>rw[ix.of_non];rfl
 |bl b=>rw[ix.of_bl];rfl
 |int i=>rw[ix.of_int];rfl
 |str i=>rw[ix.of_str];rfl
 |tup us=>cases h
 |ref l=>cases h
 |kl l=>cases h
theorem Kg{m:List Addr}{H:Hp}{x y:U}{v w:V}(ix:Is K m H v x)(iy:Is K m H w y)(hx:mx x=true)(hy:mx y=true):eqV v w=eqF x y:=by
 cases x<;>(first|cases hx|skip)<;>cases y<;>(first|cases hy|skip);all_goals
  (first|(have e1:=ix.of_int)|(have e1:=ix.of_bl)|(have e1:=ix.of_str)|(have e1:=ix.of_non))
  (first|(have e2:=iy.of_int)|(have e2:=iy.of_bl)|(have e2:=iy.of_str)|(have e2:=iy.of_non))
  subst e1 e2;rfl
theorem qo{m:List Addr}{H:Hp}:∀{xs:List V} {us:List U},IsL K m H xs us->us.all mx=true->xs.all oN=true
 |xs,[],h,_=>by rw[h.of_nil];rfl
 |xs,u::us,h,k=>by
  obtain⟨x,r,rfl,i,t⟩:=h.of_cons;rw[List.all_cons,ZQ]at k ⊢;exact⟨uu i k.1,qo t k.2⟩
theorem zg{m:List Addr}{H:Hp}{x:U}{v:V}(ix:Is K m H v x)(hx:mx x=true):∀{xs:List V} {us:List U},IsL K m H xs us->us.all mx=true->inV v xs=inU x us
 |xs,[],h,_=>by rw[h.of_nil];rfl
 |xs,u::us,h,k=>by
  obtain⟨y,r,rfl,i,t⟩:=h.of_cons;rw[List.all_cons,ZQ]at k;have ih:=zg ix hx t k.2;unfold inV inU at ih ⊢;rw[ZN,ZN,ih,Kg i ix k.1 hx]
theorem _root_.L2.DGet.kz{H:Hp}{a:Addr}{ob:Obj}{kvs:List (Key×V)}{k:Key}(e:H a=some (.frz ob (.dK kvs))):DGet H a (kV k) (pO kvs k):=.inl ⟨kvs,k,.inr ⟨ob,e⟩,rfl,rfl⟩
def fIn(neg:Bool):U->U->Sto->Option (U×Sto):=fun x y S=>match y with
 |.tup us=>if mx x=true/\us.all mx=true then some (.bl (if neg then !inU x us else inU x us),S)else none
 |.ref l=>match S[l]? with
  |some (.lst us)=>if mx x=true/\us.all mx=true then some (.bl (if neg then !inU x us else inU x us),S)else none
  |some (.dic kus)=>(nR x).bind fun k=>some (.bl (if neg then !(iN kus k).isSome else(iN kus k).isSome),S)
  |some (.fdc ep kus)=>(nR x).bind fun k=>some (.bl (if neg then !(iN kus k).isSome else(iN kus k).isSome),S)
  |_=>none
 |_=>none
theorem Rf.isSome{m:List Addr}{H:Hp}{v:Option V}{u:Option U}(h:Rf K m H v u):v.isSome=u.isSome:=by
 cases v<;>cases u<;>first|rfl|exact h.elim
theorem J6{ca cb:CE}{neg:Bool}(t2:TE->TE->TE)(h2:∀ta tb σ H Q,(ta σ H fun y H1=>tb σ H1 fun x H2=>∃a o,x=.ref a/\DGet H2 a y o/\Q (.bl (if neg then !o.isSome else o.isSome)) H2)->t2 ta tb σ H Q):∀σ H Q,tE K (cOp (fIn neg) ca cb) σ H Q->tOp (rIn K neg) (tE K ca) (tE K cb) σ H Q\/t2 (tE K ca) (tE K cb) σ H Q:=by
 rintro σ H Q ⟨m,ρ,S,u,S',sr,lr,hc,post⟩;obtain⟨⟨x,S1⟩,h1,h⟩:=Q0.mp hc;obtain⟨⟨y,S2⟩,h3,h4⟩:=Q0.mp h;cases y with
 |tup us=>
  simp only[fIn]at h4;split at h4<;>try cases h4
  rename_i hf;refine .inl ⟨m,ρ,S,x,S1,sr,lr,h1,fun m1 v1 H1 e1 sr1 i1=>⟨m1,ρ,S1,.tup us,S',sr1,lr.mono e1,h3,fun m2 v2 H2 e2 sr2 i2=>?_⟩⟩;obtain⟨a,xs,rfl,sa,la⟩:=i2.of_tup;refine⟨a,xs,rfl,.inr sa,uu (i1.mono e2) hf.1,qo la hf.2,?_⟩;rw[zg (i1.mono e2) hf.1 la hf.2];exact post m2 _ H2 (e1.trans e2) sr2 .bl_
 |ref l=>
  simp only[fIn]at h4;split at h4<;>try cases h4
  ·rename_i us hS;split at h4<;>try cases h4
   rename_i hf;refine .inl ⟨m,ρ,S,x,S1,sr,lr,h1,fun m1 v1 H1 e1 sr1 i1=>⟨m1,ρ,S1,.ref l,S',sr1,lr.mono e1,h3,fun m2 v2 H2 e2 sr2 i2=>?_⟩⟩;obtain⟨a,ha,rfl⟩:=i2.of_ref;obtain⟨a',ha',xs,hx,la⟩:=sr2.get hS;rw[ha]at ha';cases ha';refine⟨a,xs,rfl,.inl (SqL.of hx),uu (i1.mono e2) hf.1,qo la hf.2,?_⟩;rw[zg (i1.mono e2) hf.1 la hf.2];exact post m2 _ H2 (e1.trans e2) sr2 .bl_
  ·rename_i kus hS;obtain⟨k,hk,h5⟩:=Q0.mp h4;cases h5;refine .inr (h2 _ _ _ _ _ ⟨m,ρ,S,x,S1,sr,lr,h1,fun m1 v1 H1 e1 sr1 i1=>⟨m1,ρ,S1,.ref l,S',sr1,lr.mono e1,h3,fun m2 v2 H2 e2 sr2 i2=>?_⟩⟩);obtain⟨a,ha,rfl⟩:=i2.of_ref;obtain⟨a',ha',kvs,hx,ip⟩:=sr2.get hS;rw[ha]at ha';cases ha';have ek:=jZ (i1.mono e2) hk;subst ek;refine⟨a,_,rfl,DGet.k hx,?_⟩;rw[(IsP.val ip).isSome];exact post m2 _ H2 (e1.trans e2) sr2 .bl_
  ·rename_i ep kus hS;obtain⟨k,hk,h5⟩:=Q0.mp h4;cases h5;refine .inr (h2 _ _ _ _ _ ⟨m,ρ,S,x,S1,sr,lr,h1,fun m1 v1 H1 e1 sr1 i1=>⟨m1,ρ,S1,.ref l,S',sr1,lr.mono e1,h3,fun m2 v2 H2 e2 sr2 i2=>?_⟩⟩);obtain⟨a,ha,rfl⟩:=i2.of_ref;obtain⟨a',ha',ob,es,kvs,hx,hd,ip⟩:=sr2.get hS;rw[ha]at ha';cases ha';have ek:=jZ (i1.mono e2) hk;subst ek;refine⟨a,_,rfl,DGet.kz hx,?_⟩;rw[(IsP.val ip).isSome];exact post m2 _ H2 (e1.trans e2) sr2 .bl_
 |_=>simp[fIn]at h4
variable{e a b:QK}{ca cb:CE}{pos:Pos}
theorem O7(hu:X.A.units+1<cLine)(ha:QE X a ca)(hb:QE X b cb)(hm:behindInMarks .In b=false):QE X (.Compare a [.In] [b] pos) (cOp (fIn false) ca cb):=
 ((pH yE ha hb hm).or (D0 (D3 hu ha hb) hm)).imp (J6 (neg:=false) Mp fun _ _ _ _ _ h=>h)
def fIx:U->U->Sto->Option (U×Sto):=fun x y S=>match x with
 |.tup us=>match y with
  |.int i=>(atI us i).bind fun u=>some (u,S)
  |_=>none
 |.ref l=>match S[l]? with
  |some (.lst us)=>(match y with
   |.int i=>(atI us i).bind fun u=>some (u,S)
   |_=>none)
  |some (.dic kus)=>(nR y).bind fun k=>(iN kus k).bind fun u=>some (u,S)
  |some (.fdc ep kus)=>(nR y).bind fun k=>(iN kus k).bind fun u=>some (u,S)
  |_=>none
 |.kl ns=>match y with
  |.int i=>(atI (ns.map U.int) i).bind fun u=>some (u,S)
  |_=>none
 |_=>none
theorem vC{K:Q1}{m:List Addr}{H:Hp}:∀ns:List Int,IsL K m H (ns.map V.int) (ns.map U.int)
 |[]=>.nil_
 |n::ns=>.cons_ .int_ (vC ns)
theorem Ac{m:List Addr}{H:Hp}{xs:List V}{us:List U}{i:Int}{u:U}(l:IsL K m H xs us)(h:atI us i=some u):∃v,atI xs i=some v/\Is K m H v u:=by
 unfold atI at h ⊢;rw[l.length];obtain⟨j,e1,e2⟩:=Q0.mp h;rw[e1];obtain⟨v,e3,e4⟩:=l.getD e2;exact⟨v,e3,e4⟩
theorem fg(hu:X.A.units+1<cLine)(ha:QE X a ca)(hb:QE X b cb)(hs:uL b)(hs2:Lc b):QE X (.Subscript a b pos) (cOp fIx ca cb):=
 ((Hz (FL.or J0) ha hb hs).or (AF hu ha hb hs2)).imp fun σ H Q hz=>my hz fun m ρ S u S' sr lr hc post=>by
 obtain⟨⟨x,S1⟩,h1,h⟩:=Q0.mp hc;obtain⟨⟨y,S2⟩,h3,h4⟩:=Q0.mp h;cases x with
 |tup us=>
  simp only[fIx]at h4;split at h4<;>try cases h4
  rename_i i;obtain⟨w,hw,h5⟩:=Q0.mp h4;cases h5;refine .inl ⟨m,ρ,S,_,S1,sr,lr,h1,fun m1 v1 H1 e1 sr1 i1=>⟨m1,ρ,S1,_,S',sr1,lr.mono e1,h3,fun m2 v2 H2 e2 sr2 i2=>.inr ?_⟩⟩;obtain⟨a,xs,rfl,sa,la⟩:=(i1.mono e2).of_tup;obtain⟨z,ez,iz⟩:=Ac la hw;exact⟨a,xs,i,z,rfl,i2.of_int,sa,ez,post m2 _ H2 (e1.trans e2) sr2 iz⟩
 |ref l=>
  simp only[fIx]at h4;split at h4<;>try cases h4
  ·rename_i us hS;split at h4<;>try cases h4
   rename_i i;obtain⟨w,hw,h5⟩:=Q0.mp h4;cases h5;refine .inl ⟨m,ρ,S,_,S1,sr,lr,h1,fun m1 v1 H1 e1 sr1 i1=>⟨m1,ρ,S1,_,S',sr1,lr.mono e1,h3,fun m2 v2 H2 e2 sr2 i2=>.inl ?_⟩⟩;obtain⟨a,ha,rfl⟩:=(i1.mono e2).of_ref;obtain⟨a',ha',xs,hx,la⟩:=sr2.get hS;rw[ha]at ha';cases ha';obtain⟨z,ez,iz⟩:=Ac la hw;exact⟨a,xs,i,z,rfl,i2.of_int,SqL.of hx,ez,post m2 _ H2 (e1.trans e2) sr2 iz⟩
  ·rename_i kus hS;obtain⟨k,hk,h5⟩:=Q0.mp h4;obtain⟨w,hw,h6⟩:=Q0.mp h5;cases h6;refine .inr ⟨m,ρ,S,_,S1,sr,lr,h1,fun m1 v1 H1 e1 sr1 i1=>⟨m1,ρ,S1,_,S',sr1,lr.mono e1,h3,fun m2 v2 H2 e2 sr2 i2=>?_⟩⟩;obtain⟨a,ha,rfl⟩:=(i1.mono e2).of_ref;obtain⟨a',ha',kvs,hx,ip⟩:=sr2.get hS;rw[ha]at ha';cases ha';have ek:=jZ i2 hk;subst ek;have rf:=IsP.val (k:=k) ip;rw[hw]at rf;cases hv:pO kvs k with
   |none=>rw[hv]at rf;exact rf.elim
   |some z=>
    rw[hv]at rf;exact⟨a,z,rfl,by have:=DGet.k (k:=k) hx;rw[hv]at this;exact this,post m2 _ H2 (e1.trans e2) sr2 rf⟩
  ·rename_i ep kus hS;obtain⟨k,hk,h5⟩:=Q0.mp h4;obtain⟨w,hw,h6⟩:=Q0.mp h5;cases h6;refine .inr ⟨m,ρ,S,_,S1,sr,lr,h1,fun m1 v1 H1 e1 sr1 i1=>⟨m1,ρ,S1,_,S',sr1,lr.mono e1,h3,fun m2 v2 H2 e2 sr2 i2=>?_⟩⟩;obtain⟨a,ha,rfl⟩:=(i1.mono e2).of_ref;obtain⟨a',ha',ob,es,kvs,hx,hd,ip⟩:=sr2.get hS;rw[ha]at ha';cases ha';have ek:=jZ i2 hk;subst ek;have rf:=IsP.val (k:=k) ip;rw[hw]at rf;cases hv:pO kvs k with
   |none=>rw[hv]at rf;exact rf.elim
   |some z=>
    rw[hv]at rf;exact⟨a,z,rfl,by have:=DGet.kz (k:=k) hx;rw[hv]at this;exact this,post m2 _ H2 (e1.trans e2) sr2 rf⟩
 |kl ns=>
  simp only[fIx]at h4;split at h4<;>try cases h4
  rename_i i;obtain⟨w,hw,h5⟩:=Q0.mp h4;cases h5;refine .inl ⟨m,ρ,S,_,S1,sr,lr,h1,fun m1 v1 H1 e1 sr1 i1=>⟨m1,ρ,S1,_,S',sr1,lr.mono e1,h3,fun m2 v2 H2 e2 sr2 i2=>.inl ?_⟩⟩;obtain⟨a,rfl,ka⟩:=(i1.mono e2).of_kl;obtain⟨z,ez,iz⟩:=Ac (vC (K:=X.K) (m:=m2) (H:=H2) ns) hw;exact⟨a,_,i,z,rfl,i2.of_int,ka.sq,ez,post m2 _ H2 (e1.trans e2) sr2 iz⟩
 |_=>simp[fIx]at h4
def nV:U->U->U->Sto->Option Sto:=fun o i v S=>match o with
 |.ref l=>match S[l]? with
  |some (.lst us)=>(match i with
   |.int k=>(ixN us.length k).bind fun j=>some (S.set l (.lst (us.set j v)))
   |_=>none)
  |some (.dic kus)=>(nR i).bind fun k=>if kus.length<LIM then some (S.set l (.dic (EF kus k v)))else none
  |_=>none
 |_=>none
def iL(co ci cv:CE):CS:=fun ρ S=>(cv ρ S).bind fun p=>(co ρ p.2).bind fun q=>(ci ρ q.2).bind fun r=>(nV q.1 r.1 p.1 r.2).bind fun S'=>some (.nx,ρ,S')
theorem js{o i:QK}{co ci cv:CE}{pos':Pos}(hu:X.A.units+1<cLine)(ho:QE X o co)(hi:QE X i ci)(hv:QE X e cv)
  (hs0:swapsWithSole [.Subscript o i pos'] e pos.line X.env=pure false:=by rfl) (hw:swappedStores [.Subscript o i pos'] e X.env=pure none:=by rfl)
  (h1:(assignEach [.Subscript o i pos'] X.env).map (·.2)=[assign (.Subscript o i pos') X.env]:=by rfl)
  (hs:Z9 e (some (.Subscript o i pos')) pos.line X.env=pure false:=by rfl)
  (ha:∀v,assign (.Subscript o i pos') X.env v=(do
   let ov <-holding [v] (eval o X.env)
   let iv <-holding [v,ov] (eval i X.env)
   standAt pos'
   holding [v,ov,iv] (setItem ov iv v)
   release [v,ov,iv] []):=by intro _;rfl):QS X (.Assign [.Subscript o i pos'] e pos) (iL co ci cv):=
 ((DS hv (DW ho hi AV ha) hs0 hw h1).or (Ay hu ho hi hv hs)).imp fun D σ H hz=>ux hz fun m ρ S o ρ' S' sr lr hc post=>by
 obtain⟨⟨v,S1⟩,h1,h⟩:=Q0.mp hc;obtain⟨⟨ou,S2⟩,h2,h⟩:=Q0.mp h;obtain⟨⟨iu,S3⟩,h3,h⟩:=Q0.mp h;obtain⟨S4,h4,h⟩:=Q0.mp h;cases h;cases ou with
 |ref l=>
  simp only[nV]at h4;split at h4<;>try cases h4
  ·rename_i us hS;split at h4<;>try cases h4
   rename_i k;obtain⟨j,hj,h5⟩:=Q0.mp h4;cases h5;refine .inl ⟨m,ρ,S,v,S1,sr,lr,h1,fun m1 v1 H1 e1 sr1 i1=>⟨m1,ρ,S1,_,S2,sr1,lr.mono e1,h2,fun m2 v2 H2 e2 sr2 i2=>⟨m2,ρ,S2,_,S3,sr2,lr.mono (e1.trans e2),h3,fun m3 v3 H3 e3 sr3 i3=>?_⟩⟩⟩;obtain⟨a,ha,rfl⟩:=(i2.mono e3).of_ref;obtain⟨a',ha',xs,hx,la⟩:=sr3.get hS;rw[ha]at ha';cases ha';have e13:=(e1.trans e2).trans e3;have ek:Ext X.K m3 H3 m3 (upd H3 a (.lst (xs.set j v1))):=.of (sr3.keep ha _);refine⟨a,xs,k,j,rfl,i3.of_int,hx,by rw[la.length];exact hj,post m3 σ _ (e13.trans ek) (sr3.put ha ⟨_,aU,((la.set (i1.mono (e2.trans e3)))).mono ek⟩) (lr.mono (e13.trans ek))⟩
  ·rename_i kus hS;obtain⟨k,hk,h5⟩:=Q0.mp h4;split at h5<;>try cases h5
   have hlen:kus.length<LIM:=by assumption
   refine .inr ⟨m,ρ,S,v,S1,sr,lr,h1,fun m1 v1 H1 e1 sr1 i1=>⟨m1,ρ,S1,_,S2,sr1,lr.mono e1,h2,fun m2 v2 H2 e2 sr2 i2=>⟨m2,ρ,S2,_,S3,sr2,lr.mono (e1.trans e2),h3,fun m3 v3 H3 e3 sr3 i3=>?_⟩⟩⟩;obtain⟨a,ha,rfl⟩:=(i2.mono e3).of_ref;obtain⟨a',ha',kvs,hx,ip⟩:=sr3.get hS;rw[ha]at ha';cases ha';have ek:=jZ i3 hk;subst ek;have e13:=(e1.trans e2).trans e3;have ee:Ext X.K m3 H3 m3 (upd H3 a (.dK (qD kvs k v1))):=.of (sr3.keep ha _);exact⟨a,_,rfl,KH.k hx (MZ (by rw[IsP.length ip];exact hlen)),post m3 σ _ (e13.trans ee) (sr3.put ha ⟨_,aU,(IsP.put ip (i1.mono (e2.trans e3))).mono ee⟩) (lr.mono (e13.trans ee))⟩
 |_=>simp[nV]at h4
end
theorem kE{α:Type}[DecidableEq α]:∀{l l':List α},l.Nodup->(∀x∈l,x∈l')->l.length<=l'.length
 |[],_,_,_=>ZF _
 |x::r,l',nd,s=>by
  obtain⟨h1,h2⟩:=List.nodup_cons.mp nd;have hx:=s x QY;have:=kE (l:=r) (l':=l'.erase x) h2 fun y hy=>(List.mem_erase_of_ne (fun z=>h1 (by rw[<-z];exact hy))).mpr (s y (QZ _ hy));rw[List.length_erase_of_mem hx]at this;have hp:=List.length_pos_of_mem hx;rw[Q5];omega
theorem fW(f:Str)(v:V):∀fs:List (Str×V),(oC f v fs).map (·.1)=if f∈fs.map (·.1)then fs.map (·.1)else fs.map (·.1)++[f]
 |[]=>by simp[oC]
 |(g,x)::r=>by
  unfold oC;by_cases e:g=f
  ·simp[e]
  ·have ih:=fW f v r;rw[if_neg e,QF,QF,ih];by_cases c:f∈r.map (·.1)
   ·rw[if_pos c,if_pos (QZ _ c)]
   ·rw[if_neg c,if_neg (fun z=>by rcases Qz.mp z with z|z;exact e z.symm;exact c z)];rfl
section
variable{X:Cx}{K:Q1}{m:List Addr}{H:Hp}{c:Cl}{fs:List (Str×V)}{fus:List (Option U)}
theorem InF.room(h:InF K m H c fs fus):fs.length<1000:=by
 have:=kE h.knd h.sub;rw[QV]at this;have:=h.few;omega
theorem nN{f:Str}:∀{fs:List (Str×V)},f∉fs.map (·.1)->fs.lookup f=none
 |[],_=>rfl
 |(g,x)::r,h=>by
  rw[List.lookup_cons];have h1:(f == g)=false:=by
   apply beq_eq_false_iff_ne.mpr;intro z;exact h (by rw[z];exact QY)
  rw[h1];exact nN fun z=>h (QZ _ z)
def InF.none_{f:Str}(h:InF K m H c fs fus)(hf:f∉c.ns):fs.lookup f=none:=nN fun z=>hf (h.sub f z)
theorem InF.put{f:Str}{i:Nat}{v:V}{u:U}(h:InF K m H c fs fus)(hi:c.ns[i]?=some f)(hv:Is K m H v u):InF K m H c (oC f v fs) (fus.set i (some u)):=by
 have hfm:f∈c.ns:=ZU hi;refine⟨h.nd,h.few,?_,fun x hx=>?_,by simp[h.len],fun j x hj=>?_⟩
 ·rw[fW];split
  ·exact h.knd
  ·rename_i hn;rw[List.nodup_append];exact⟨h.knd,by simp,fun a ha b hb z=>by simp at hb;subst hb;subst z;exact hn ha⟩
 ·rw[fW]at hx;split at hx
  ·exact h.sub x hx
  ·rcases Qt.mp hx with z|z
   ·exact h.sub x z
   ·simp at z;subst z;exact hfm
 ·rw[jW];by_cases e:i=j
  ·subst e;rw[hi]at hj;cases hj;rw[if_pos rfl];have:i<fus.length:=by rw[h.len];exact(Q6.mp hi).1
   rw[ZK this];exact hv
  ·have ne:x≠f:=fun z=>by
    subst z;obtain⟨p1,e1⟩:=Q6.mp hi;obtain⟨p2,e2⟩:=Q6.mp hj;exact e ((List.getElem_inj h.nd).mp (e1.trans e2.symm))
   rw[if_neg ne,QM e];exact h.at_ j x hj
theorem InF.new(nd:c.ns.Nodup)(few:c.ns.length<1000):InF K m H c [] (Q9 c.ns.length none):=by
 refine⟨nd,few,by simp,fun x hx=>by simp at hx,by simp,fun i x hi=>?_⟩;rw[ZX];split<;>exact trivial
open Classical in
def Ke(c:Cl)(i:Nat)(x:U)(S:Sto):Option (U×Sto):=match x with
 |.ref l=>match S[l]? with
  |some (.ins c' fus)=>if c'=c then(fus[i]?).join.bind fun u=>some (u,S)else none
  |_=>none
 |_=>none
def jx(c:Cl)(i:Nat)(ca:CE):CE:=fun ρ S=>(ca ρ S).bind fun p=>Ke c i p.1 p.2
open Classical in
def zr(c:Cl)(i:Nat)(x v:U)(S:Sto):Option Sto:=match x with
 |.ref l=>match S[l]? with
  |some (.ins c' fus)=>if c'=c then some (S.set l (.ins c (fus.set i (some v))))else none
  |_=>none
 |_=>none
def lB(c:Cl)(i:Nat)(ca cv:CE):CS:=fun ρ S=>(cv ρ S).bind fun p=>(ca ρ p.2).bind fun q=>(zr c i q.1 p.1 q.2).bind fun S'=>some (.nx,ρ,S')
variable{e:QK}{ca cv:CE}{pos:Pos}{f:Str}{i:Nat}
theorem hJ(hcl:Cls X.K c.C)(hna:jK X.K c.C f)(hi:c.ns[i]?=some f)(h:QE X e ca)(hb:attributeBase e f X.env (eval e X.env)=eval e X.env:=by rfl):QE X (.Attribute e f pos) (jx c i ca):=(DZ h hb).imp fun σ H Q hz=>my hz fun m ρ S u S' sr lr hc post=>by
 obtain⟨⟨x,S1⟩,h1,h2⟩:=Q0.mp hc;refine⟨m,ρ,S,x,S1,sr,lr,h1,fun m1 v1 H1 e1 sr1 i1=>?_⟩;cases x with
 |ref l=>
  simp only[Ke]at h2;split at h2<;>try cases h2
  rename_i c' fus hS;split at h2<;>try cases h2
  rename_i hc';subst hc';obtain⟨w,hw,h3⟩:=Q0.mp h2;cases h3;obtain⟨a,ha,rfl⟩:=i1.of_ref;obtain⟨a',ha',dx,fs,hx,inf⟩:=sr1.get hS;rw[ha]at ha';cases ha';have rf:=inf.at_ i f hi;rw[hw]at rf;cases hv:fs.lookup f with
  |none=>rw[hv]at rf;exact rf.elim
  |some z=>
   rw[hv]at rf;exact⟨a,_,dx,fs,z,rfl,hx,hcl,hna,hv,post m1 _ H1 e1 sr1 rf⟩
 |_=>simp[Ke]at h2
theorem i8{o:QK}{co:CE}{pos':Pos}(hcl:Cls X.K c.C)(hna:jK X.K c.C f)(hi:c.ns[i]?=some f)(ho:QE X o co)(hv:QE X e cv)(hs:Z9 e (some (.Attribute o f pos')) pos.line X.env=pure false:=by rfl):QS X (.Assign [.Attribute o f pos'] e pos) (lB c i co cv):=(DR ho hv hs).imp fun D σ H hz=>ux hz fun m ρ S o ρ' S' sr lr hc post=>by
 obtain⟨⟨v,S1⟩,h1,h⟩:=Q0.mp hc;obtain⟨⟨x,S2⟩,h2,h⟩:=Q0.mp h;obtain⟨S3,h3,h⟩:=Q0.mp h;cases h;refine⟨m,ρ,S,v,S1,sr,lr,h1,fun m1 v1 H1 e1 sr1 i1=>⟨m1,ρ,S1,x,S2,sr1,lr.mono e1,h2,fun m2 v2 H2 e2 sr2 i2=>?_⟩⟩;cases x with
 |ref l=>
  simp only[zr]at h3;split at h3<;>try cases h3
  rename_i c' fus hS;split at h3<;>try cases h3
  have hc':c'=c:=by assumption
  subst hc';obtain⟨a,ha,rfl⟩:=i2.of_ref;obtain⟨a',ha',dx,fs,hx,inf⟩:=sr2.get hS;rw[ha]at ha';cases ha';have ee:Ext X.K m2 H2 m2 (upd H2 a (.ins c'.C dx (oC f v1 fs))):=.of (sr2.keep ha _);have e12:=e1.trans e2;exact⟨a,_,dx,fs,rfl,hx,hcl,hna,inf.room,post m2 σ _ (e12.trans ee) (sr2.put ha ⟨dx,_,aU,(inf.put hi (i1.mono e2)).mono ee⟩) (lr.mono (e12.trans ee))⟩
 |_=>simp[zr]at h3
structure ef(P:QL)(w:Qu)(K:Q1)(mg:Str->Option Q2)(base:Heap)(c:Cl)(mn:Str)(k:Nat)(ps:List Str)(f:Fn):Prop where
 ex:∃fa fd,Ck K c.C mn fa/\j9 P w K mg base CX0 k fa fd ps (Ak K f)/\fT K fd ps []
theorem ef.mono{P:QL}{w:Qu}{mg:Str->Option Q2}{base:Heap}{mn:Str}{j k:Nat}{ps:List Str}{f:Fn}(h:ef P w K mg base c mn j ps f)(l:j<=k):ef P w K mg base c mn k ps f:=by
 obtain⟨fa,fd,a,b,d⟩:=h.ex;exact⟨fa,fd,a,b.mono l,d⟩
open Classical in
def zt(c:Cl)(f:Fn)(x:U)(S:Sto)(args:Sto->Option (List U×Sto)):Option (U×Sto):=match x with
 |.ref l=>match S[l]? with
  |some (.ins c' _)=>if c'=c then(args S).bind fun q=>f (.ref l::q.1) q.2 else none
  |_=>none
 |_=>none
def bc(c:Cl)(f:Fn)(ca:CE)(cr:CA):CE:=fun ρ S=>(ca ρ S).bind fun p=>zt c f p.1 p.2 (cr ρ)
theorem vq{mn:Str}{g:Fn}{co:CE}{cr:CA}(hmn:mn∉c.ns):∀σ H Q,tE K (bc c g co cr) σ H Q->wj c.C mn (Ak K g) [] E0 (tE K co) (tA K cr) σ H Q:=by
 rintro σ H Q ⟨m,ρ,S,u,S',sr,lr,hc,post⟩;obtain⟨⟨x,S1⟩,h1,h2⟩:=Q0.mp hc;refine⟨m,ρ,S,x,S1,sr,lr,h1,fun m1 v1 H1 e1 sr1 i1=>?_⟩;cases x with
 |ref l=>
  simp only[zt]at h2;split at h2<;>try cases h2
  rename_i c' fus hS;split at h2<;>try cases h2
  rename_i hc';subst hc';obtain⟨⟨us,S2⟩,h3,h4⟩:=Q0.mp h2;obtain⟨a,ha,rfl⟩:=i1.of_ref;obtain⟨a',ha',dx,fs,hx,inf⟩:=sr1.get hS;rw[ha]at ha';cases ha';refine⟨a,dx,fs,rfl,hx,inf.none_ hmn,m1,ρ,S1,us,S2,sr1,lr.mono e1,h3,fun m2 vs H2 e2 sr2 i2=>?_⟩;exact⟨m2,_,S2,u,S',.cons_ (i1.mono e2) (by simpa using i2),sr2,h4,post.mono (e1.trans e2)⟩
 |_=>simp[zt]at h2
theorem dZ{mn:Str}{g:Fn}{k:Nat}{ps:List Str}{o:QK}{es:List QK}{co:CE}{cr:CA}{apos:Pos}{pl:Sem Bool}(hcl:Cls X.K c.C)(F:ef X.prog X.w X.K X.mg X.base c mn k ps g)(hr:fZ k X.A)(hmn:mn∉c.ns)(ho:QE X o co)(ha:QA X (e::es) cr)
  (hst:Q7 (e::es) X.env=(false,eval e X.env)::Q7 es X.env:=by rfl) (hpl:(Qa pos (Q7 es X.env)).any (·.1)=false:=by rfl) (ht:eval (.Call (.Attribute o mn apos) (e::es) [] pos) X.env=(do
   let ov <-eval o X.env
   standAt apos.atName
   let (f,first) <-holding [ov] (getMethod ov mn pl)
   callWith pos f first (Qa pos (Q7 (e::es) X.env)) (backToKw pos (keywordEach [] X.env))):=by rfl):QE X (.Call (.Attribute o mn apos) (e::es) [] pos) (bc c g co cr):=by
 obtain⟨fa,fd,hm,F,hb⟩:=F.ex;exact(uS ho hcl hm F hr hb .nil Bu ha.h hst hpl ht).imp (vq hmn)
theorem cY{mn:Str}{g:Fn}{k:Nat}{ps:List Str}{o:QK}{co:CE}{apos:Pos}{pl:Sem Bool}(hcl:Cls X.K c.C)(F:ef X.prog X.w X.K X.mg X.base c mn k ps g)(hr:fZ k X.A)(hmn:mn∉c.ns)(ho:QE X o co)
  (ht:eval (.Call (.Attribute o mn apos) [] [] pos) X.env=(do
   let ov <-eval o X.env
   standAt apos.atName
   let (f,first) <-holding [ov] (getMethod ov mn pl)
   callWith pos f first (Qa pos (Q7 [] X.env)) (backToKw pos (keywordEach [] X.env))):=by rfl):QE X (.Call (.Attribute o mn apos) [] [] pos) (bc c g co aB):=by
 obtain⟨fa,fd,hm,F,hb⟩:=F.ex;refine(qO ho hcl hm F hr hb .nil Bu ht).imp fun σ H Q h=>?_;obtain⟨m,ρ,S,u,S',sr,lr,hc,k⟩:=vq hmn σ H Q h;refine⟨m,ρ,S,u,S',sr,lr,hc,fun m1 v1 H1 e1 sr1 i1=>?_⟩;obtain⟨a,dx,fs,h1,h2,h3,m2,ρ2,S2,us,S3,sr2,lr2,h4,h5⟩:=k m1 v1 H1 e1 sr1 i1;cases h4;exact⟨a,dx,fs,h1,h2,h3,h5 m2 [] H1 .refl sr2 .nil_⟩
structure CMk(P:QL)(w:Qu)(K:Q1)(mg:Str->Option Q2)(base:Heap)(c:Cl)(x:Str)(k:Nat)(ps:List Str)(f:Fn):Prop where
 ex:∃fa fd,Mk K c.C fa/\j9 P w K mg base CX0 k fa fd ps (Ak K f)/\fT K fd ps []/\mg x=some (.ref c.C)
 nd:c.ns.Nodup
 few:c.ns.length<1000
theorem CMk.mono{P:QL}{w:Qu}{mg:Str->Option Q2}{base:Heap}{x:Str}{j k:Nat}{ps:List Str}{f:Fn}(h:CMk P w K mg base c x j ps f)(l:j<=k):CMk P w K mg base c x k ps f:=by
 obtain⟨fa,fd,a,b,d⟩:=h.ex;exact⟨⟨fa,fd,a,b.mono l,d⟩,h.nd,h.few⟩
def qp(c:Cl)(f:Fn):Fn:=fun us S=>(f (.ref S.length::us) (S++[.ins c (Q9 c.ns.length none)])).bind fun p=>match p.1 with
 |.non=>some (.ref S.length,p.2)
 |_=>none
theorem BH{g:Fn}{cr:CA}(nd:c.ns.Nodup)(few:c.ns.length<1000):∀σ H Q,tE K (cCB (qp c g) cr) σ H Q->Eg c.C (Ak K g) [] E0 (tA K cr) σ H Q:=by
 rintro σ H Q ⟨m,ρ,S,u,S',sr,lr,hc,post⟩;obtain⟨⟨us,S1⟩,h1,h2⟩:=Q0.mp hc;obtain⟨⟨w,S2⟩,h3,h4⟩:=Q0.mp h2;refine⟨m,ρ,S,us,S1,sr,lr,h1,fun m1 vs H1 e1 sr1 i1 x dx hx hdx ne=>?_⟩;cases w with
 |non=>
  cases h4;have s1:sJ H1 (upd H1 dx (.own x)):=cS hdx _;have hx2:(upd H1 dx (.own x)) x=none:=by rw[aY (Ne.symm ne)];exact hx
  have ee:Ext K m1 H1 (m1++[x]) (upd (upd H1 dx (.own x)) x (.ins c.C dx [])):=.new ⟨fun b xs q=>(dU hx2 _).t b xs ((cV s1).t b xs q),fun b xs q=>(dU hx2 _).l b xs ((cV s1).l b xs q),fun b xs q=>(dU (K:=K) hx2 _).c b xs ((cV (K:=K) s1).c b xs q)⟩;refine⟨m1++[x],.ref S1.length::us,S1++[.ins c (Q9 c.ns.length none)],.non,S2,.cons_ (.ref_ (h7 sr1.len)) (by simpa using i1.mono ee),(sr1.same s1).new (o:=.ins c (Q9 c.ns.length none)) hx2 ⟨dx,[],aU,InF.new nd few⟩,h3,fun m2 v2 H2 e2 sr2 i2=>⟨i2.of_non,?_⟩⟩;exact post m2 _ H2 ((e1.trans ee).trans e2) sr2 (.ref_ (e2.get (h7 sr1.len)))
 |_=>simp at h4
theorem CU{x:Str}{g:Fn}{k:Nat}{ps:List Str}{es:List QK}{cr:CA}{p:Pos}(M:CMk X.prog X.w X.K X.mg X.base c x k ps g)(hr:fZ (k+1) X.A)(hg:Gl X x)(ha:QA X (e::es) cr)
  (hdb:(x == ("__debug__":Str))=false:=by decide) (he:Q7 (e::es) X.env=(false,eval e X.env)::Q7 es X.env:=by rfl) (hpl:(Qa pos (Q7 es X.env)).any (·.1)=false:=by rfl):QE X (.Call (.Name x p) (e::es) [] pos) (cCB (qp c g) cr):=by
 obtain⟨fa,fd,hm,F,hb,hx⟩:=M.ex;exact(AB hm F hr hg hx hb .nil Bu ha.h hdb he hpl).imp (BH M.nd M.few)
def NB:CE:=fun _ S=>some (.ref S.length,S++[.dic []])
def qt(cd ck cx:CE):CE:=fun ρ S=>(cd ρ S).bind fun p=>match p.1 with
 |.ref l=>match p.2[l]? with
  |some (.dic _)=>(ck ρ p.2).bind fun q=>(cx ρ q.2).bind fun r=>match r.2[l]? with
   |some (.dic kus)=>(nR q.1).bind fun k=>some ((iN kus k).getD r.1,r.2)
   |_=>none
  |_=>none
 |_=>none
theorem IM{o e f:QK}{cd ck cx:CE}{apos:Pos}(hu:X.A.units+1<cLine)(ho:QE X o cd)(he:QE X e ck)(hf:QE X f cx)(hm:M2 X o "get" apos e f pos):QE X (.Call (.Attribute o "get" apos) [e,f] [] pos) (qt cd ck cx):=(xE hu ho he hf hm).imp fun σ H Q hz=>my hz fun m ρ S u S' sr lr hc post=>by
 obtain⟨⟨x,S1⟩,h1,h⟩:=Q0.mp hc;refine⟨m,ρ,S,x,S1,sr,lr,h1,fun m1 v1 H1 e1 sr1 i1=>?_⟩;cases x with
 |ref l=>
  simp only at h;split at h<;>try cases h
  rename_i kus0 hS;obtain⟨⟨ku,S2⟩,h2,h⟩:=Q0.mp h;obtain⟨⟨xu,S3⟩,h3,h⟩:=Q0.mp h;simp only at h;split at h<;>try cases h
  rename_i kus hS3;obtain⟨k,hk,h⟩:=Q0.mp h;cases h;obtain⟨a,ha,rfl⟩:=i1.of_ref;obtain⟨a',ha',kvs0,hx0,_⟩:=sr1.get hS;rw[ha]at ha';cases ha';refine⟨a,rfl,.inl ⟨kvs0,.inl hx0⟩,m1,ρ,S1,ku,S2,sr1,lr.mono e1,h2,fun m2 v2 H2 e2 sr2 i2=>⟨m2,ρ,S2,xu,_,sr2,lr.mono (e1.trans e2),h3,fun m3 v3 H3 e3 sr3 i3=>?_⟩⟩;obtain⟨a',ha',kvs,hx,ip⟩:=sr3.get hS3;rw[(e2.trans e3).get ha]at ha';cases ha';have ek:=jZ (i2.mono e3) hk;subst ek;have rf:=IsP.val (k:=k) ip;refine⟨_,DGet.k hx,post m3 _ H3 ((e1.trans e2).trans e3) sr3 ?_⟩;cases hv:pO kvs k with
  |none=>
   cases hw:iN kus k with
   |none=>exact i3
   |some w=>rw[hv,hw]at rf;exact rf.elim
  |some v=>
   cases hw:iN kus k with
   |none=>rw[hv,hw]at rf;exact rf.elim
   |some w=>rw[hv,hw]at rf;exact rf
 |_=>simp at h
end
def A4(n:Nat)(caps:List Nat)(ρ:Rho):Rho:=Q9 n none++caps.map fun i=>(ρ[i]?).getD none
open Classical in
def mz(ok:Sto->Prop)(g:CG)(ce:CE)(l:Nat):List U->Rho->Sto->Option Sto
 |[],_,S=>if ok S then some S else none
 |u::us,ρ,S=>if ok S then(g u ρ S).bind fun p=>(ce p.1 p.2).bind fun r=>match r.2[l]? with
  |some (.lst ys)=>if ys.length<LIM then mz ok g ce l us p.1 (r.2.set l (.lst (ys++[r.1])))else none
  |_=>none else none
def oO(ci:CI)(g:CG)(ce:CE)(n:Nat)(caps:List Nat):CE:=fun ρ S=>(ci ρ S).bind fun p=>(mz p.2.1 g ce p.2.2.length p.1 (A4 n caps ρ) (p.2.2++[.lst []])).bind fun S'=>some (.ref p.2.2.length,S')
section
variable{X:Cx}{K:Q1}
theorem FD{m:List Addr}{H:Hp}{ρ:Rho}{σ:L2.St}{n:Nat}{caps:List Nat}(lr:Lr K m H ρ σ):Lr K m H (A4 n caps ρ) (OG.stC n caps σ):=by
 refine⟨by simp[A4,OG.stC],fun j u e=>?_⟩;unfold A4 at e;unfold OG.stC;by_cases c:j<n
 ·rw[Qx (by simpa using c),ZX]at e;split at e<;>cases e
 ·rw[Qb (by simp;omega),Z0]at e ⊢;simp only[ZP]at e ⊢;cases q:caps[j-n]? with
  |none=>rw[q]at e;simp at e
  |some i=>
   rw[q]at e;simp only[Option.map_some,Option.some.injEq]at e ⊢;have e2:ρ[i]?=some (some u):=by
    cases z:ρ[i]? with
    |none=>rw[z]at e;simp at e
    |some y=>rw[z]at e;simp at e;rw[e]
   obtain⟨v,h1,h2⟩:=lr.at_ i u e2;exact⟨v,by rw[h1];rfl,h2⟩
theorem zN{g:CG}{ce:CE}{n:Nat}{caps:List Nat}{J:It}{us:List U}{ok:Sto->Prop}{Q:VK}{m1:List Addr}{H1:Hp}{S1 S':Sto}{ρ:Rho}{σ:L2.St}{l:Addr}(sr1:Sr K m1 S1 H1)(lr:Lr K m1 H1 ρ σ)(ito:Gf K J m1 H1 us ok)(hl:H1 l=none)(h2:mz ok g ce S1.length us (A4 n caps ρ) (S1++[.lst []])=some S')
  (post:∀m2 H2,Ext K (m1++[l]) (upd H1 l (.lst [])) m2 H2->Sr K m2 S' H2->Q (.ref l) H2) :
  ∃W:Nat->Nat->L2.St->Hp->Prop,(∃m,W 0 m (OG.stC n caps σ) (upd H1 l (.lst [])))/\
 ∀i m σ' H2,W i m σ' H2->(J.stop i H2/\Q (.ref l) H2)\/(J.go i H2/\∃N:L2.St->Hp->Prop,(∀σ'' H',N σ'' H'->∃m',m'<m/\W (i+1) m' σ'' H')/\
  ∀x H3,J.yld i H2 x H3->tG K g x σ' H3 fun σ2 H4=>tE K ce σ2 H4 fun v H5=>∃ys,H5 l=some (.lst ys)/\ys.length<QB/\N σ2 (upd H5 l (.lst (ys++[v])))):=by
 have ee:Ext K m1 H1 (m1++[l]) (upd H1 l (.lst [])):=.new (dU hl _);let W:Nat->Nat->L2.St->Hp->Prop:=fun i k σ2 H2=>k=us.length-i/\i<=us.length/\∃m2 ρ2 S2,Ext K (m1++[l]) (upd H1 l (.lst [])) m2 H2/\Sr K m2 S2 H2/\Lr K m2 H2 ρ2 σ2/\mz ok g ce S1.length (us.drop i) ρ2 S2=some S'
 refine⟨W,⟨us.length,by simp,ZF _,m1++[l],A4 n caps ρ,S1++[.lst []],.refl,sr1.new (o:=.lst []) hl ⟨[],aU,.nil_⟩,FD (lr.mono ee),by simpa using h2⟩,?_⟩;rintro i k σ2 H2 ⟨rfl,hi,m2,ρ2,S2,e2,sr2,lr2,hl2⟩;by_cases hlt:i<us.length
 ·have hu:=Qr hlt;rw[n5 hu]at hl2;unfold mz at hl2;split at hl2
  ·rename_i hok;obtain⟨⟨ρ3,S3⟩,h3,hl2⟩:=Q0.mp hl2;obtain⟨⟨u4,S4⟩,h4,hl2⟩:=Q0.mp hl2;simp only at hl2;split at hl2<;>try cases hl2
   rename_i ys hys;split at hl2<;>try cases hl2
   rename_i hlen;obtain⟨hgo,hy⟩:=(ito m2 S2 H2 i (ee.trans e2) sr2 hok).1 _ hu;refine .inr ⟨hgo,W (i+1) (us.length-(i+1)),fun σ' H' w'=>⟨_,by omega,w'⟩,fun x H3 y=>?_⟩;obtain⟨e3,sr3,ix⟩:=hy x H3 y;refine⟨m2,ρ2,S2,_,ρ3,S3,sr3,lr2.mono e3,ix,h3,fun m4 σ4 H4 e4 sr4 lr4=>⟨m4,ρ3,S3,u4,S4,sr4,lr4,h4,fun m5 v5 H5 e5 sr5 i5=>?_⟩⟩;obtain⟨a',ha',xs,hx,il⟩:=sr5.get hys;have ha:m5[S1.length]?=some l:=(((e2.trans e3).trans e4).trans e5).get (h7 sr1.len);rw[ha]at ha';cases ha';have eu:Ext K m5 H5 m5 (upd H5 l (.lst (xs++[v5]))):=.of (sr5.keep ha _);refine⟨xs,hx,MZ (by rw[il.length];exact hlen),rfl,hlt,m5,ρ3,_,((((e2.trans e3).trans e4).trans e5).trans eu),sr5.put (o:=.lst (ys++[u4])) ha ⟨_,aU,(il.append (.cons_ i5 .nil_)).mono eu⟩,(lr4.mono (e5.trans eu)),hl2⟩
  ·cases hl2
 ·have e:i=us.length:=by omega
  subst e;rw[List.drop_length]at hl2;unfold mz at hl2;split at hl2
  ·rename_i hok;cases hl2;exact .inl ⟨(ito m2 _ H2 _ (ee.trans e2) sr2 hok).2 (QU _),post m2 H2 e2 sr2⟩
  ·cases hl2
theorem B8{ci:CI}{g:CG}{ce:CE}{n:Nat}{caps:List Nat}:∀σ H Q,tE K (oO ci g ce n caps) σ H Q->Eh (tI K ci) (tG K g) (tE K ce) n caps σ H Q:=by
 rintro σ H Q ⟨m,ρ,S,u,S',sr,lr,hc,post⟩;obtain⟨⟨us,ok,S1⟩,h1,h2⟩:=Q0.mp hc;obtain⟨S2,h2,h3⟩:=Q0.mp h2;cases h3;refine⟨m,ρ,S,us,ok,S1,sr,lr,h1,fun m1 H1 J e1 sr1 ito l hl=>?_⟩;have ee:Ext K m1 H1 (m1++[l]) (upd H1 l (.lst [])):=.new (dU hl _);exact zN sr1 (lr.mono e1) ito hl h2 fun m2 H2 e2 sr2=>post m2 _ H2 ((e1.trans ee).trans e2) sr2 (.ref_ (e2.get (h7 sr1.len)))
theorem CV{Nc capN tn:List Str}{scope:Scope}{cl:List (Str×Addr)}{n:Nat}{caps:List Nat}{tg iter elt:QK}{pos:Pos}{ci:CI}{g:CG}{ce:CE}
  (hc:X.calm=true) (hi:QI X tg iter ci) (hg:∀s3 H3 fp,WG (cxC X Nc scope cl s3 H3 fp) tg (tG X.K g)) (he:∀s3 H3 fp,WE (cxC X Nc scope cl s3 H3 fp) elt (tE X.K ce))
  (hclos:closureFor scope X.env=pure cl) (hkind:scope.kind=.function) (hnl:∀x∈scope.names,x.2=.local->scope.names.lookup x.1=some .local) (hcell:∀x∈scope.names,x.2≠.cell)
  (hcl:Ds X.env cl) (hhas:((relabel scope X.env).names.all fun p=>!(p.2 == .cell||p.2 == .free)||(cl.lookup p.1).isSome)=true)
  (hcap:Paired (Cap X scope cl) caps capN) (hN:Nc=tn++capN) (hn:tn.length=n)
  (hs:∀x,foldedSetIterable iter X.env x=pure x:=by intro _;rfl) :
  QE X (.ListComp elt [⟨tg,iter,[],0⟩] scope pos) (oO ci g ce n caps):=(AG hc hi hg he hclos hkind hnl hcell hcl hhas hcap hN hn hs).imp B8
def gN:Fn
 |[.tup us],S=>some (.int us.length,S)
 |[.ref l],S=>match S[l]? with
  |some (.lst us)=>some (.int us.length,S)
  |some (.dic us)=>some (.int us.length,S)
  |_=>none
 |[.kl ns],S=>some (.int ns.length,S)
 |_,_=>none
abbrev N0(K:Q1):List V->Hp->VK->Prop:=fun xs H Q=>(∃p ys,xs=[.ref p]/\(SqL K H p ys\/SqT K H p ys)/\Q (.int ys.length) H)\/∃a kvs,xs=[V.ref a]/\H a=some (.dK kvs)/\Q (.int kvs.length) H
def ja:f7 X (.builtin "len") (N0 X.K):=sC.or zS
theorem IsL.one{m:List Addr}{H:Hp}{vs:List V}{u:U}(h:IsL K m H vs [u]):∃v,vs=[v]/\Is K m H v u:=by
 obtain⟨x,r,rfl,i,t⟩:=h.of_cons;rw[t.of_nil];exact⟨x,rfl,i⟩
theorem IsL.two{m:List Addr}{H:Hp}{vs:List V}{u w:U}(h:IsL K m H vs [u,w]):∃v x,vs=[v,x]/\Is K m H v u/\Is K m H x w:=by
 obtain⟨x,r,rfl,i,t⟩:=h.of_cons;obtain⟨y,rfl,j⟩:=t.one;exact⟨x,y,rfl,i,j⟩
theorem i9:oR K (N0 K) gN:=by
 intro m S H us vs u S' Q sr i hf post;match us,hf with
 |[.tup ws],hf=>
  cases hf;obtain⟨v,rfl,iv⟩:=i.one;obtain⟨a,xs,rfl,sa,la⟩:=iv.of_tup;exact .inl ⟨a,xs,rfl,.inr sa,by rw[la.length];exact post m _ H .refl sr .int_⟩
 |[.ref l],hf=>
  obtain⟨v,rfl,iv⟩:=i.one;obtain⟨a,ha,rfl⟩:=iv.of_ref;simp only[gN]at hf;split at hf<;>try cases hf
  ·rename_i ws hS;obtain⟨a',ha',xs,hx,la⟩:=sr.get hS;rw[ha]at ha';cases ha';exact .inl ⟨a,xs,rfl,.inl (SqL.of hx),by rw[la.length];exact post m _ H .refl sr .int_⟩
  ·rename_i ws hS;obtain⟨a',ha',xs,hx,la⟩:=sr.get hS;rw[ha]at ha';cases ha';exact .inr ⟨a,xs,rfl,hx,by rw[IsP.length la];exact post m _ H .refl sr .int_⟩
 |[.kl ns],hf=>
  cases hf;obtain⟨v,rfl,iv⟩:=i.one;obtain⟨a,rfl,ka⟩:=iv.of_kl;exact .inl ⟨a,_,rfl,.inl ka.sq,by rw[QV];exact post m _ H .refl sr .int_⟩
def FY:Fn
 |[.tup us],S=>some (.ref S.length,S++[.lst us])
 |[.ref l],S=>match S[l]? with
  |some (.lst us)=>some (.ref S.length,S++[.lst us])
  |_=>none
 |_,_=>none
def mh:Fn
 |[.tup us],S=>some (.tup us,S)
 |[.ref l],S=>match S[l]? with
  |some (.lst us)=>some (.tup us,S)
  |_=>none
 |_,_=>none
theorem tW:oR K (fun xs H Q=>∃p ys,xs=[.ref p]/\((SqL K H p ys/\∀l,H l=none->Q (.ref l) (upd H l (.tup ys)))\/(SqT K H p ys/\Q (.ref p) H))) mh:=by
 intro m S H us vs u S' Q sr i hf post;match us,hf with
 |[.tup ws],hf=>
  cases hf;obtain⟨v,rfl,iv⟩:=i.one;obtain⟨a,xs,rfl,sa,la⟩:=iv.of_tup;exact⟨a,xs,rfl,.inr ⟨sa,post m _ H .refl sr iv⟩⟩
 |[.ref l],hf=>
  obtain⟨v,rfl,iv⟩:=i.one;obtain⟨a,ha,rfl⟩:=iv.of_ref;simp only[mh]at hf;split at hf<;>try cases hf
  rename_i ws hS;obtain⟨a',ha',xs,hx,la⟩:=sr.get hS;rw[ha]at ha';cases ha';exact⟨a,xs,rfl,.inl ⟨SqL.of hx,fun l hl=>p8 sr la post hl⟩⟩
def Pd:Fn
 |[.int i],S=>some (.int i,S)
 |[.bl b],S=>some (.int (if b then 1 else 0),S)
 |_,_=>none
def mj:Fn
 |[.int i],S=>if i.natAbs.log2<1920 then some (.str (toString i),S)else none
 |_,_=>none
theorem tY:oR K (fun xs H Q=>∃i,xs=[.int i]/\i.natAbs.log2<1920/\Q (.str (toString i)) H) mj:=by
 intro m S H us vs u S' Q sr i hf post;match us,hf with
 |[.int j],hf=>
  simp only[mj]at hf;split at hf<;>try cases hf
  rename_i hl;obtain⟨v,rfl,iv⟩:=i.one;exact⟨j,by rw[iv.of_int],hl,post m _ H .refl sr .str_⟩
def Nl:Fn
 |[.int i,.int j],S=>some (.int (if j<i then j else i),S)
 |_,_=>none
theorem MJ:oR K (fun xs H Q=>∃i j,xs=[.int i,.int j]/\Q (.int (if j<i then j else i)) H) Nl:=by
 intro m S H us vs u S' Q sr i hf post;match us,hf with
 |[.int j,.int k],hf=>
  cases hf;obtain⟨v,w,rfl,iv,iw⟩:=i.two;exact⟨j,k,by rw[iv.of_int,iw.of_int],post m _ H .refl sr .int_⟩
def Gm:List U->Option (List Bool)
 |[]=>some []
 |.bl i::r=>(Gm r).map (i::·)
 |_=>none
theorem z9:∀{us:List U} {ns:List Bool},Gm us=some ns->us=ns.map U.bl
 |[],ns,h=>by cases h;rfl
 |u::r,ns,h=>by
  cases u<;>simp only[Gm]at h<;>try cases h
  obtain⟨ms,e,h⟩:=ZV.mp h;subst h;rw[z9 e];rfl
theorem qw:∀(ns:List Bool),Gm (ns.map U.bl)=some ns
 |[]=>rfl
 |n::r=>by simp[Gm,qw r]
theorem IsL.bls{m:List Addr}{H:Hp}:∀{xs:List V} {ns:List Bool},IsL K m H xs (ns.map U.bl)->xs=ns.map V.bl
 |xs,[],h=>h.of_nil
 |xs,n::ns,h=>by
  obtain⟨x,r,rfl,i,t⟩:=h.of_cons;rw[IsL.bls t,i.of_bl];rfl
theorem vB{m:List Addr}{H:Hp}:∀(ns:List Int),IsL K m H (ns.map V.int) (ns.map U.int)
 |[]=>.nil_
 |n::ns=>.cons_ .int_ (vB ns)
def F0:Fn
 |[.ref l],S=>match S[l]? with
  |some (.lst us)=>(Gm us).bind fun bs=>some (.bl (bs.all id),S)
  |_=>none
 |_,_=>none
theorem Fc:oR K (fun xs H Q=>∃(p:Addr) (bs:List Bool),xs=[.ref p]/\SqL K H p (bs.map V.bl)/\Q (.bl (bs.all id)) H) F0:=by
 intro m S H us vs u S' Q sr i hf post;match us,hf with
 |[.ref l],hf=>
  obtain⟨v,rfl,iv⟩:=i.one;obtain⟨a,ha,rfl⟩:=iv.of_ref;simp only[F0]at hf;split at hf<;>try cases hf
  rename_i ws hS;obtain⟨bs,hb,h⟩:=Q0.mp hf;cases h;obtain⟨a',ha',xs,hx,la⟩:=sr.get hS;rw[ha]at ha';cases ha';rw[z9 hb]at la;rw[la.bls]at hx;exact⟨a,bs,rfl,SqL.of hx,post m _ H .refl sr .bl_⟩
inductive Ty where
 |non|bool|int|str|tuple|list|dict
def Ty.nm:Ty->String
 |.non=>"NoneType"|.bool=>"bool"|.int=>"int"|.str=>"str"|.tuple=>"tuple"|.list=>"list"|.dict=>"dict"
def tyU:U->Sto->Option Ty
 |.non,_=>some .non|.bl _,_=>some .bool|.int _,_=>some .int|.str _,_=>some .str|.tup _,_=>some .tuple
 |.ref l,S=>match S[l]? with
  |some (.lst _)=>some .list
  |some (.dic _)=>some .dict
  |_=>none
 |.kl _,_=>none
def Ej:Ty->Ty->Bool
 |.non,.non=>true|.bool,.bool=>true|.bool,.int=>true|.int,.int=>true|.str,.str=>true|.tuple,.tuple=>true|.list,.list=>true|.dict,.dict=>true
 |_,_=>false
theorem nQ(a b:Ty)(hb:b≠.non):PySem.W.kitOne K (.type a.nm) (.type b.nm)=some (Ej a b):=by
 cases b<;>first|exact absurd rfl hb|(cases a<;>rfl)
abbrev O6(K:Q1):List V->Hp->VK->Prop:=fun xs H Q=>(∃(x:V) (T:String) (t:Q2) (k:Bool),xs=[x,.ty T]/\vS K H x t/\PySem.W.kitOne K t (.type T)=some k/\Q (.bl k) H)\/
 ∃(a:Addr) (ys:List V) (T:String) (k:Bool),xs=[.ref a,.ty T]/\SqT K H a ys/\PySem.W.kitOne K (.type "tuple") (.type T)=some k/\Q (.bl k) H
theorem MS:f7 X (.builtin "isinstance") (O6 X.K):=by
 refine uF.or ?_;rintro pins s σ H xs us Q I r ⟨a,ys,T,k,rfl,sq,e,q⟩;obtain⟨u,w',rfl,ru,rw'⟩:=tD r;cases rw';cases ru;obtain⟨its,rv,ht,hz⟩:=I.tuple sq;obtain⟨o,h1,h2,_⟩:=ht;exact PySem.W.kia_one PySem.W.kitx_tuple I.kIn ⟨o,h1,h2⟩ e (fun z=>nomatch z) fun tk=>⟨.bl k,H,I.tok tk,rfl,q⟩
def K7(T:Ty)(ca:CE):CE:=fun ρ S=>(ca ρ S).bind fun p=>(tyU p.1 p.2).bind fun t=>some (.bl (Ej t T),p.2)
theorem IL{T:Ty}{e eT:QK}{ca:CE}{p pos:Pos}(hT0:T≠.non)(he:QE X e ca)(hT:WE X eT (tC (.ty T.nm)))(hg:Gl X "isinstance")(hm:X.mg "isinstance"=none)
  (h1:Q7 [e,eT] X.env=(false,eval e X.env)::Q7 [eT] X.env:=by rfl) (h2:Q7 [eT] X.env=(false,eval eT X.env)::Q7 [] X.env:=by rfl) (hpl:(Qa pos (Q7 [eT] X.env)).any (·.1)=false:=by rfl) :
  QE X (.Call (.Name "isinstance" p) [e,eT] [] pos) (K7 T ca):=(iR MS hg hm OG.eW (bK he (bK hT fU h2) h1) (by decide) (by decide) h1 hpl).imp fun σ H Q hz=>my hz fun m ρ S u S' sr lr hc post=>by
 obtain⟨⟨x,S1⟩,h1,h2⟩:=Q0.mp hc;obtain⟨t,ht,h3⟩:=Q0.mp h2;cases h3;refine⟨m,ρ,S,x,_,sr,lr,h1,fun m1 v1 H1 e1 sr1 i1=>?_⟩;have fin:=post m1 _ H1 e1 sr1 (Is.bl_ (b:=Ej t T));cases x with
 |non=>cases ht;rw[i1.of_non];exact .inl ⟨_,_,_,_,rfl,.non,nQ .non T hT0,fin⟩
 |bl b=>cases ht;rw[i1.of_bl];exact .inl ⟨_,_,_,_,rfl,.bl b,nQ .bool T hT0,fin⟩
 |int i=>cases ht;rw[i1.of_int];exact .inl ⟨_,_,_,_,rfl,.int i,nQ .int T hT0,fin⟩
 |str i=>cases ht;rw[i1.of_str];exact .inl ⟨_,_,_,_,rfl,.str i,nQ .str T hT0,fin⟩
 |tup us=>
  cases ht;obtain⟨a,xs,rfl,sa,la⟩:=i1.of_tup;exact .inr ⟨a,xs,_,_,rfl,sa,nQ .tuple T hT0,fin⟩
 |ref l=>
  obtain⟨a,ha,rfl⟩:=i1.of_ref;simp only[tyU]at ht;split at ht<;>try cases ht
  ·rename_i ws hS;obtain⟨a',ha',xs,hx,la⟩:=sr1.get hS;rw[ha]at ha';cases ha';exact .inl ⟨_,_,_,_,rfl,.lst hx,nQ .list T hT0,fin⟩
  ·rename_i ws hS;obtain⟨a',ha',xs,hx,la⟩:=sr1.get hS;rw[ha]at ha';cases ha';exact .inl ⟨_,_,_,_,rfl,.dK hx,nQ .dict T hT0,fin⟩
 |kl ns=>cases ht
def cBM(f:U->List U->Sto->Option (U×Sto))(co:CE)(cr:CA):CE:=fun ρ S=>(co ρ S).bind fun p=>match p.1 with
 |.ref l=>match p.2[l]? with
  |some (.lst _)=>(cr ρ p.2).bind fun q=>f p.1 q.1 q.2
  |_=>none
 |_=>none
def MtP(K:Q1)(r:V->List V->Hp->VK->Prop)(f:U->List U->Sto->Option (U×Sto)):Prop:=
 ∀m S H x v us vs u S' Q,Sr K m S H->Is K m H v x->IsL K m H vs us->f x us S=some (u,S')->kJ K m H Q u S'->r v vs H Q
theorem z8{r:V->List V->Hp->VK->Prop}{f:U->List U->Sto->Option (U×Sto)}{co:CE}{cr:CA}(hp:MtP K r f):∀σ H Q,tE K (cBM f co cr) σ H Q->tBM K "list" r (tE K co) (tA K cr) σ H Q:=by
 rintro σ H Q ⟨m,ρ,S,u,S',sr,lr,hc,post⟩;obtain⟨⟨x,S1⟩,h1,h2⟩:=Q0.mp hc;refine⟨m,ρ,S,x,S1,sr,lr,h1,fun m1 v1 H1 e1 sr1 i1=>?_⟩;cases x with
 |ref l=>
  simp only at h2;split at h2<;>try cases h2
  rename_i ws hS;obtain⟨⟨us,S2⟩,h3,h4⟩:=Q0.mp h2;obtain⟨a,ha,rfl⟩:=id i1.of_ref;obtain⟨a',ha',xs,hx,la⟩:=sr1.get hS;rw[ha]at ha';cases ha';exact⟨.inl ⟨rfl,xs,SqL.of hx⟩,m1,ρ,S1,us,S2,sr1,lr.mono e1,h3,fun m2 vs H2 e2 sr2 i2=>hp m2 S2 H2 _ _ us vs u S' Q sr2 (i1.mono e2) i2 h4 (post.mono (e1.trans e2))⟩
 |_=>simp at h2
def bJ:U->List U->Sto->Option (U×Sto)
 |.ref l,[u],S=>match S[l]? with
  |some (.lst us)=>if us.length<LIM then some (.non,S.set l (.lst (us++[u])))else none
  |_=>none
 |_,_,_=>none
theorem BA:MtP K yo bJ:=by
 intro m S H x v us vs u S' Q sr ix i hf post;match x,us,hf with
 |.ref l,[w],hf=>
  simp only[bJ]at hf;split at hf<;>try cases hf
  rename_i ws hS;split at hf<;>try cases hf
  rename_i hl;obtain⟨a,ha,rfl⟩:=ix.of_ref;obtain⟨a',ha',xs,hx,la⟩:=sr.get hS;rw[ha]at ha';cases ha';obtain⟨y,rfl,iy⟩:=i.one;have eu:Ext K m H m (upd H a (.lst (xs++[y]))):=.of (sr.keep ha _);exact⟨a,xs,y,rfl,rfl,hx,MZ (by rw[la.length];exact hl),post m _ _ eu (sr.put ha ⟨_,aU,(la.append (.cons_ iy .nil_)).mono eu⟩) .non_⟩
variable{e:QK}{es:List QK}{co:CE}{cr:CA}{o:QK}{apos cpos:Pos}
theorem dq (ho : QE X o co) (ha : QA X (e :: es) cr) (hbase : attributeBase o "append" X.env (eval o X.env) = eval o X.env := by rfl) (hfew : ((Qa cpos (Q7 (e :: es) X.env)).all (fun x => !x.1) && (backToKw cpos (keywordEach [] X.env)).all (fun x => x.1.isSome)
   && decide ((e::es).length+([]:List Keyword).length+(if ([]:List Keyword).isEmpty then 0 else 1)<30))=true:=by rfl) (hline:(apos.endLine == cpos.line)=true:=by rfl) (hs:Q7 (e::es) X.env=(false,eval e X.env)::Q7 es X.env:=by rfl) (hplain:(Qa cpos (Q7 es X.env)).any (·.1)=false:=by rfl) :
  QE X (.Call (.Attribute o "append" apos) (e::es) [] cpos) (cBM bJ co cr):=(qQ PySem.F.plainAttrs_list PySem.F.slot_list_append PySem.F.type_list_append rL ho ha.h hbase hfew hline hs hplain).imp (z8 BA)
end
structure TC(K:Q1)(c:Cl)(NS:List Str):Prop where
 cl:Cls K c.C
 ns:c.ns=NS
 nas:∀f∈NS,jK K c.C f
section
variable{K:Q1}{c:Cl}{NS:List Str}
def TC.ix(T:TC K c NS){i:Nat}{f:Str}(h:NS[i]?=some f):c.ns[i]?=some f:=by rw[T.ns];exact h
def TC.na(T:TC K c NS)(i:Nat){f:Str}(h:NS[i]?=some f):jK K c.C f:=T.nas f (ZU h)
def TC.nm(T:TC K c NS){f:Str}(h:f∉NS):f∉c.ns:=by rw[T.ns];exact h
end
theorem _root_.L2.Fun.pure{P:QL}{w:Qu}{K:Q1}{mg:Str->Option Q2}{base:Heap}{x qual:Str}{st:Qg}{f:Addr}{fd:Z8}{N ps:List Str}{k:Nat}{c:CS}(F:Fun K x qual st f fd)(S:a7 N ps (aG st))
  (hb:∀(cdv:Q2) (A:Qe) (outer:List Env) (s:Q8) (H:Hp) (E:XK),fZ k (A.deeper (envOfC qual (aG st) s.heap.objs.size f cdv))->
   WSs (uE CX0 P w K mg base N qual (aG st) f cdv A outer s H E).nox (d9 st) (tS K c)):j9 P w K mg base CX0 (k+1) f fd ps (Ak K (fnU N.length ps.length c)):=
 Fun.okW F S (fun vs H Q E h=>u9 h) fun cdv A outer s H vs Q E hr h=>⟨_,hb cdv A outer s H E hr,zo (X:=(uE CX0 P w K mg base N qual (aG st) f cdv A outer s H E).nox) (body:=[]) (ps:=ps) rfl h⟩
def SI:Bool->Heap->Addr->Addr->Nat->Prop
 |true,h,it,a,i=>h.IsListIter it a i
 |false,h,it,a,i=>h.IsTupleIter it a i
def SA:Bool->Heap->Addr->Array Q2->Prop
 |true,h,a,xs=>h.IsList a xs
 |false,h,a,xs=>h.IsTuple a xs
theorem SI.at_{b:Bool}{h h':Heap}{it a:Addr}{i:Nat}(x:SI b h it a i)(k:∀o,h.get? it=some o->h'.get? it=some o):SI b h' it a i:=by
 cases b with
 |true=>obtain⟨o,e,r⟩:=x;exact⟨o,k o e,r⟩
 |false=>obtain⟨o,e,r⟩:=x;exact⟨o,k o e,r⟩
theorem SA.at_{b:Bool}{h h':Heap}{a:Addr}{xs:Array Q2}(x:SA b h a xs)(k:∀o,h.get? a=some o->h'.get? a=some o):SA b h' a xs:=by
 cases b with
 |true=>obtain⟨o,e,r⟩:=x;exact⟨o,k o e,r⟩
 |false=>obtain⟨o,e,r⟩:=x;exact⟨o,k o e,r⟩
theorem SI.obj{b:Bool}{h:Heap}{it a:Addr}{i:Nat}(x:SI b h it a i):∃o,h.get? it=some o/\∀v,o.data≠.cell v:=by
 cases b with
 |true=>obtain⟨o,e,c,d⟩:=x;exact⟨o,e,fun v z=>by rw[d]at z;cases z⟩
 |false=>obtain⟨o,e,c,d⟩:=x;exact⟨o,e,fun v z=>by rw[d]at z;cases z⟩
theorem SA.lt{b:Bool}{h:Heap}{a:Addr}{xs:Array Q2}(x:SA b h a xs):a<h.objs.size:=by
 cases b with
 |true=>obtain⟨o,e,_⟩:=x;exact QD e
 |false=>obtain⟨o,e,_⟩:=x;exact QD e
section
variable{prog:QL}{w:Qu}{A:Qe}{E:Q2->Q8->Prop}{s:Q8}
theorem AL{I t:Addr}{j:Nat}{ys:Array Q2}{y:Q2}{Q:Q2->Q8->Prop}(hI:s.heap.IsTupleIter I t j)(hT:s.heap.IsTuple t ys)(hy:ys[j]?=some y)
  (k:∀h',h'.IsTupleIter I t (j+1)->Heap.SameBut I s.heap h'->Q y { s with heap:=h' }):wpAny (Qq prog w) A (Builtin.SmallTypes.nextOf (.ref I)) Q E s:=by
 obtain⟨oi,gi,ci,di⟩:=id hI;obtain⟨ot,gt,_,nt,dt⟩:=hT;unfold Builtin.SmallTypes.nextOf;refine Q4 (wpAny_callSpecial?_slot (name:=Str.ofString "__next__") hI.typeIs PySem.F.slot_tuple_iterator_next (wpAny_call_entry PySem.F.slot_tuple_iterator_next hI.typeIs PySem.F.entry_tuple_iterator_next ?_ (PySem.F.args_tuple_iterator_next_1 _)));show wpAny _ _ (field (.ref I) 0 >>= _) _ _ s;refine Q4 (ZZ gi di (x:=.ref t) rfl ?_);show wpAny _ _ (ite ((Value.ref t == Value.none)=true) _ _) _ _ s;rw[if_neg (by exact QR)];show wpAny _ _ (field (.ref I) 1 >>= _) _ _ s;refine Q4 (ZZ gi di (x:=.int j 0) rfl ?_);show wpAny _ _ (seqItems? (.ref t) >>= _) _ _ s;refine Q4 (wpAny_seqItems gt dt ?_);simp only[hy,Int.toNat_natCast];refine Q4 (wpAny_setField gi di (by simp) (QC ⟨y,rfl,QC (k _ ⟨_,ZR _ gi (Obj.isFreed_of_fields (Obj.data_mapFields di _)),(Obj.cls_mapFields ..).trans ci,?_⟩ (Heap.SameBut.update ..))⟩));rw[Obj.data_mapFields di];simp[rawInt]
theorem qX{I t:Addr}{j:Nat}{ys:Array Q2}{Q:Q2->Q8->Prop}(hh:A.handled=none)(hI:s.heap.IsTupleIter I t j)(hT:s.heap.IsTuple t ys)(hy:ys[j]?=none)
  (k:∀h' e,Heap.ExtBut I s.heap h'->(∃o,h'.get? e=some o/\o.cls=.type "StopIteration")->E (.ref e) { s with heap:=h' }):wpAny (Qq prog w) A (Builtin.SmallTypes.nextOf (.ref I)) Q E s:=by
 obtain⟨oi,gi,ci,di⟩:=id hI;obtain⟨ot,gt,_,nt,dt⟩:=hT;unfold Builtin.SmallTypes.nextOf;refine Q4 (wpAny_callSpecial?_slot (name:=Str.ofString "__next__") hI.typeIs PySem.F.slot_tuple_iterator_next (wpAny_call_entry PySem.F.slot_tuple_iterator_next hI.typeIs PySem.F.entry_tuple_iterator_next ?_ (PySem.F.args_tuple_iterator_next_1 _)));show wpAny _ _ (field (.ref I) 0 >>= _) _ _ s;refine Q4 (ZZ gi di (x:=.ref t) rfl ?_);show wpAny _ _ (ite ((Value.ref t == Value.none)=true) _ _) _ _ s;rw[if_neg (by exact QR)];show wpAny _ _ (field (.ref I) 1 >>= _) _ _ s;refine Q4 (ZZ gi di (x:=.int j 0) rfl ?_);show wpAny _ _ (seqItems? (.ref t) >>= _) _ _ s;refine Q4 (wpAny_seqItems gt dt ?_);simp only[hy,Int.toNat_natCast];refine Q4 (wpAny_rule (Q4 (wpAny_setField gi di (by simp) ?_)));show wpAny _ _ (newExc (.type "StopIteration") [] >>= _) _ _ _;simp only[newExc,newTuple];refine Q4 ?_;refine Q4 (wpAny_newObj_type ?_ (by(size_fits)));refine Q4 (m:=firstArgMember _ _) (wpAny_of_eq (a:=Value.none) (by simp only[firstArgMember]<;>rfl) ?_);refine wpAny_newObj_type ?_ (by(size_fits));simp only[raiseNew];refine Q4 (wpAny_handled ?_);rw[show A.in1.handled=none from hh];exact Q4 (QC (wpAny_throw (k _ _ (((Heap.SameBut.update ..).extBut.push _).push _) ⟨_,Qy _ rfl,rfl⟩)))
theorem En{b:Bool}{I t:Addr}{j:Nat}{ys:Array Q2}{y:Q2}{Q:Q2->Q8->Prop}(hI:SI b s.heap I t j)(hT:SA b s.heap t ys)(hy:ys[j]?=some y)
  (k:∀h',SI b h' I t (j+1)->Heap.SameBut I s.heap h'->Q y { s with heap:=h' }):wpAny (Qq prog w) A (Builtin.SmallTypes.nextOf (.ref I)) Q E s:=by
 cases b with
 |true=>exact wpAny_nextOf_list_item hI hT hy k
 |false=>exact AL hI hT hy k
theorem mP{b:Bool}{I t:Addr}{j:Nat}{ys:Array Q2}{Q:Q2->Q8->Prop}(hh:A.handled=none)(hI:SI b s.heap I t j)(hT:SA b s.heap t ys)(hy:ys[j]?=none)
  (k:∀h' e,Heap.ExtBut I s.heap h'->(∃o,h'.get? e=some o/\o.cls=.type "StopIteration")->E (.ref e) { s with heap:=h' }):wpAny (Qq prog w) A (Builtin.SmallTypes.nextOf (.ref I)) Q E s:=by
 cases b with
 |true=>exact wpAny_nextOf_list_end hh hI hT hy k
 |false=>exact qX hh hI hT hy k
def itO(b:Bool)(a:Addr):Obj:={ cls:=.type (if b then "list_iterator" else "tuple_iterator"),data:=.fields #[.ref a,.int 0 0] }
theorem J4{b:Bool}{a i:Addr}{h:Heap}(e:h.get? i=some (itO b a)):SI b h i a 0:=by
 cases b with
 |true=>exact⟨_,e,rfl,rfl⟩
 |false=>exact⟨_,e,rfl,rfl⟩
end
def Sq(K:Q1):Bool->Hp->Addr->List V->Prop
 |true,H,a,xs=>SqL K H a xs
 |false,H,a,xs=>SqT K H a xs
section
variable{X:Cx}{pins:List (Addr×Obj)}{σ:L2.St}{H:Hp}{s:Q8}{h':Heap}
theorem _root_.L2.Inv.turnedL{t':Nat}{ch:List Addr}(I:Inv X pins σ H s)(k:∀b o,b∉ch->s.heap.get? b=some o->h'.get? b=some o)(hf:∀b∈ch,Ap X pins H b):Inv X pins σ H { s with heap:=h',toks:=t' }:=by
 have nit:∀b u,H b=some u->b∉ch:=fun b u e z=>by rw[(hf b z).1]at e;cases e
 refine I.step (g':=s.gens) (d':=s.drawn) (ch:=ch) (fun b hb=>⟨(hf b hb).2.2.2.1,(hf b hb).2.1,(hf b hb).2.2.2.2.1,(hf b hb).2.2.2.2.2⟩) (fun b o _ _ hc e _=>k b o hc e) (fun b o _ _ hc e _=>⟨o.slots,k b o hc e⟩) (fun _ _ _ _ n=>n)
  (fun b o hc e=>⟨o,k b o hc e⟩) (fun _ _ e=>e) (fun _ _ _ e=>e) (fun b ps e=>⟨#[],by rw[e];simp⟩) (fun m hm=>?_) (fun b u e=>?_) I.bare
 ·obtain⟨o,es,ep,ho,r⟩:=hm;exact⟨o,es,ep,k _ o (fun z=>(hf _ z).2.1 rfl) ho,r⟩
 ·refine(I.hok b u e).stay (fun c v hc q=>k c v ?_ q) (fun _ q=>q) fun _ _ q=>q;rcases hc with z|z
  ·rw[z];exact nit b u e
  ·exact nit c _ z
theorem _root_.L2.Inv.sq{b:Bool}{a:Addr}{xs:List V}(I:Inv X pins σ H s)(h:Sq X.K b H a xs):∃its:List Q2,cG xs its/\SA b s.heap a its.toArray:=by
 cases b with
 |true=>obtain⟨its,r,p,_⟩:=I.list h;exact⟨its,r,p.isList⟩
 |false=>obtain⟨its,r,p,_⟩:=I.tuple h;exact⟨its,r,p⟩
theorem _root_.L2.Inv.sq_inj{b:Bool}{a:Addr}{xs ys:List V}(I:Inv X pins σ H s)(h:Sq X.K b H a xs)(h2:Sq X.K b H a ys):xs=ys:=by
 cases b with
 |true=>exact I.list_inj h h2
 |false=>exact I.tuple_inj h h2
end
theorem Be{h:Heap}{ob o:Obj}{e:Addr}(q:(h.push ob).get? e=some o)(ne:e≠h.objs.size):h.get? e=some o:=(Heap.get?_push_ne h e ob ne).symm.trans q
theorem Bv{P:QL}{w:Qu}{H:Hp}{h:Heap}{a:Addr}{x y:V}{u v:Q2}(e:h.get? a=some { cls:=.type "tuple",data:=.seq #[u,v] })(rx:dD x u)(ry:dD y v):dB P w H h a (.tup [x,y]):=
 ⟨by show 2<=QB;decide,[u,v],.cons rx (.cons ry .nil),⟨_,e,⟨rfl,rfl⟩,_,rfl⟩⟩
def Ik:U->Sto->Option (List U×(Sto->Prop))
 |.tup us,_=>some (us,fun _=>True)
 |.ref l,S=>match S[l]? with
  |some (.lst us)=>some (us,fun S=>S[l]?=some (.lst us))
  |_=>none
 |_,_=>none
theorem Ih{K:Q1}{m:List Addr}{S:Sto}{H:Hp}{u:U}{v:V}{us:List U}{ok:Sto->Prop}(sr:Sr K m S H)(iu:Is K m H v u)(h:Ik u S=some (us,ok)) :
  ∃b a,v=.ref a/\(∃xs,Sq K b H a xs)/\∀m2 S2 H2,Ext K m H m2 H2->Sr K m2 S2 H2->ok S2->∃xs,Sq K b H2 a xs/\IsL K m2 H2 xs us:=by
 cases u with
 |tup ws=>
  cases h;obtain⟨a,xs,rfl,sq,il⟩:=iu.of_tup;exact⟨false,a,rfl,⟨xs,sq⟩,fun m2 S2 H2 e _ _=>⟨xs,e.keep.t _ _ sq,il.mono e⟩⟩
 |ref l=>
  simp only[Ik]at h;split at h<;>try cases h
  rename_i us hS;obtain⟨a,ha,rfl⟩:=iu.of_ref;obtain⟨a',ha',xs,hx,il⟩:=sr.get hS;rw[ha]at ha';cases ha';refine⟨true,a,rfl,⟨xs,SqL.of hx⟩,fun m2 S2 H2 e sr2 hok=>?_⟩;obtain⟨a',ha',xs,hx,il⟩:=sr2.get hok;rw[e.get ha]at ha';cases ha';exact⟨xs,SqL.of hx,il⟩
 |_=>simp[Ik]at h
theorem F3{b:Bool}{prog:QL}{w:Qu}{A:Qe}(hh:A.handled=none)(it a:Addr)(hne:a≠it)(ys:Array Q2) :
  Draws prog w A it [it,a] ys.size (fun i v=>ys[i]?=some v) (fun i h=>SI b h it a i/\SA b h a ys) where
 live:=fun _ _ st=>let ⟨o,ho,_⟩:=st.1.obj;⟨o,ho⟩
 frame:=fun _ _ _ st hk=>⟨st.1.at_ fun o e=>hk it (by simp) o e,st.2.at_ fun o e=>hk a (by simp) o e⟩
 item:=fun i s Q E hi st hQ=>En st.1 st.2 (y:=ys[i]) (by simp[hi]) fun h' it' s'=>hQ _ h' s.toks (by simp[hi]) ⟨it',st.2.at_ fun o e=>s'.extBut _ _ hne e⟩ s'
 done:=fun s Q E st hE=>mP hh st.1 st.2 (by simp) hE
structure ESt(b:Bool)(h:Heap)(e it a:Addr)(n:Nat):Prop where
 he:∃old,IsEnum h e it n old
 hi:SI b h it a n
theorem zx(l:Addr)(ys:Array Q2)(n:Nat)(dct:Option Addr)(sl:Array (Option Q2)) :
  Meets (Builtin.«enumerate.__new__» ⟨[.type "enumerate",.ref l],[]⟩) (fun _ R s=>s.heap.get? l=some { cls:=.type "tuple",dict:=dct,data:=.seq ys n,slots:=sl }/\
   R (.ok (.ret (.ref (s.heap.push (itO false l)).objs.size))) { s with heap:=(s.heap.push (itO false l)).push { cls:=.type "enumerate",data:=.fields #[.none,.bool false,.ref s.heap.objs.size,rawInt 0,.none,.none] } }):=
 .of_wp fun prog w A R s q=>by
  obtain⟨hp,g,d,tk,os⟩:=s;obtain⟨gl,q⟩:=q;have sb:=sub_enumerate;have tl:Heap.IsTuple (Shared.heap ⟨hp,g,d,tk,os⟩) l ys:=⟨_,gl,rfl,n,rfl⟩
  wp_walk using wpAny_loadPart' gl
  refine wpAny_stack_any (fun st=>QC ?_);split
  ·rename_i c _ _ _ _ _;cases (c == Value.type "enumerate")<;>(wp_walk using wpAny_loadPart' gl,wpAny_pyIter_tuple tl;exact⟨_,rfl,q⟩)
  ·wp_walk using wpAny_loadPart' gl,wpAny_pyIter_tuple tl
   exact⟨_,rfl,q⟩
theorem zy{b:Bool}{prog:QL}{w:Qu}{A:Qe}{E:Q2->Q8->Prop}{s:Q8}{a:Addr}{ys:Array Q2}{Q:Q2->Q8->Prop}(ha:SA b s.heap a ys)
  (k:∀h' e it,e≠it->s.heap.objs.size<=e->s.heap.objs.size<=it->ESt b h' e it a 0->(∀c o,s.heap.get? c=some o->h'.get? c=some o)->Q (.ref e) { s with heap:=h' }) :
  wpAny (Qq prog w) A (call (.type "enumerate") [.ref a]) Q E s:=by
 cases b with
 |true=>exact call_enumerate_list ha fun h' e1 e2 sz up=>k h' _ _ (by omega) (Nat.le_add_right _ _) (QU _) ⟨⟨_,e1⟩,e2⟩ up
 |false=>
  obtain⟨⟨c,dct,dt,sl⟩,gl,hc,n,hd⟩:=ha;simp only at hc hd;subst hc hd;refine callType_new PySem.F.called_enumerate (by decide) (PySem.F.typeCall_enumerate_1 _) (PySem.F.newCall_enumerate_1 _) (fun obj=>PySem.F.args_object_init_2 obj _) PySem.F.entry_enumerate_new (zx a ys n dct sl) ⟨gl,?_⟩;have n1:(s.heap.push (itO false a)).objs.size=s.heap.objs.size+1:=Heap.size_push ..;have p2:=Qy (s.heap.push (itO false a)) (o:={ cls:=.type "enumerate",data:=.fields #[.none,.bool false,.ref s.heap.objs.size,rawInt 0,.none,.none] }) rfl;have p1:((s.heap.push (itO false a)).push { cls:=.type "enumerate",data:=.fields #[.none,.bool false,.ref s.heap.objs.size,rawInt 0,.none,.none] }).get? s.heap.objs.size=some (itO false a):=QX _ (Qy _ rfl);rw[n1]at p2;show _/\_;rw[n1];exact⟨⟨_,p2,rfl⟩,k _ (s.heap.objs.size+1) s.heap.objs.size (Nat.ne_of_gt (Nat.lt_succ_self _)) (Nat.le_add_right _ _) (QU _) ⟨⟨_,p2⟩,J4 p1⟩ fun c o x=>QX _ (QX _ x)⟩
theorem BW{b:Bool}{prog:QL}{w:Qu}{A:Qe}{E:Q2->Q8->Prop}{s:Q8}{e it a:Addr}{i:Int}{j:Nat}{ys:Array Q2}{old:Q2}{Q:Option Q2->Q8->Prop}(hh:A.in1.handled=none)(he:IsEnum s.heap e it i old)(hi:SI b s.heap it a j)(ha:SA b s.heap a ys)(hx:ys[j]?=none)
  (k:∀h',Heap.ExtBut it s.heap h'->Q none { s with heap:=h' }):wpAny (Qq prog w) A (pyNext (.ref e)) Q E s:=by
 have ty:s.TypeIs (.ref e) "enumerate":=⟨_,he,rfl⟩;unfold pyNext;refine Q4 (wpAny_attempt (wpAny_callSpecial?_slot (name:=Str.ofString "__next__") ty PySem.F.slot_enumerate_next (wpAny_call_entry PySem.F.slot_enumerate_next ty PySem.F.entry_enumerate_next ?_ (PySem.F.args_enumerate_next_1 _))));show wpAny _ _ (field (.ref e) 2 >>= fun _=>_) _ _ _;refine Q4 (ZZ he rfl (x:=.ref it) rfl (Q4 (mP hh hi ha hx fun h' x he' hx'=>?_)));obtain⟨o,ho,co⟩:=hx';exact Q4 (wpAny_isInstance (T:="StopIteration") (b:=true) ⟨o,ho,co⟩ isSubtype_stop (QC (k _ he')))
def Ite(K:Q1)(b:Bool)(a:Addr):It:=
  ⟨fun i H=>∃xs x,Sq K b H a xs/\xs[i]?=some x,
   fun i H v H'=>∃p x,v=.ref p/\H p=none/\H'=upd H p (.tup [.int i,x])/\∀xs,Sq K b H a xs->xs[i]?=some x,
   fun i H=>∃xs,Sq K b H a xs/\xs.length<=i⟩
theorem xR{P:QL}{w:Qu}{K:Q1}{es:List QK}{k:Nat}{pos:Pos}{b:Bool}{e it a:Addr}(ne:e≠it)(nae:a≠e)(nai:a≠it) :
  Gn P w K (.Tuple es k pos) (Ite K b a) [e,it] e (fun n h=>ESt b h e it a n) where
 mem:=by simp
 obj:=fun n h st c hc=>by
  obtain⟨⟨old,he⟩,hi⟩:=st;simp only[Qz,Qo,or_false]at hc;rcases hc with rfl|rfl
  ·exact⟨_,he,fun v q=>by cases q⟩
  ·exact hi.obj
 keep:=fun n h h' st kp=>let ⟨old,he⟩:=st.he;⟨⟨old,kp e (by simp) _ he⟩,st.hi.at_ fun o q=>kp it (by simp) o q⟩
 item:=by
  intro X hP hw hK hc n pins s σ H E Iv hf st hg;subst hP hw hK;obtain⟨xs,x,qa,hx⟩:=hg;obtain⟨ia,ra,sa⟩:=Iv.sq qa;obtain⟨u,hu,ru⟩:=ra.get hx;obtain⟨⟨old,he⟩,hi⟩:=st;have hlt:n<ia.toArray.size:=by simpa using (Q6.mp hu).1
  refine wpAny_pyNext_enum_itemD (F3 (b:=b) (show X.A.in1.handled=none from Iv.ok.hd hc) it a nai ia.toArray) he ⟨hi,sa⟩ hlt ne (by simp[ne,Ne.symm nae]) fun y h1 tk py out1 st1 T1 sz1 up1=>⟨_,rfl,wpAny_letOwnedTupleGo_enum out1 fun h2 e2 s2=>?_⟩;have ey:y=u:=by
   have p':ia.toArray[n]?=some y:=py;rw[List.getElem?_toArray,hu]at p';cases p';rfl
  subst ey;have hfr:H s.heap.objs.size=none:=Iv.hok.fresh (QU _);have elt:e<s.heap.objs.size:=QD he;have ilt:it<s.heap.objs.size:=by obtain⟨o,q,_⟩:=hi.obj;exact QD q
  have sz:∀c∈[e,it],c<s.heap.objs.size:=fun c hc=>by
   simp only[Qz,Qo,or_false]at hc;rcases hc with rfl|rfl
   ·exact elt
   ·exact ilt
  have T2:h2.get? s.heap.objs.size=some { cls:=.type "tuple",data:=.seq #[.int n tk,y] }:=s2.extBut _ _ (Nat.ne_of_gt elt) T1;have I1:Inv X pins σ (upd H s.heap.objs.size (.tup [.int n,x])) { s with heap:=s.heap.push { cls:=.type "tuple",data:=.seq #[.int n tk,y] },toks:=s.toks }:=
   Iv.laid (fun b o e=>QX _ e) (QU _) (Bv (Qy _ rfl) ⟨tk,rfl⟩ ru)
  have fr2:∀c∈[e,it],(upd H s.heap.objs.size (.tup [.int n,x])) c=none:=fun c hc=>by rw[aY (Qw (sz c hc))];exact(hf c hc).1
  have I2:Inv X pins σ (upd H s.heap.objs.size (.tup [.int n,x])) { s with heap:=h2,toks:=tk+1 }:=
   Inv.turnedL (s:={ s with heap:=s.heap.push { cls:=.type "tuple",data:=.seq #[.int n tk,y] },toks:=s.toks }) (h':=h2) (t':=tk+1) (ch:=[e,it]) I1 (fun c o hn q=>by
    by_cases ce:c=s.heap.objs.size
    ·subst ce;have q':(s.heap.push { cls:=.type "tuple",data:=.seq #[.int n tk,y] }).get? s.heap.objs.size=some o:=q;rw[Qy _ rfl]at q';cases q';exact T2
    ·have q':s.heap.get? c=some o:=Be q ce;simp only[Qz,Qo,or_false,not_or]at hn;exact s2.extBut _ _ hn.1 (up1 c o hn.1 hn.2 q')) fun c hc=>⟨fr2 c hc,(hf c hc).2⟩
  refine⟨.ref s.heap.objs.size,_,I2,rfl,⟨_,x,rfl,hfr,rfl,fun xs' q=>by rw[Iv.sq_inj q qa];exact hx⟩,⟨⟨_,by simpa using e2⟩,st1.1.at_ fun o q=>s2.extBut _ _ (Ne.symm ne) q⟩,fr2⟩
 done:=by
  intro X hP hw hK hc n pins s σ H E Iv hf st hg;subst hP hw hK;obtain⟨xs,qa,hx⟩:=hg;obtain⟨ia,ra,sa⟩:=Iv.sq qa;have la:=ra.length;obtain⟨⟨old,he⟩,hi⟩:=st;refine BW (show X.A.in1.handled=none from Iv.ok.hd hc) he hi sa (by simp;omega) fun h1 up1=>⟨rfl,?_⟩;exact Iv.turnedL (t':=s.toks) (ch:=[e,it]) (fun c o hn q=>by
   simp only[Qz,Qo,or_false,not_or]at hn;exact up1 c o hn.2 q) hf
 self:=fun _ _ _ _ _ st h=>let ⟨old,he⟩:=st.he;wpAny_pyIter_enum he h
def Ka(K:Q1)(ta:TA):TI:=fun σ H R=>ta σ H fun vs H2=>∃b a,vs=[.ref a]/\(∃xs,Sq K b H2 a xs)/\R (Ite K b a) H2
def zZ:Qn "enumerate"=some (.type "enumerate"):=rfl
section
variable{X:Cx}{pos:Pos}
theorem D9{es:List QK}{k:Nat}{tp p:Pos}{a:QK}{ta:TA}(hg:Gl X "enumerate")(hm:X.mg "enumerate"=none)(ha:WA X [a] ta)
  (hs:Q7 [a] X.env=(false,eval a X.env)::Q7 [] X.env:=by rfl) (hpl:(Qa pos (Q7 [] X.env)).any (·.1)=false:=by rfl):WI X (.Tuple es k tp) (.Call (.Name "enumerate" p) [a] [] pos) (Ka X.K ta):=by
 constructor;intro pins s σ H R I h;refine wpAny_Call_Name_kw (pj I hg hm OP.zZ ?_);refine PyProof.Rows.callWith_type1 (thn (ha.h pos pins s σ H _ I h) fun us s1 hz=>?_) hs hpl;obtain⟨vs,H1,I1,r1,q1⟩:=hz;obtain⟨b,aa,rfl,⟨xs,qa⟩,q⟩:=q1;obtain⟨u,rfl,ru⟩:=mK r1;cases ru;obtain⟨ia,ra,sa⟩:=I1.sq qa;refine zy sa fun h1 e it ne he hi st up=>?_;obtain⟨old,hE⟩:=st.he;refine wpAny_pyIter_enum hE ⟨e,[e,it],_,_,H1,rfl,I1.kept (t':=s1.toks) up,xR ne (Qw (Qv sa.lt he)) (Qw (Qv sa.lt hi)),st,fun c hc=>?_,q⟩;simp only[Qz,Qo,or_false]at hc;rcases hc with rfl|rfl
 ·exact I1.fpOk he (I1.hok.fresh he)
 ·exact I1.fpOk hi (I1.hok.fresh hi)
def BX(us:List U):List U:=us.zipIdx.map fun p=>.tup [.int p.2,p.1]
def wL(ca:CE):CI:=fun ρ S=>(ca ρ S).bind fun p=>(Ik p.1 p.2).bind fun x=>some (BX x.1,x.2,p.2)
theorem EA{es:List QK}{k:Nat}{tp p:Pos}{a:QK}{ca:CE}(hg:Gl X "enumerate")(hm:X.mg "enumerate"=none)(ha:QE X a ca)
  (hs:Q7 [a] X.env=(false,eval a X.env)::Q7 [] X.env:=by rfl) (hpl:(Qa pos (Q7 [] X.env)).any (·.1)=false:=by rfl) :
  QI X (.Tuple es k tp) (.Call (.Name "enumerate" p) [a] [] pos) (wL ca):=(D9 hg hm (bK ha fU hs) hs hpl).imp fun σ H R hz=>ux hz fun m ρ S us ok S' sr lr hf post=>by
 obtain⟨⟨x,S1⟩,h1,h⟩:=Q0.mp hf;obtain⟨⟨xs,okx⟩,h3,h⟩:=Q0.mp h;cases h;refine⟨m,ρ,S,x,_,sr,lr,h1,fun m1 v1 H1 e1 sr1 i1=>?_⟩;obtain⟨b,aa,rfl,q1,k1⟩:=Ih sr1 i1 h3;refine⟨b,aa,rfl,q1,post m1 H1 _ e1 sr1 fun m3 S3 H3 i e3 sr3 hok=>?_⟩;obtain⟨vs,sq1,l1⟩:=k1 m3 S3 H3 e3 sr3 hok;have n1:=l1.length;refine⟨fun u hu=>?_,fun hi=>⟨vs,sq1,?_⟩⟩
 ·simp only[BX,Z0,ZV,List.getElem?_zipIdx]at hu;obtain⟨⟨p,q⟩,⟨y,hp,e⟩,rfl⟩:=hu;cases e;obtain⟨vp,ep,ip⟩:=l1.getD hp;refine⟨⟨vs,vp,sq1,ep⟩,fun v H4 hy=>?_⟩;obtain⟨r,x',rfl,hr,rfl,f1⟩:=hy;have:=f1 vs sq1;rw[ep]at this;cases this;have ee:Ext X.K m3 H3 m3 (upd H3 r (.tup [.int i,vp])):=.of (dU hr _);exact⟨ee,sr3.same (cS hr _),.tup_ (SqT.of aU) (.cons_ (by simp only[Nat.zero_add];exact .int_) (.cons_ (ip.mono ee) .nil_))⟩
 ·simp only[BX,QV,List.length_zipIdx]at hi;omega
def kx:List (CE×CE)->Rho->Sto->Option (List (Key×U)×Sto)
 |[],_,S=>some ([],S)
 |(ck,cv)::r,ρ,S=>(ck ρ S).bind fun p=>(cv ρ p.2).bind fun q=>(nR p.1).bind fun k=>(kx r ρ q.2).bind fun z=>some ((k,q.1)::z.1,z.2)
def yM(kus:List (Key×U))(au:List (Key×U)):List (Key×U):=kus.foldl (fun acc kv=>EF acc kv.1 kv.2) au
def gc(kus:List (Key×U)):List (Key×U):=yM kus []
def lC(prs:List (CE×CE)):CE:=fun ρ S=>(kx prs ρ (S++[.dic []])).bind fun q=>match q.2[S.length]? with
 |some (.dic [])=>some (.ref S.length,q.2.set S.length (.dic (gc q.1)))
 |_=>none
def QP(X:Cx)(pos:Pos)(keys:List (Option QK))(values:List QK)(prs:List (CE×CE)):Prop:=PPs X pos keys values (prs.map fun p=>(tE X.K p.1,tE X.K p.2))
def yq:QP X pos [] [] []:=EM
theorem fb{k v:QK}{ks:List (Option QK)}{vs:List QK}{ck cv:CE}{prs:List (CE×CE)}(hk:QE X k ck)(hv:QE X v cv)(hr:QP X pos ks vs prs):QP X pos (some k::ks) (v::vs) ((ck,cv)::prs):=Bj hk.h hv.h hr
theorem rn{K:Q1}{ρ:Rho}{σ:L2.St}:∀{prs:List (CE×CE)} {m:List Addr} {S S':Sto} {H:Hp} {kus:List (Key×U)} {R:List (V×V)->Hp->Prop},Sr K m S H->Lr K m H ρ σ->kx prs ρ S=some (kus,S')->
  (∀m' kvs H',Ext K m H m' H'->Sr K m' S' H'->IsP K m' H' kvs kus->R (kvs.map fun kv=>(kV kv.1,kv.2)) H')->uY (prs.map fun p=>(tE K p.1,tE K p.2)) σ H R
 |[],m,S,S',H,kus,R,sr,lr,hc,k=>by cases hc;exact k m [] H .refl sr .nil_
 |(ck,cv)::r,m,S,S',H,kus,R,sr,lr,hc,k=>by
  obtain⟨⟨x,S1⟩,h1,h⟩:=Q0.mp hc;obtain⟨⟨y,S2⟩,h2,h⟩:=Q0.mp h;obtain⟨kk,h3,h⟩:=Q0.mp h;obtain⟨⟨zs,S3⟩,h4,h⟩:=Q0.mp h;cases h;refine⟨m,ρ,S,x,S1,sr,lr,h1,fun m1 v1 H1 e1 sr1 i1=>⟨m1,ρ,S1,y,S2,sr1,lr.mono e1,h2,fun m2 v2 H2 e2 sr2 i2=>?_⟩⟩;refine rn (prs:=r) sr2 (lr.mono (e1.trans e2)) h4 fun m3 kvs H3 e3 sr3 ip=>?_;have ek:=jZ i1 h3;subst ek;exact k m3 ((kk,v2)::kvs) H3 ((e1.trans e2).trans e3) sr3 (.cons_ (i2.mono e3) ip)
theorem pd:∀{prs:List (CE×CE)} {ρ:Rho} {S S':Sto} {kus:List (Key×U)},kx prs ρ S=some (kus,S')->kus.length=prs.length
 |[],_,_,_,_,h=>by cases h;rfl
 |(ck,cv)::r,ρ,S,S',kus,hc=>by
  obtain⟨⟨x,S1⟩,h1,h⟩:=Q0.mp hc;obtain⟨⟨y,S2⟩,h2,h⟩:=Q0.mp h;obtain⟨kk,h3,h⟩:=Q0.mp h;obtain⟨⟨zs,S3⟩,h4,h⟩:=Q0.mp h;cases h;simp[pd h4]
theorem IsP.merge{K:Q1}{m:List Addr}{H:Hp}{kvs:List (Key×V)}{kus:List (Key×U)}(h:IsP K m H kvs kus):∀(av:List (Key×V)) (au:List (Key×U)),IsP K m H av au->IsP K m H (mf av kvs) (yM kus au):=
 IsP.ind (P:=fun kvs kus=>∀(av:List (Key×V)) (au:List (Key×U)),IsP K m H av au->IsP K m H (mf av kvs) (yM kus au)) (fun _ _ h=>h) (fun k v u kvs kus i _ ih av au ha=>ih _ _ (ha.put (k:=k) i)) h
theorem yu{keys:List (Option QK)}{values:List QK}{prs:List (CE×CE)}(h:QP X pos keys values prs)(hall:keys.all (·.isSome)=true)(hl:keys.length=values.length)(h0:keys≠[])(h15:keys.length<=15)(hp:prs.length<=15):QE X (.Dict keys values pos) (lC prs):=
 (AE h hall hl h0 h15).imp fun σ H Q hz=>my hz fun m ρ S u S' sr lr hc post=>by
 obtain⟨⟨kus,S1⟩,h1,h2⟩:=Q0.mp hc;simp only at h2;split at h2<;>try cases h2
 rename_i hS;intro p hp';have ee:Ext X.K m H (m++[p]) (upd H p (.dK [])):=.new (dU hp' _);refine rn (sr.new (o:=.dic []) hp' ⟨[],aU,.nil_⟩) (lr.mono ee) h1 fun m1 kvs H1 e1 sr1 ip=>?_;have ha:m1[S.length]?=some p:=e1.get (h7 sr.len);obtain⟨a',ha',kv0,hx,ip0⟩:=sr1.get hS;rw[ha]at ha';cases ha';have e0:kv0=[]:=by have:=IsP.length ip0;simpa using this
 subst e0;have eu:Ext X.K m1 H1 m1 (upd H1 p (.dK (mf [] kvs))):=.of (sr1.keep ha _);refine⟨hx,kvs,rfl,by rw[IsP.length ip,pd h1];exact hp,post m1 _ _ ((ee.trans e1).trans eu) (sr1.put (o:=.dic (gc kus)) ha ⟨_,aU,(IsP.merge ip _ _ .nil_).mono eu⟩) (.ref_ ha)⟩
end
section
variable{ρ:Rho}{S:Sto}{c1 c2:CS}{t ta tb:CT}{ca cb cc:CE}{cr:CA}{u x y:U}{us:List U}{i l:Nat}{f g:U->U->Sto->Option (U×Sto)}{b:Bool}
def N3(S:Sto):Option (Option U)->Option (U×Sto)
 |some (some u)=>some (u,S)
 |_=>none
def Lg:ah i ρ S=N3 S (ρ[i]?):=rfl
def Gu:N3 S (some (some u))=some (u,S):=rfl
def x_c:cC u ρ S=some (u,S):=rfl
def M6(f:U->U->Sto->Option (U×Sto))(x:U)(q:U×Sto):=f x q.1 q.2
def N8(f:U->U->Sto->Option (U×Sto))(cb:CE)(ρ:Rho)(p:U×Sto):=(cb ρ p.2).bind (M6 f p.1)
def GL:cOp f ca cb ρ S=(ca ρ S).bind (N8 f cb ρ):=rfl
def As:N8 f cb ρ (x,S)=(cb ρ S).bind (M6 f x):=rfl
def Ar:M6 f x (y,S)=f x y S:=rfl
def JT:U×Sto->Option (Bool×Sto)
 |(.bl b,S)=>some (b,S)
 |_=>none
theorem Cp:aL ca ρ S=(ca ρ S).bind JT:=by
 unfold aL;congr 1;funext p;obtain⟨u,S⟩:=p;cases u<;>rfl
def xl:JT (.bl b,S)=some (b,S):=rfl
def Ni(tb:CT)(ρ:Rho)(p:Bool×Sto):=if p.1=true then tb ρ p.2 else some (false,p.2)
def kOr(tb:CT)(ρ:Rho)(p:Bool×Sto):=if p.1=true then some (true,p.2)else tb ρ p.2
def N9(p:Bool×Sto):Option (Bool×Sto):=some (!p.1,p.2)
def Mf:qu ta tb ρ S=(ta ρ S).bind (Ni tb ρ):=rfl
def Ho:Ni tb ρ (true,S)=tb ρ S:=rfl
def Hn:Ni tb ρ (false,S)=some (false,S):=rfl
def OB:cOr ta tb ρ S=(ta ρ S).bind (kOr tb ρ):=rfl
def Lz:kOr tb ρ (true,S)=some (true,S):=rfl
def Ly:kOr tb ρ (false,S)=tb ρ S:=rfl
def LA:wV ta ρ S=(ta ρ S).bind N9:=rfl
def GO:N9 (b,S)=some (!b,S):=rfl
def FI(cb:CE)(ρ:Rho):U×Sto->Option (U×Sto)
 |(.bl true,S)=>cb ρ S
 |(.bl false,S)=>some (.bl false,S)
 |_=>none
def M5(cb:CE)(ρ:Rho):U×Sto->Option (U×Sto)
 |(.bl false,S)=>cb ρ S
 |(.bl true,S)=>some (.bl true,S)
 |_=>none
def JW:U×Sto->Option (U×Sto)
 |(.bl b,S)=>some (.bl (!b),S)
 |_=>none
theorem Hm:gI ca cb ρ S=(ca ρ S).bind (FI cb ρ):=by
 unfold gI;congr 1;funext p;obtain⟨u,S⟩:=p;cases u with
 |bl b=>cases b<;>rfl
 |_=>rfl
def DL:FI cb ρ (.bl true,S)=cb ρ S:=rfl
def DK:FI cb ρ (.bl false,S)=some (.bl false,S):=rfl
theorem Lx:Oo ca cb ρ S=(ca ρ S).bind (M5 cb ρ):=by
 unfold Oo;congr 1;funext p;obtain⟨u,S⟩:=p;cases u with
 |bl b=>cases b<;>rfl
 |_=>rfl
def GK:M5 cb ρ (.bl false,S)=cb ρ S:=rfl
def GJ:M5 cb ρ (.bl true,S)=some (.bl true,S):=rfl
theorem GN:uG ca ρ S=(ca ρ S).bind JW:=by
 unfold uG;congr 1;funext p;obtain⟨u,S⟩:=p;cases u<;>rfl
def Du:JW (.bl b,S)=some (.bl (!b),S):=rfl
def yX(u:U)(q:List U×Sto):Option (List U×Sto):=some (u::q.1,q.2)
def C7(cr:CA)(ρ:Rho)(p:U×Sto):=(cr ρ p.2).bind (yX p.1)
def sT:aB ρ S=some ([],S):=rfl
def ke:ae ca cr ρ S=(ca ρ S).bind (C7 cr ρ):=rfl
def jM:C7 cr ρ (u,S)=(cr ρ S).bind (yX u):=rfl
def jL:yX u (us,S)=some (u::us,S):=rfl
def N4(p:List U×Sto):Option (U×Sto):=some (.tup p.1,p.2)
def Oa(p:List U×Sto):Option (U×Sto):=some (.ref p.2.length,p.2++[.lst p.1])
def Lh:fY cr ρ S=(cr ρ S).bind N4:=rfl
def Gy:N4 (us,S)=some (.tup us,S):=rfl
def GR:b7 cr ρ S=(cr ρ S).bind Oa:=rfl
def Cs:Oa (us,S)=some (.ref S.length,S++[.lst us]):=rfl
def kCB(f:Fn)(p:List U×Sto):=f p.1 p.2
def NM{f:Fn}:cCB f cr ρ S=(cr ρ S).bind (kCB f):=rfl
def Hj{f:Fn}:kCB f (us,S)=f us S:=rfl
def Oc(T:Ty)(p:U×Sto):Option (U×Sto):=(tyU p.1 p.2).bind fun t=>some (.bl (Ej t T),p.2)
def LP{T:Ty}:K7 T ca ρ S=(ca ρ S).bind (Oc T):=rfl
def GX{T:Ty}:Oc T (u,S)=(tyU u S).bind fun t=>some (.bl (Ej t T),S):=rfl
def JU(c2:CS):Out×Rho×Sto->Option (Out×Rho×Sto)
 |(.nx,ρ,S)=>c2 ρ S
 |(o,ρ,S)=>some (o,ρ,S)
def Gz:bb ρ S=some (.nx,ρ,S):=rfl
theorem GG:aT c1 c2 ρ S=(c1 ρ S).bind (JU c2):=by
 unfold aT;congr 1;funext p;obtain⟨o,ρ,S⟩:=p;cases o<;>rfl
def Cq:JU c2 (.nx,ρ,S)=c2 ρ S:=rfl
def GF:JU c2 (.rt u,ρ,S)=some (.rt u,ρ,S):=rfl
def GD:JU c2 (.bk,ρ,S)=some (.bk,ρ,S):=rfl
def GC:JU c2 (.ct,ρ,S)=some (.ct,ρ,S):=rfl
def JY(ρ:Rho)(p:U×Sto):Option (Out×Rho×Sto):=some (.nx,ρ,p.2)
def N7(ρ:Rho)(p:U×Sto):Option (Out×Rho×Sto):=some (.rt p.1,ρ,p.2)
def Hb:bp ca ρ S=(ca ρ S).bind (JY ρ):=rfl
def DG:JY ρ (u,S)=some (.nx,ρ,S):=rfl
def Lu:cm ca ρ S=(ca ρ S).bind (N7 ρ):=rfl
def GH:N7 ρ (u,S)=some (.rt u,ρ,S):=rfl
def M7(c1 c2:CS)(ρ:Rho)(p:Bool×Sto):=if p.1=true then c1 ρ p.2 else c2 ρ p.2
def sV:cE t c1 c2 ρ S=(t ρ S).bind (M7 c1 c2 ρ):=rfl
def qJ:M7 c1 c2 ρ (true,S)=c1 ρ S:=rfl
def xp:M7 c1 c2 ρ (false,S)=c2 ρ S:=rfl
def kIf(ca cb:CE)(ρ:Rho)(p:Bool×Sto):=if p.1=true then ca ρ p.2 else cb ρ p.2
def OO:cIf t ca cb ρ S=(t ρ S).bind (kIf ca cb ρ):=rfl
def LU:kIf ca cb ρ (true,S)=ca ρ S:=rfl
def LS:kIf ca cb ρ (false,S)=cb ρ S:=rfl
def N5(i:Nat)(ρ:Rho)(p:U×Sto):Option (Out×Rho×Sto):=some (.nx,ρ.set i (some p.1),p.2)
def xn:bj i ca ρ S=(ca ρ S).bind (N5 i ρ):=rfl
def qG:N5 i ρ (u,S)=some (.nx,ρ.set i (some u),S):=rfl
def FH(q:Rho×Sto):Option (Out×Rho×Sto):=some (.nx,q.1,q.2)
def Oe(g:CG)(ρ:Rho)(p:U×Sto):=(g p.1 ρ p.2).bind FH
def Md{g:CG}:Ph ca g ρ S=(ca ρ S).bind (Oe g ρ):=rfl
def Hl{g:CG}:Oe g ρ (u,S)=(g u ρ S).bind FH:=rfl
def Hk:FH (ρ,S)=some (.nx,ρ,S):=rfl
def LW:gNm i u ρ S=some (ρ.set i (some u),S):=rfl
def LV{is:List Nat}:gTp is (.tup us) ρ S=(iH is us ρ).bind fun ρ'=>some (ρ',S):=rfl
def Ht:iH [] [] ρ=some ρ:=rfl
def Hq{is:List Nat}:iH (i::is) (u::us) ρ=iH is us (ρ.set i (some u)):=rfl
def JV(ρ:Rho)(S':Sto):Option (Out×Rho×Sto):=some (.nx,ρ,S')
def M3(o v:U)(ρ:Rho)(r:U×Sto):=(nV o r.1 v r.2).bind (JV ρ)
def M4(ci:CE)(v:U)(ρ:Rho)(q:U×Sto):=(ci ρ q.2).bind (M3 q.1 v ρ)
def kSI(co ci:CE)(ρ:Rho)(p:U×Sto):=(co ρ p.2).bind (M4 ci p.1 ρ)
def Ou:iL ca cb cc ρ S=(cc ρ S).bind (kSI ca cb ρ):=rfl
def Ln:kSI ca cb ρ (u,S)=(ca ρ S).bind (M4 cb u ρ):=rfl
def Lm:M4 cb y ρ (u,S)=(cb ρ S).bind (M3 u y ρ):=rfl
def Ll:M3 x y ρ (u,S)=(nV x u y S).bind (JV ρ):=rfl
def Lk:JV ρ S=some (.nx,ρ,S):=rfl
def kIx(y:U)(S:Sto):Option O->Option (U×Sto)
 | some (.lst us)=>(match y with
   |.int i=>(atI us i).bind fun u=>some (u,S)
   |_=>none)
 |some (.dic kus)=>(nR y).bind fun k=>(iN kus k).bind fun u=>some (u,S)
 |some (.fdc _ kus)=>(nR y).bind fun k=>(iN kus k).bind fun u=>some (u,S)
 |_=>none
def LL{j:Int}:fIx (.tup us) (.int j) S=(atI us j).bind fun u=>some (u,S):=rfl
theorem LM:fIx (.ref l) y S=kIx y S S[l]?:=by
 unfold fIx kIx;dsimp only<;>(generalize S[l]?=q;rcases q with _|o<;>first|rfl|(cases o<;>rfl))
def LN{j:Int}:kIx (.int j) S (some (.lst us))=(atI us j).bind fun u=>some (u,S):=rfl
def LO{kus:List (Key×U)}:kIx y S (some (.dic kus))=(nR y).bind fun k=>(iN kus k).bind fun u=>some (u,S):=rfl
def K1(l:Nat)(i v:U)(S:Sto):Option O->Option Sto
 | some (.lst us)=>(match i with
   |.int k=>(ixN us.length k).bind fun j=>some (S.set l (.lst (us.set j v)))
   |_=>none)
 |some (.dic kus)=>(nR i).bind fun k=>if kus.length<LIM then some (S.set l (.dic (EF kus k v)))else none
 |_=>none
theorem Lj:nV (.ref l) x y S=K1 l x y S S[l]?:=by
 unfold nV K1;dsimp only<;>(generalize S[l]?=q;rcases q with _|o<;>first|rfl|(cases o<;>rfl))
theorem GA{j:Int}:K1 l (.int j) y S (some (.lst us))=(ixN us.length j).bind fun j=>some (S.set l (.lst (us.set j y))):=rfl
theorem GB{kus:List (Key×U)}:K1 l x y S (some (.dic kus))=(nR x).bind fun k=>if kus.length<LIM then some (S.set l (.dic (EF kus k y)))else none:=rfl
def at0{α:Type}{a:α}{r:List α}:atI (a::r) 0=some a:=by show atI _ ((0:Nat):Int)=_;exact j4 rfl
def at1{α:Type}{a b:α}{r:List α}:atI (a::b::r) 1=some b:=by show atI _ ((1:Nat):Int)=_;exact j4 rfl
def at2{α:Type}{a b c:α}{r:List α}:atI (a::b::c::r) 2=some c:=by show atI _ ((2:Nat):Int)=_;exact j4 rfl
def at3{α:Type}{a b c d:α}{r:List α}:atI (a::b::c::d::r) 3=some d:=by show atI _ ((3:Nat):Int)=_;exact j4 rfl
def ix0{n:Nat}:ixN (n+1) 0=some 0:=by simp[ixN]
def ix1{n:Nat}:ixN (n+1+1) 1=some 1:=by simp[ixN];omega
def ix2{n:Nat}:ixN (n+1+1+1) 2=some 2:=by simp[ixN];omega
def K4(S:Sto):Option O->Option (U×Sto)
 |some (.lst us)=>some (.int us.length,S)
 |some (.dic us)=>some (.int us.length,S)
 |_=>none
theorem GU:gN [.ref l] S=K4 S S[l]?:=by
 unfold gN K4;dsimp only<;>(generalize S[l]?=q;rcases q with _|o<;>first|rfl|(cases o<;>rfl))
def GV:K4 S (some (.lst us))=some (.int us.length,S):=rfl
def GW{kus:List (Key×U)}:K4 S (some (.dic kus))=some (.int kus.length,S):=rfl
def GS:gN [.tup us] S=some (.int us.length,S):=rfl
variable{j k:Int}
def Mg:bI (.int j) (.int k) S=some (.int (j+k),S):=rfl
def Li:gM (.int j) (.int k) S=some (.int (j-k),S):=rfl
def GP(h:wZ j k):nW (.int j) (.int k) S=some (.int (j*k),S):=by simp[nW,fI,h]
def DH(h:w4 j k):BV (.int j) (.int k) S=some (.int (j / k),S):=by simp[BV,fI,h]
def vV(h:0<k):se (.int j) (.int k) S=some (.int (j % k),S):=by simp[se,fI,h]
def Lw(h:Gr j k):Gj (.int j) (.int k) S=some (.int (j^k.toNat),S):=by simp[Gj,fI,h]
def ON:fLt (.int j) (.int k) S=some (.bl (decide (j<k)),S):=rfl
def KJ:fLe (.int j) (.int k) S=some (.bl (decide (j<=k)),S):=rfl
def OR:fGt (.int j) (.int k) S=some (.bl (decide (k<j)),S):=rfl
def OS:fGe (.int j) (.int k) S=some (.bl (decide (k<=j)),S):=rfl
def L5:fEq (.int j) (.int k) S=some (.bl (decide (j=k)),S):=rfl
def LC:fNe (.int j) (.int k) S=some (.bl (!decide (j=k)),S):=rfl
def Ha{a c:Str}:fEq (.str a) (.str c) S=some (.bl (decide (a=c)),S):=rfl
def LB{a c:Str}:fNe (.str a) (.str c) S=some (.bl (!decide (a=c)),S):=rfl
def L6{a c:Bool}:fEq (.bl a) (.bl c) S=some (.bl (decide (a=c)),S):=rfl
def LD{a c:Bool}:fNe (.bl a) (.bl c) S=some (.bl (!decide (a=c)),S):=rfl
def kFn:Out×Rho×Sto->Option (U×Sto)
 |(.rt u,_,S)=>some (u,S)
 |(.nx,_,S)=>some (.non,S)
 |_=>none
theorem qK{n k:Nat}(h:us.length=k):fnU n k c1 us S=(c1 (oX n us) S).bind kFn:=by
 unfold fnU;rw[if_pos h];congr 1;funext p;obtain⟨o,ρ,S⟩:=p;cases o<;>rfl
def uA{c:CS}{a0:U}{S:Sto}:fnU 1 1 c [a0] S=(c [some a0] S).bind kFn:=qK rfl
def F2{c:CS}{a0:U}{S:Sto}:fnU 2 1 c [a0] S=(c [some a0,none] S).bind kFn:=qK rfl
def B0{c:CS}{a0 a1:U}{S:Sto}:fnU 2 2 c [a0,a1] S=(c [some a0,some a1] S).bind kFn:=qK rfl
def Kk{c:CS}{a0:U}{S:Sto}:fnU 3 1 c [a0] S=(c [some a0,none,none] S).bind kFn:=qK rfl
def uz{c:CS}{a0 a1:U}{S:Sto}:fnU 3 2 c [a0,a1] S=(c [some a0,some a1,none] S).bind kFn:=qK rfl
def Kj{c:CS}{a0 a1 a2:U}{S:Sto}:fnU 3 3 c [a0,a1,a2] S=(c [some a0,some a1,some a2] S).bind kFn:=qK rfl
def Nu{c:CS}{a0:U}{S:Sto}:fnU 4 1 c [a0] S=(c [some a0,none,none,none] S).bind kFn:=qK rfl
def BZ{c:CS}{a0 a1:U}{S:Sto}:fnU 4 2 c [a0,a1] S=(c [some a0,some a1,none,none] S).bind kFn:=qK rfl
def Nt{c:CS}{a0 a1 a2:U}{S:Sto}:fnU 4 3 c [a0,a1,a2] S=(c [some a0,some a1,some a2,none] S).bind kFn:=qK rfl
theorem Nr{c:CS}{a0 a1 a2 a3:U}{S:Sto}:fnU 4 4 c [a0,a1,a2,a3] S=(c [some a0,some a1,some a2,some a3] S).bind kFn:=qK rfl
def Nq{c:CS}{a0 a1:U}{S:Sto}:fnU 5 2 c [a0,a1] S=(c [some a0,some a1,none,none,none] S).bind kFn:=qK rfl
def zA{c:CS}{a0 a1:U}{S:Sto}:fnU 6 2 c [a0,a1] S=(c [some a0,some a1,none,none,none,none] S).bind kFn:=qK rfl
def Np{c:CS}{a0 a1:U}{S:Sto}:fnU 7 2 c [a0,a1] S=(c [some a0,some a1,none,none,none,none,none] S).bind kFn:=qK rfl
theorem BY{c:CS}{a0 a1 a2:U}{S:Sto}:fnU 7 3 c [a0,a1,a2] S=(c [some a0,some a1,some a2,none,none,none,none] S).bind kFn:=qK rfl
theorem Nn{c:CS}{a0 a1:U}{S:Sto}:fnU 8 2 c [a0,a1] S=(c [some a0,some a1,none,none,none,none,none,none] S).bind kFn:=qK rfl
theorem Nm{c:CS}{a0 a1 a2:U}{S:Sto}:fnU 8 3 c [a0,a1,a2] S=(c [some a0,some a1,some a2,none,none,none,none,none] S).bind kFn:=qK rfl
theorem Kl{c:CS}{a0 a1 a2 a3:U}{S:Sto}:fnU 11 4 c [a0,a1,a2,a3] S=(c [some a0,some a1,some a2,some a3,none,none,none,none,none,none,none] S).bind kFn:=qK rfl
def LY:kFn (.rt u,ρ,S)=some (u,S):=rfl
def LX:kFn (.nx,ρ,S)=some (.non,S):=rfl
end
section
variable{ρ:Rho}{S:Sto}{t:CT}{ca cb cc:CE}{cr:CA}{u x:U}{us:List U}{i l:Nat}{b:Bool}{c:Cl}{fus:List (Option U)}{g:Fn}
open Classical in
def BL(c:Cl)(i:Nat)(S:Sto):Option O->Option (U×Sto)
 |some (.ins c' fus)=>if c'=c then(fus[i]?).join.bind fun u=>some (u,S)else none
 |_=>none
def M8(c:Cl)(i:Nat)(p:U×Sto):=Ke c i p.1 p.2
def LZ:jx c i ca ρ S=(ca ρ S).bind (M8 c i):=rfl
theorem G9:M8 c i (.ref l,S)=BL c i S S[l]?:=by
 unfold M8 Ke BL;dsimp only<;>(generalize S[l]?=q;rcases q with _|o<;>first|rfl|(cases o<;>rfl))
theorem GZ:BL c i S (some (.ins c fus))=((fus[i]?).join).bind fun u=>some (u,S):=by
 unfold BL;dsimp only;rw[if_pos rfl]
open Classical in
def K2(c:Cl)(i l:Nat)(v:U)(S:Sto):Option O->Option Sto
 |some (.ins c' fus)=>if c'=c then some (S.set l (.ins c (fus.set i (some v))))else none
 |_=>none
def K3(c:Cl)(i:Nat)(v:U)(ρ:Rho)(q:U×Sto):=(zr c i q.1 v q.2).bind (JV ρ)
def N6(c:Cl)(i:Nat)(ca:CE)(ρ:Rho)(p:U×Sto):=(ca ρ p.2).bind (K3 c i p.1 ρ)
def Ov:lB c i ca cb ρ S=(cb ρ S).bind (N6 c i ca ρ):=rfl
def Lq:N6 c i ca ρ (u,S)=(ca ρ S).bind (K3 c i u ρ):=rfl
theorem Lp:K3 c i u ρ (.ref l,S)=(K2 c i l u S S[l]?).bind (JV ρ):=by
 unfold K3 zr K2;dsimp only<;>(generalize S[l]?=q;rcases q with _|o<;>first|rfl|(cases o<;>rfl))
theorem Lo:K2 c i l u S (some (.ins c fus))=some (S.set l (.ins c (fus.set i (some u)))):=by
 unfold K2;dsimp only;rw[if_pos rfl]
def yW(g:Fn)(l:Nat)(q:List U×Sto):=g (.ref l::q.1) q.2
open Classical in
def vx(c:Cl)(g:Fn)(cr:CA)(ρ:Rho)(l:Nat)(S:Sto):Option O->Option (U×Sto)
 |some (.ins c' _)=>if c'=c then(cr ρ S).bind (yW g l)else none
 |_=>none
def FG(c:Cl)(g:Fn)(cr:CA)(ρ:Rho)(p:U×Sto):=zt c g p.1 p.2 (cr ρ)
def GQ:bc c g ca cr ρ S=(ca ρ S).bind (FG c g cr ρ):=rfl
theorem Dy:FG c g cr ρ (.ref l,S)=vx c g cr ρ l S S[l]?:=by
 unfold FG zt vx;dsimp only<;>(generalize S[l]?=q;rcases q with _|o<;>first|rfl|(cases o<;>rfl))
theorem Dx:vx c g cr ρ l S (some (.ins c fus))=(cr ρ S).bind (yW g l):=by
 unfold vx;dsimp only;rw[if_pos rfl]
def Dw:yW g l (us,S)=g (.ref l::us) S:=rfl
def JX(n:Nat):U×Sto->Option (U×Sto)
 |(.non,S)=>some (.ref n,S)
 |_=>none
theorem Cr:qp c g us S=(g (.ref S.length::us) (S++[.ins c (Q9 c.ns.length none)])).bind (JX S.length):=by
 unfold qp;congr 1;funext p;obtain⟨u,S⟩:=p;cases u<;>rfl
def Dz:JX i (.non,S)=some (.ref i,S):=rfl
def kIn(neg:Bool)(x:U)(S:Sto):Option O->Option (U×Sto)
 |some (.lst us)=>if mx x=true/\us.all mx=true then some (.bl (if neg then !inU x us else inU x us),S)else none
 |some (.dic kus)=>(nR x).bind fun k=>some (.bl (if neg then !(iN kus k).isSome else(iN kus k).isSome),S)
 |some (.fdc _ kus)=>(nR x).bind fun k=>some (.bl (if neg then !(iN kus k).isSome else(iN kus k).isSome),S)
 |_=>none
theorem LQ{neg:Bool}:fIn neg x (.ref l) S=kIn neg x S S[l]?:=by
 unfold fIn kIn;dsimp only<;>(generalize S[l]?=q;rcases q with _|o<;>first|rfl|(cases o<;>rfl))
theorem LR{neg:Bool}{kus:List (Key×U)}:kIn neg x S (some (.dic kus))=(nR x).bind fun k=>some (.bl (if neg then !(iN kus k).isSome else(iN kus k).isSome),S):=rfl
def LK{j:Int}:nR (.int j)=some (.inl j):=rfl
def Ct{z:Str}:nR (.str z)=some (.inr z):=rfl
def Ng(f:U->List U->Sto->Option (U×Sto))(x:U)(q:List U×Sto):=f x q.1 q.2
def Nh(f:U->List U->Sto->Option (U×Sto))(cr:CA)(ρ:Rho)(x:U)(S:Sto):Option O->Option (U×Sto)
 |some (.lst _)=>(cr ρ S).bind (Ng f x)
 |_=>none
def kBM(f:U->List U->Sto->Option (U×Sto))(cr:CA)(ρ:Rho):U×Sto->Option (U×Sto)
 |(.ref l,S)=>Nh f cr ρ (.ref l) S S[l]?
 |_=>none
variable{fm:U->List U->Sto->Option (U×Sto)}
theorem OT:cBM fm ca cr ρ S=(ca ρ S).bind (kBM fm cr ρ):=by
 unfold cBM;congr 1;funext p;obtain⟨u,S⟩:=p;cases u<;>try rfl
def Mb:kBM fm cr ρ (.ref l,S)=Nh fm cr ρ (.ref l) S S[l]?:=rfl
def Ma:Nh fm cr ρ x S (some (.lst us))=(cr ρ S).bind (Ng fm x):=rfl
def L9:Ng fm x (us,S)=fm x us S:=rfl
def K5(l:Nat)(u:U)(S:Sto):Option O->Option (U×Sto)
 |some (.lst us)=>if us.length<LIM then some (.non,S.set l (.lst (us++[u])))else none
 |_=>none
theorem Me:bJ (.ref l) [u] S=K5 l u S S[l]?:=by
 unfold bJ K5;dsimp only<;>(generalize S[l]?=q;rcases q with _|o<;>first|rfl|(cases o<;>rfl))
theorem eZ(h:us.length<LIM):K5 l u S (some (.lst us))=some (.non,S.set l (.lst (us++[u]))):=by
 unfold K5;dsimp only;rw[if_pos h]
def M9(ku xu:U)(S:Sto):Option O->Option (U×Sto)
 |some (.dic kus)=>(nR ku).bind fun k=>some ((iN kus k).getD xu,S)
 |_=>none
def Na(l:Nat)(ku:U)(r:U×Sto):=M9 ku r.1 r.2 r.2[l]?
def Nd(l:Nat)(cx:CE)(ρ:Rho)(q:U×Sto):=(cx ρ q.2).bind (Na l q.1)
def Nf(l:Nat)(ck cx:CE)(ρ:Rho)(S:Sto):Option O->Option (U×Sto)
 |some (.dic _)=>(ck ρ S).bind (Nd l cx ρ)
 |_=>none
def kDG(ck cx:CE)(ρ:Rho):U×Sto->Option (U×Sto)
 |(.ref l,S)=>Nf l ck cx ρ S S[l]?
 |_=>none
theorem NL:qt ca cb cc ρ S=(ca ρ S).bind (kDG cb cc ρ):=by
 unfold qt;congr 1;funext p;obtain⟨u,S⟩:=p;cases u<;>try rfl
def Hi:kDG cb cc ρ (.ref l,S)=Nf l cb cc ρ S S[l]?:=rfl
def Hh{kus:List (Key×U)}:Nf l cb cc ρ S (some (.dic kus))=(cb ρ S).bind (Nd l cc ρ):=rfl
def Hg:Nd l cc ρ (u,S)=(cc ρ S).bind (Na l u):=rfl
def Hf:Na l u (x,S)=M9 u x S S[l]?:=rfl
def He{kus:List (Key×U)}:M9 u x S (some (.dic kus))=(nR u).bind fun k=>some ((iN kus k).getD x,S):=rfl
def Hc:NB ρ S=some (.ref S.length,S++[.dic []]):=rfl
def kP3(k:Key)(u:U)(z:List (Key×U)×Sto):Option (List (Key×U)×Sto):=some ((k,u)::z.1,z.2)
def kP2(r:List (CE×CE))(ρ:Rho)(x:U)(q:U×Sto):=(nR x).bind fun k=>(kx r ρ q.2).bind (kP3 k q.1)
def kP1(cv:CE)(r:List (CE×CE))(ρ:Rho)(p:U×Sto):=(cv ρ p.2).bind (kP2 r ρ p.1)
variable{pr:List (CE×CE)}
def OA:kx [] ρ S=some ([],S):=rfl
def x_p:kx ((ca,cb)::pr) ρ S=(ca ρ S).bind (kP1 cb pr ρ):=rfl
def Oy:kP1 cb pr ρ (u,S)=(cb ρ S).bind (kP2 pr ρ u):=rfl
def Ox:kP2 pr ρ x (u,S)=(nR x).bind fun k=>(kx pr ρ S).bind (kP3 k u):=rfl
def Ow{k:Key}{z:List (Key×U)}:kP3 k u (z,S)=some ((k,u)::z,S):=rfl
def kD1(n:Nat)(kus:List (Key×U))(S:Sto):Option O->Option (U×Sto)
 |some (.dic [])=>some (.ref n,S.set n (.dic (gc kus)))
 |_=>none
def kD(n:Nat)(q:List (Key×U)×Sto):=kD1 n q.1 q.2 q.2[n]?
theorem xq:lC pr ρ S=(kx pr ρ (S++[.dic []])).bind (kD S.length):=by
 unfold lC;congr 1
def DJ{z:List (Key×U)}:kD i (z,S)=kD1 i z S S[i]?:=rfl
def DI{z:List (Key×U)}:kD1 i z S (some (.dic []))=some (.ref i,S.set i (.dic (gc z))):=rfl
def Gv:mh [.tup us] S=some (.tup us,S):=rfl
def M0(S:Sto):Option O->Option (U×Sto)
 |some (.lst us)=>some (.tup us,S)
 |_=>none
theorem Gw:mh [.ref l] S=M0 S S[l]?:=by
 unfold mh M0;dsimp only<;>(generalize S[l]?=q;rcases q with _|o<;>first|rfl|(cases o<;>rfl))
def Gx:M0 S (some (.lst us))=some (.tup us,S):=rfl
def DB:FY [.tup us] S=some (.ref S.length,S++[.lst us]):=rfl
def kLs(S:Sto):Option O->Option (U×Sto)
 |some (.lst us)=>some (.ref S.length,S++[.lst us])
 |_=>none
theorem DC:FY [.ref l] S=kLs S S[l]?:=by
 unfold FY kLs;dsimp only<;>(generalize S[l]?=q;rcases q with _|o<;>first|rfl|(cases o<;>rfl))
def DD:kLs S (some (.lst us))=some (.ref S.length,S++[.lst us]):=rfl
def GY:Pd [.bl b] S=some (.int (if b then 1 else 0),S):=rfl
def ga{X:Sto}{n:Nat}:(S++X)[S.length+n]?=X[n]?:=by rw[Qb (Nat.le_add_right _ _),Nat.add_sub_cancel_left]
def ga0{X:Sto}:(S++X)[S.length]?=X[0]?:=ga (n:=0)
theorem gs{X:Sto}{n:Nat}{o:O}:(S++X).set (S.length+n) o=S++X.set n o:=by rw[List.set_append_right _ _ (Nat.le_add_right _ _),Nat.add_sub_cancel_left]
def gs0{X:Sto}{o:O}:(S++X).set S.length o=S++X.set 0 o:=gs (n:=0)
section
variable{ok:Sto->Prop}{gg:CG}{cbd:CS}{ρ0 ρ1:Rho}{S0 S1:Sto}
def eD(h:ok S):d7 ok gg cbd [] ρ S=some (.nx,ρ,S):=by unfold d7;rw[if_pos h]
theorem bM(h:ok S)(hg:gg u ρ S=some (ρ0,S0))(hb:cbd ρ0 S0=some (.nx,ρ1,S1)):d7 ok gg cbd (u::us) ρ S=d7 ok gg cbd us ρ1 S1:=by
 rw[d7];dsimp only;rw[if_pos h,hg,Q3];dsimp only;rw[hb,Q3]
theorem yP(h:ok S)(hg:gg u ρ S=some (ρ0,S0))(hb:cbd ρ0 S0=some (.rt x,ρ1,S1)):d7 ok gg cbd (u::us) ρ S=some (.rt x,ρ1,S1):=by
 rw[d7];dsimp only;rw[if_pos h,hg,Q3];dsimp only;rw[hb,Q3]
theorem uT{n:Nat}(ht:t ρ S=some (true,S0))(hb:cbd ρ S0=some (.nx,ρ1,S1)):e8 t cbd (n+1) ρ S=e8 t cbd n ρ1 S1:=by
 rw[e8];dsimp only;rw[ht,Q3];dsimp only;rw[if_pos rfl,hb,Q3]
theorem xI{n:Nat}(ht:t ρ S=some (false,S0)):e8 t cbd (n+1) ρ S=some (.nx,ρ,S0):=by
 rw[e8];dsimp only;rw[ht,Q3];dsimp only;rw[if_neg (by decide)]
theorem zO{ce:CE}{ys:List U}(h:ok S)(hg:gg u ρ S=some (ρ0,S0))(he:ce ρ0 S0=some (x,S1))(hl:S1[l]?=some (.lst ys))(hn:ys.length<LIM):mz ok gg ce l (u::us) ρ S=mz ok gg ce l us ρ0 (S1.set l (.lst (ys++[x]))):=by
 rw[mz,if_pos h,hg,Q3];dsimp only;rw[he,Q3];dsimp only;rw[hl];dsimp only;rw[if_pos hn]
def B7{ce:CE}(h:ok S):mz ok gg ce l [] ρ S=some S:=by rw[mz,if_pos h]
end
end
theorem FF{K:Q1}{H:Hp}{p xs:Addr}{c:CS}{r:Rho}{σ:L2.St}{v0:Option V}{Q:VK}{nx bk ct:L2.St->Hp->Prop}(P:Ot H p xs)
  (ok:∀(ns:List Int) (a b:Int),0<=a->0<=b->∃ρ' S',c (none::some (.ref 1)::r) [.lst (ns.map U.int),.lst [.ref 0,.int a,.int b]]=some (.rt (.bl true),ρ',S')) (q:∀H',Q (.bl true) H')
  (hr:r=Q9 r.length none:=by rfl) (hl:σ.length=r.length:=by rfl):tS K c { nx:=nx,rt:=Q,bk:=bk,ct:=ct } (v0::some (.ref p)::σ) H:=by
 obtain⟨ns,a,b,h1,h2,h3,h4,h5⟩:=P;obtain⟨ρ',S',e⟩:=ok ns a b h4 h5;refine⟨[xs,p],_,_,_,ρ',S',⟨rfl,by simp[h3],fun l ad o e1 e2=>?_⟩,⟨by simp[hl],fun i u e1=>?_⟩,e,fun m' v H' _ _ iv=>by rw[iv.of_bl];exact q H'⟩
 ·match l,e1,e2 with
  |0,e1,e2=>
   simp at e1 e2;subst e1;subst e2;exact⟨_,h2,vB ns⟩
  |1,e1,e2=>
   simp at e1 e2;subst e1;subst e2;exact⟨_,h1,.cons_ (.ref_ rfl) (.cons_ .int_ (.cons_ .int_ .nil_))⟩
  |l+2,e1,e2=>simp at e1
 ·match i,e1 with
  |0,e1=>simp at e1
  |1,e1=>
   simp at e1;subst e1;exact⟨.ref p,rfl,.ref_ rfl⟩
  |i+2,e1=>
   simp at e1;rw[hr,ZX]at e1;split at e1<;>cases e1
theorem ef.no{P:QL}{w:Qu}{K:Q1}{mg:Str->Option Q2}{base:Heap}{c:Cl}{mn x qual:Str}{st:Qg}{k:Nat}{ps:List Str}{fa:Addr}{fd:Z8}(F:Fun K x qual st fa fd)(b:fT K fd ps [])(m:Ck K c.C mn fa):ef P w K mg base c mn k ps (fun _ _=>none):=by
 have no:∀vs H Q E,¬Ak K (fun _ _=>none) vs H Q E:=fun vs H Q E h=>by
  obtain⟨m,us,S,u,S',i,sr,hf,post⟩:=h;cases hf
 exact⟨fa,fd,m,⟨fun vs H Q E h=>absurd h (no vs H Q E),fun A outer s H args us vs Q E _ _ _ _ h=>absurd h (no vs H Q E)⟩,b⟩
def Gk{p:List Q2->Prop}(h:p [])(us:List Q2)(e:us.length=0):p us:=by rw[List.length_eq_zero_iff.mp e];exact h
theorem NC{n:Nat}{p:List Q2->Prop}(h:∀a us,us.length=n->p (a::us))(us:List Q2)(e:us.length=n+1):p us:=by
 cases us with
 |nil=>cases e
 |cons a us=>exact h a us (Nat.succ.inj e)
end OP
namespace OP
open PySem PySem.Spec PyProof PyProof.Rows L2 OG
mutual
inductive RdV(K:Q1)(H:Hp):V->PyData->Prop
 |non:RdV K H .non .none
 |bl (b:Bool):RdV K H (.bl b) (.bool b)
 |int (i:Int):RdV K H (.int i) (.int i)
 |str (x:Str):RdV K H (.str x) (.str x)
 |lst {a:Addr} {xs:List V} {ds:List PyData}:SqL K H a xs->Ah K H xs ds->RdV K H (.ref a) (.list ds)
 |tup {a:Addr} {xs:List V} {ds:List PyData}:SqT K H a xs->Ah K H xs ds->RdV K H (.ref a) (.tuple ds)
inductive Ah(K:Q1)(H:Hp):List V->List PyData->Prop
 |nil:Ah K H [] []
 |cons {x:V} {xs:List V} {d:PyData} {ds:List PyData}:RdV K H x d->Ah K H xs ds->Ah K H (x::xs) (d::ds)
end
mutual
inductive Dt(S:Sto):U->PyData->Prop
 |non:Dt S .non .none
 |bl (b:Bool):Dt S (.bl b) (.bool b)
 |int (i:Int):Dt S (.int i) (.int i)
 |str (x:Str):Dt S (.str x) (.str x)
 |lst {l:Nat} {us:List U} {ds:List PyData}:S[l]?=some (.lst us)->DtL S us ds->Dt S (.ref l) (.list ds)
 |tup {us:List U} {ds:List PyData}:DtL S us ds->Dt S (.tup us) (.tuple ds)
inductive DtL(S:Sto):List U->List PyData->Prop
 |nil:DtL S [] []
 |cons {x:U} {xs:List U} {d:PyData} {ds:List PyData}:Dt S x d->DtL S xs ds->DtL S (x::xs) (d::ds)
end
section
variable{X:Cx}{K:Q1}{pins:List (Addr×Obj)}{σ:L2.St}{H:Hp}{s:Q8}
mutual
theorem RdV.reads(I:Inv X pins σ H s):∀{x:V} {d:PyData} {v:Q2},RdV X.K H x d->dD x v->∃as,Reads s.heap v d as
 |_,_,_,.non,r=>by cases r;exact⟨_,.none⟩
 |_,_,_,.bl b,r=>by cases r;exact⟨_,.bool b⟩
 |_,_,_,.int i,r=>by obtain⟨t,rfl⟩:=r;exact⟨_,.int i t⟩
 |_,_,_,.str i,r=>by obtain⟨t,rfl⟩:=r;exact⟨_,.str i t⟩
 |_,_,_,.lst (a:=a) h t,r=>by
  cases r;obtain⟨its,rv,pl,_⟩:=I.list h;obtain⟨as,k⟩:=Ah.reads I t rv;obtain⟨o,h1,h2,n,h3⟩:=pl.isList;exact⟨_,.list h1 h2 h3 (by simpa using k)⟩
 |_,_,_,.tup (a:=a) h t,r=>by
  cases r;obtain⟨its,rv,pl,_⟩:=I.tuple h;obtain⟨as,k⟩:=Ah.reads I t rv;obtain⟨o,h1,h2,n,h3⟩:=pl;exact⟨_,.tuple h1 h2 h3 (by simpa using k)⟩
theorem Ah.reads(I:Inv X pins σ H s):∀{xs:List V} {ds:List PyData} {vs:List Q2},Ah X.K H xs ds->cG xs vs->∃as,ReadsAll s.heap vs ds as
 |_,_,_,.nil,r=>by cases r;exact⟨_,.nil⟩
 |_,_,_,.cons h t,.cons r rs=>by
  obtain⟨as,a⟩:=RdV.reads I h r;obtain⟨bs,b⟩:=Ah.reads I t rs;exact⟨_,.cons a b⟩
end
mutual
theorem Dt.rd{m:List Addr}{S:Sto}(sr:Sr K m S H):∀{u:U} {d:PyData} {v:V},Dt S u d->Is K m H v u->RdV K H v d
 |_,_,_,.non,i=>by rw[i.of_non];exact .non
 |_,_,_,.bl b,i=>by rw[i.of_bl];exact .bl b
 |_,_,_,.int b,i=>by rw[i.of_int];exact .int b
 |_,_,_,.str b,i=>by rw[i.of_str];exact .str b
 |_,_,_,.lst h t,i=>by
  obtain⟨a,ha,rfl⟩:=i.of_ref;obtain⟨a',ha',xs,hx,il⟩:=sr.get h;rw[ha]at ha';cases ha';exact .lst (SqL.of hx) (DtL.rd sr t il)
 |_,_,_,.tup t,i=>by
  obtain⟨a,xs,rfl,sa,la⟩:=i.of_tup;exact .tup sa (DtL.rd sr t la)
theorem DtL.rd{m:List Addr}{S:Sto}(sr:Sr K m S H):∀{us:List U} {ds:List PyData} {vs:List V},DtL S us ds->IsL K m H vs us->Ah K H vs ds
 |_,_,_,.nil,i=>by rw[i.of_nil];exact .nil
 |_,_,_,.cons h t,i=>by
  obtain⟨x,r,rfl,i1,i2⟩:=i.of_cons;exact .cons (Dt.rd sr h i1) (DtL.rd sr t i2)
end
mutual
theorem Dt.uniq{S:Sto}:∀{u:U} {d e:PyData},Dt S u d->Dt S u e->d=e
 |_,_,_,.non,.non=>rfl
 |_,_,_,.bl _,.bl _=>rfl
 |_,_,_,.int _,.int _=>rfl
 |_,_,_,.str _,.str _=>rfl
 |_,_,_,.lst h t,.lst h' t'=>by
  rw[h]at h';cases h';rw[DtL.uniq t t']
 |_,_,_,.tup t,.tup t'=>by rw[DtL.uniq t t']
theorem DtL.uniq{S:Sto}:∀{us:List U} {ds es:List PyData},DtL S us ds->DtL S us es->ds=es
 |_,_,_,.nil,.nil=>rfl
 |_,_,_,.cons h t,.cons h' t'=>by rw[Dt.uniq h h',DtL.uniq t t']
end
def Cm(d:PyData):Prop:=d.canLay0=true/\d.depth<=60
def Mw(K:Q1)(neg:Bool):R2:=fun x y H Q=>(∃dx dy,RdV K H x dx/\RdV K H y dy/\Cm dx/\Cm dy/\Q (.bl (if neg then !dx.eqv dy else dx.eqv dy)) H)\/
 ∃a b xs ys,x=.ref a/\y=.ref b/\SqL K H a xs/\SqL K H b ys/\xs.length≠ys.length/\Q (.bl neg) H
theorem C0(hu:X.A.units+64<cLine):OpR X (compareOp .Eq) (Mw X.K false):=by
 rintro pins s σ H x y v u Q I rx ry (⟨dx,dy,hx,hy,lx,ly,q⟩|⟨a,b,xs,ys,rfl,rfl,ha,hb,ne,q⟩)
 ·obtain⟨as,hx⟩:=hx.reads I rx;obtain⟨bs,hy⟩:=hy.reads I ry;exact SeqAt.compareEq_reads hx hy lx.1 ly.1 (by have:=lx.2;omega) ⟨.bl _,H,I,rfl,q⟩
 ·cases rx;cases ry;obtain⟨i1,r1,p1,_⟩:=I.list ha;obtain⟨i2,r2,p2,_⟩:=I.list hb;have l1:=r1.length;have l2:=r2.length;exact SeqAt.RcAt.lists_lengths p1.isList p2.isList (by simp;omega) (by omega) X.prog X.w X.xe _ ⟨.bl false,H,I,rfl,q⟩
theorem JA(hu:X.A.units+64<cLine):OpR X (compareOp .NotEq) (Mw X.K true):=by
 rintro pins s σ H x y v u Q I rx ry (⟨dx,dy,hx,hy,lx,ly,q⟩|⟨a,b,xs,ys,rfl,rfl,ha,hb,ne,q⟩)
 ·obtain⟨as,hx⟩:=hx.reads I rx;obtain⟨bs,hy⟩:=hy.reads I ry;exact SeqAt.compareNe_reads hx hy lx.1 ly.1 (by have:=lx.2;omega) ⟨.bl _,H,I,rfl,q⟩
 ·cases rx;cases ry;obtain⟨i1,r1,p1,_⟩:=I.list ha;obtain⟨i2,r2,p2,_⟩:=I.list hb;have l1:=r1.length;have l2:=r2.length;exact SeqAt.RcNeAt.lists_lengths p1.isList p2.isList (by simp;omega) (by omega) X.prog X.w X.xe _ ⟨.bl true,H,I,rfl,q⟩
def Aq(x y:U)(S:Sto)(b:Bool):Prop:=(∃dx dy,Dt S x dx/\Dt S y dy/\Cm dx/\Cm dy/\b=dx.eqv dy)\/∃l l' us vs,x=.ref l/\y=.ref l'/\S[l]?=some (.lst us)/\S[l']?=some (.lst vs)/\us.length≠vs.length/\b=false
theorem DtL.length{S:Sto}:∀{us:List U} {ds:List PyData},DtL S us ds->us.length=ds.length
 |_,_,.nil=>rfl
 |_,_,.cons _ t=>by rw[Q5,Q5,DtL.length t]
theorem Aq.mix{l l':Nat}{us vs:List U}{S:Sto}{dx dy:PyData}(h1:Dt S (.ref l) dx)(h2:Dt S (.ref l') dy)(k1:S[l]?=some (.lst us))(k2:S[l']?=some (.lst vs))(ne:us.length≠vs.length):dx.eqv dy=false:=by
 cases h1 with
 |lst a1 t1=>
  cases h2 with
  |lst a2 t2=>
   rw[k1]at a1;cases a1;rw[k2]at a2;cases a2;show PyData.eqvAll _ _=false;exact SeqAt.eqvAll_other_length (by rw[<-t1.length,<-t2.length];exact ne)
theorem Aq.uniq{x y:U}{S:Sto}{b c:Bool}(h:Aq x y S b)(k:Aq x y S c):b=c:=by
 rcases h with⟨dx,dy,h1,h2,_,_,rfl⟩|⟨l,l',us,vs,rfl,rfl,h1,h2,ne,rfl⟩
 ·rcases k with⟨ex,ey,k1,k2,_,_,rfl⟩|⟨l,l',us,vs,rfl,rfl,k1,k2,ne,rfl⟩
  ·rw[h1.uniq k1,h2.uniq k2]
  ·exact Aq.mix h1 h2 k1 k2 ne
 ·rcases k with⟨ex,ey,k1,k2,_,_,rfl⟩|⟨_,_,_,_,_,_,_,_,_,rfl⟩
  ·exact(Aq.mix k1 k2 h1 h2 ne).symm
  ·rfl
open Classical in
def sR(neg:Bool):U->U->Sto->Option (U×Sto):=fun x y S=>if h:∃b,Aq x y S b then some (.bl (if neg then !h.choose else h.choose),S)else none
theorem nX{x y:U}{S:Sto}{b:Bool}(neg:Bool)(h:Aq x y S b):sR neg x y S=some (.bl (if neg then !b else b),S):=by
 unfold sR;rw[dif_pos ⟨b,h⟩];have e:(⟨b,h⟩:∃b,Aq x y S b).choose=b:=(Exists.choose_spec (⟨b,h⟩:∃b,Aq x y S b)).uniq h;rw[e]
theorem E9{neg:Bool}:OpP K (Mw K neg) (sR neg):=by
 intro m S H x y v w u S' Q sr ix iy hf post;unfold sR at hf;split at hf<;>try cases hf
 rename_i h;have hb:=h.choose_spec;generalize h.choose=b at hb post;rcases hb with⟨dx,dy,h1,h2,l1,l2,rfl⟩|⟨l,l',us,vs,rfl,rfl,h1,h2,ne,rfl⟩
 ·exact .inl ⟨dx,dy,h1.rd sr ix,h2.rd sr iy,l1,l2,post m _ H .refl sr .bl_⟩
 ·obtain⟨a,ha,rfl⟩:=ix.of_ref;obtain⟨a',ha',xs,hx,la⟩:=sr.get h1;rw[ha]at ha';cases ha';obtain⟨c,hc,rfl⟩:=iy.of_ref;obtain⟨c',hc',ys,hy,lc⟩:=sr.get h2;rw[hc]at hc';cases hc';refine .inr ⟨a,c,xs,ys,rfl,rfl,SqL.of hx,SqL.of hy,by rw[la.length,lc.length];exact ne,?_⟩;have e:(if neg=true then !false else false)=neg:=by cases neg<;>rfl
  have:=post m _ H .refl sr (Is.bl_ (b:=if neg=true then !false else false));rw[e]at this;exact this
def zM(us:List U)(lo hi:Option Int):List U:=(us.drop (HT.sIx us.length 0 lo)).take (HT.sIx us.length us.length hi-HT.sIx us.length 0 lo)
theorem Dm{m:List Addr}{xs:List V}{us:List U}{lo hi:Option Int}(i:IsL K m H xs us):IsL K m H (zL xs lo hi) (zM us lo hi):=by
 unfold zL zM;rw[i.length];exact(i.drop _).take _
def fSl(x:U)(lo hi:Option Int)(S:Sto):Option (U×Sto):=match x with
 |.tup us=>if HT.sIx us.length 0 lo=0/\HT.sIx us.length us.length hi=us.length then none else some (.tup (zM us lo hi),S)
 |.ref l=>match S[l]? with
  |some (.lst us)=>some (.ref S.length,S++[.lst (zM us lo hi)])
  |_=>none
 |_=>none
def kI:Option CE->Rho->Sto->Option (Option Int×Sto)
 |none,_,S=>some (none,S)
 |some c,ρ,S=>(c ρ S).bind fun p=>match p.1 with
  |.int i=>some (some i,p.2)
  |_=>none
def cSl(ca:CE)(cl ch:Option CE):CE:=fun ρ S=>(ca ρ S).bind fun p=>(kI cl ρ p.2).bind fun q=>(kI ch ρ q.2).bind fun r=>fSl p.1 q.1 r.1 r.2
def ND(K:Q1)(m:List Addr)(H:Hp)(Q:Option Int->Hp->Prop)(o:Option Int)(S':Sto):Prop:=∀m' H',Ext K m H m' H'->Sr K m' S' H'->Q o H'
def tO(K:Q1)(c:Option CE):TO:=fun σ H Q=>∃m ρ S o S',Sr K m S H/\Lr K m H ρ σ/\kI c ρ S=some (o,S')/\ND K m H Q o S'
abbrev QO(X:Cx)(e:Option QK)(c:Option CE):Prop:=WO X e (tO X.K c)
theorem fe:QO X none none:=⟨fun pins s σ H Q I hz=>my hz fun m ρ S o S' sr lr hc post=>uR.h pins s σ H Q I (by cases hc;exact post m H .refl sr)⟩
theorem cT{e:QK}{ca:CE}(h:QE X e ca):QO X (some e) (some ca):=⟨fun pins s σ H Q I hz=>my hz fun m ρ S o S' sr lr hc post=>(uQ h).h pins s σ H Q I (by
 obtain⟨⟨x,S1⟩,h1,h2⟩:=Q0.mp hc;refine⟨m,ρ,S,x,S1,sr,lr,h1,fun m1 v1 H1 e1 sr1 i1=>?_⟩;cases x<;>simp at h2;obtain⟨rfl,rfl⟩:=h2;exact⟨_,i1.of_int,post m1 H1 e1 sr1⟩)⟩
theorem sQ{e:QK}{lo hi:Option QK}{ca:CE}{cl ch:Option CE}{pos p2:Pos}(ha:QE X e ca)(hl:QO X lo cl)(hh:QO X hi ch):QE X (.Subscript e (.Slice lo hi none p2) pos) (cSl ca cl ch):=(qM (ye.or Ib) ha hl hh).imp fun σ H Q hz=>my hz fun m ρ S u S' sr lr hc post=>by
 obtain⟨⟨x,S1⟩,h1,ha⟩:=Q0.mp hc;obtain⟨⟨l,S2⟩,h2,hb⟩:=Q0.mp ha;obtain⟨⟨k,S3⟩,h3,h⟩:=Q0.mp hb;clear ha hb hc;refine⟨m,ρ,S,x,S1,sr,lr,h1,fun m1 v1 H1 e1 sr1 i1=>⟨m1,ρ,S1,l,S2,sr1,lr.mono e1,h2,fun m2 H2 e2 sr2=>⟨m2,ρ,S2,k,S3,sr2,lr.mono (e1.trans e2),h3,fun m3 H3 e3 sr3=>?_⟩⟩⟩;have i3:=i1.mono (e2.trans e3);have e03:=(e1.trans e2).trans e3;cases x with
 |tup us=>
  simp only[fSl]at h;split at h<;>try cases h
  rename_i hw;obtain⟨a,xs,rfl,sa,la⟩:=i3.of_tup;exact .inr ⟨a,xs,rfl,sa,by rw[la.length];exact hw,fun p hp=>p8 sr3 (Dm la) (post.mono e03) hp⟩
 |ref r=>
  simp only[fSl]at h;split at h<;>try cases h
  rename_i us hS;obtain⟨a,ha,rfl⟩:=i3.of_ref;obtain⟨a',ha',xs,hx,la⟩:=sr3.get hS;rw[ha]at ha';cases ha';exact .inl ⟨a,xs,rfl,SqL.of hx,fun p hp=>kr sr3 (Dm la) (post.mono e03) hp⟩
 |_=>simp[fSl]at h
end
section
variable{X:Cx}{K:Q1}
def ym(K:Q1):R2:=fun x y H Q=>∃a k xs,x=.ref a/\y=.int k/\SqT K H a xs/\xs≠[]/\1<=k/\xs.length*k.toNat<=1000/\∀q H',sJ H H'->SqT K H' q (Q9 k.toNat xs).flatten->Q (.ref q) H'
theorem Fd:OpR X (binaryOp .Mult) (ym X.K):=by
 intro pins s σ H x y v u Q I rx ry h;obtain⟨a,k,xs,rfl,rfl,ha,hne,hk,hz,q⟩:=h;cases rx;obtain⟨t,rfl⟩:=ry;obtain⟨its,r1,p1,hzz⟩:=I.tuple ha;have hlen:=r1.length;obtain⟨⟨cls,dd,data,sl⟩,ho,hc,n,hd⟩:=id p1;simp only at hc hd;subst hc hd;have hne':its≠[]:=fun z=>hne (r1.nil_iff.mp z);refine wpAny_binaryOp_repeat_ref (T:="tuple") (U:="int") (by decide) ⟨_,ho,rfl⟩ (fun s'=>typeIs_int s' k t) iK F.fills_int_mul F.slot_int_rmul md F.slot_int_index.lookup
  (call_meets F.slot_int_rmul (typeIs_int s k t) F.entry_int_rmul (F.args_int_rmul_2 _ _) (jH k t a its.toArray n dd sl) ⟨ho,rfl,⟨_,ho,rfl⟩,?_⟩)
 by_cases k1:k=1
 ·subst k1;refine call_meets F.slot_tuple_mul ⟨_,ho,rfl⟩ F.entry_tuple_mul (F.args_tuple_mul_2 _ _) (tH a its.toArray n dd sl t) ⟨ho,⟨.ref a,H,I,rfl,q a H (.refl _) ?_⟩⟩;simpa using ha
 ·have hfold:List.foldl (fun x1 x2=>x1++x2) #[] (Q9 k.toNat its.toArray)=(Q9 k.toNat its).flatten.toArray:=by
   have:=nT its k.toNat [];rw[Qi]at this;exact this
  have hfl:(Q9 k.toNat its).flatten.length<=1000:=by rw[uk,<-hlen,Nat.mul_comm];exact hz
  have hlp:0<its.length:=List.length_pos_iff.mpr hne';have hk2:k.toNat<=1000:=Qk (Nat.le_mul_of_pos_left _ (by rw[hlen];exact hlp)) hz;have hsz:(its.toArray.size:Int)*k<=1000:=by
   rw[QH,<-hlen];have e:k=((k.toNat:Nat):Int):=by omega
   rw[e,<-Int.natCast_mul];omega
  refine call_meets F.slot_tuple_mul ⟨_,ho,rfl⟩ F.entry_tuple_mul (F.args_tuple_mul_2 _ _) (tF a its.toArray n dd sl k t ?_ ?_ ?_ ?_ ?_ ?_) ⟨ho,?_⟩
  ·simp;omega
  ·simp[hne',k1]
  ·simp[hne'];omega
  ·omega
  ·unfold Builtin.Tuple.tupleTooMany;have:¬(its.toArray.size:Int)*k>(QB:Int):=by
    have:(1000:Nat)<=QB:=rb (QU _);omega
   simpa using this
  ·rw[hfold,QH];exact rb hfl
  ·rw[hfold];refine⟨.ref s.heap.objs.size,_,I.laid (t':=s.toks) (o:=.tup (Q9 k.toNat xs).flatten) (fun b ob q=>QX _ q) (QU _) ?_,rfl,q _ _ (cS (I.hok.fresh (QU _)) _) (SqT.of aU)⟩;exact⟨rb (by rw[uk,Nat.mul_comm];exact hz),_,r1.rep k.toNat,An.new _ _⟩
def BU:U->U->Sto->Option (U×Sto)
 |.int i,.int j,S=>if wZ i j then some (.int (i*j),S)else none
 |.tup us,.int k,S=>if us≠[]/\1<=k/\us.length*k.toNat<=1000 then some (.tup (Q9 k.toNat us).flatten,S)else none
 |.ref l,.int k,S=>match S[l]? with
  |some (.lst us)=>if 0<=k/\k<=100000/\us.length*k.toNat<=LIM then some (.ref S.length,S++[.lst (Q9 k.toNat us).flatten])else none
  |_=>none
 |_,_,_=>none
theorem JE:OpR X (binaryOp .Mult) (fun x y H Q=>rI wZ (fun i j=>.int (i*j)) x y H Q\/(ym X.K x y H Q\/Iy x y H Q)):=ky.or (Fd.or Jy)
instance {us:List U}:Decidable (us≠[]):=match us with
 |[]=>.isFalse fun h=>h rfl
 |_::_=>.isTrue fun h=>by cases h
theorem Ju:OpP K (fun x y H Q=>rI wZ (fun i j=>.int (i*j)) x y H Q\/(ym K x y H Q\/Iy x y H Q)) BU:=by
 intro m S H x y v w u S' Q sr ix iy hf post;cases x<;>cases y<;>simp only[BU]at hf<;>try cases hf
 ·split at hf<;>try cases hf
  rename_i hc;exact .inl ⟨_,_,ix.of_int,iy.of_int,hc,post m _ H .refl sr .int_⟩
 ·rename_i us k;split at hf<;>try cases hf
  rename_i hc;obtain⟨a,xs,rfl,sa,la⟩:=ix.of_tup;refine .inr (.inl ⟨a,k,xs,rfl,iy.of_int,sa,fun z=>hc.1 ?_,hc.2.1,by rw[la.length];exact hc.2.2,fun q H' s sq=>?_⟩)
  ·subst z;have:=la.length;exact List.length_eq_zero_iff.mp this.symm
  ·exact post m _ H' (.of (cV s)) (sr.same s) (.tup_ sq ((la.rep k.toNat).mono (.of (cV s))))
 ·rename_i l k;split at hf<;>try cases hf
  rename_i us hS;split at hf<;>try cases hf
  rename_i hc;obtain⟨a,ha,rfl⟩:=ix.of_ref;obtain⟨a',ha',xs,hx,la⟩:=sr.get hS;rw[ha]at ha';cases ha';exact .inr (.inr ⟨a,k,xs,rfl,iy.of_int,hx,by omega,by omega,lim (by rw[la.length];exact hc.2.2),fun p hp=>kr sr (la.rep k.toNat) post hp⟩)
end
section
variable{X:Cx}{K:Q1}
def w9(ca:CE):CE:=fun ρ S=>(ca ρ S).bind fun p=>match p.1 with
 |.int i=>some (.int (-i),p.2)
 |_=>none
theorem HI:UnR X (unaryOp .USub) (fun x H Q=>∃i,x=.int i/\Q (.int (-i)) H):=by
 rintro pins s σ H x v Q I rx ⟨i,rfl,q⟩;obtain⟨t,rfl⟩:=rx;exact PyProof.Rows.neg_int ⟨.int (-i),H,I.tok _,⟨_,rfl⟩,q⟩
theorem EC{a:QK}{ca:CE}{pos:Pos}(ha:QE X a ca):QE X (.UnaryOp .USub a pos) (w9 ca):=(Hx HI ha).imp fun σ H Q hz=>my hz fun m ρ S u S' sr lr hc post=>by
 obtain⟨⟨x,S1⟩,h1,h2⟩:=Q0.mp hc;refine⟨m,ρ,S,x,S1,sr,lr,h1,fun m1 v1 H1 e1 sr1 i1=>?_⟩;cases x<;>simp at h2;obtain⟨rfl,rfl⟩:=h2;exact⟨_,i1.of_int,post m1 _ H1 e1 sr1 .int_⟩
def cL:U->List U->Sto->Option (U×Sto)
 |.ref l,[.ref b],S=>match S[l]?,S[b]? with
  |some (.lst us),some (.lst vs)=>if us.length+vs.length<=LIM then some (.non,S.set l (.lst (us++vs)))else none
  |_,_=>none
 |_,_,_=>none
theorem Bz:MtP K yn cL:=by
 intro m S H x v us vs u S' Q sr ix i hf post;match x,us,hf with
 |.ref l,[.ref b],hf=>
  simp only[cL]at hf;split at hf<;>try cases hf
  rename_i xs0 ys0 hS hB;split at hf<;>try cases hf
  rename_i hl;obtain⟨a,ha,rfl⟩:=ix.of_ref;obtain⟨a',ha',xs,hx,la⟩:=sr.get hS;rw[ha]at ha';cases ha';obtain⟨y,rfl,iy⟩:=i.one;obtain⟨c,hc,rfl⟩:=iy.of_ref;obtain⟨c',hc',ys,hy,lb⟩:=sr.get hB;rw[hc]at hc';cases hc';have eu:Ext K m H m (upd H a (.lst (xs++ys))):=.of (sr.keep ha _);exact⟨a,c,xs,ys,rfl,rfl,hx,hy,lim (by rw[la.length,lb.length];exact hl),post m _ _ eu (sr.put ha ⟨_,aU,(la.append lb).mono eu⟩) .non_⟩
def BS:U->List U->Sto->Option (U×Sto)
 |.ref l,[],S=>match S[l]? with
  |some (.lst us)=>(us[us.length-1]?).bind fun u=>some (u,S.set l (.lst us.dropLast))
  |_=>none
 |_,_,_=>none
theorem IsL.dropLast{m:List Addr}{H:Hp}{xs:List V}{us:List U}(h:IsL K m H xs us):IsL K m H xs.dropLast us.dropLast:=by
 rw[List.dropLast_eq_take,List.dropLast_eq_take,h.length];exact h.take _
theorem MI:MtP K NZ BS:=by
 intro m S H x v us vs u S' Q sr ix i hf post;match x,us,hf with
 |.ref l,[],hf=>
  simp only[BS]at hf;split at hf<;>try cases hf
  rename_i ws hS;obtain⟨w,hw,h⟩:=Q0.mp hf;cases h;obtain⟨a,ha,rfl⟩:=ix.of_ref;obtain⟨a',ha',xs,hx,la⟩:=sr.get hS;rw[ha]at ha';cases ha';obtain⟨y,hy,iy⟩:=la.getD hw;have eu:Ext K m H m (upd H a (.lst xs.dropLast)):=.of (sr.keep ha _);exact⟨a,xs,y,rfl,i.of_nil,hx,by rw[la.length];exact hy,post m _ _ eu (sr.put ha ⟨_,aU,la.dropLast.mono eu⟩) (iy.mono eu)⟩
variable{e:QK}{es:List QK}{co:CE}{cr:CA}{o:QK}{apos cpos:Pos}
theorem pZ (ho : QE X o co) (ha : QA X (e :: es) cr) (hbase : attributeBase o "extend" X.env (eval o X.env) = eval o X.env := by rfl) (hfew : ((Qa cpos (Q7 (e :: es) X.env)).all (fun x => !x.1) && (backToKw cpos (keywordEach [] X.env)).all (fun x => x.1.isSome)
   && decide ((e::es).length+([]:List Keyword).length+(if ([]:List Keyword).isEmpty then 0 else 1)<30))=true:=by rfl) (hline:(apos.endLine == cpos.line)=true:=by rfl) (hs:Q7 (e::es) X.env=(false,eval e X.env)::Q7 es X.env:=by rfl) (hplain:(Qa cpos (Q7 es X.env)).any (·.1)=false:=by rfl) :
  QE X (.Call (.Attribute o "extend" apos) (e::es) [] cpos) (cBM cL co cr):=(qQ PySem.F.plainAttrs_list PySem.F.slot_list_extend PySem.F.type_list_extend yL ho ha.h hbase hfew hline hs hplain).imp (z8 Bz)
theorem IG(ho:QE X o co)(hbase:attributeBase o "pop" X.env (eval o X.env)=eval o X.env:=by rfl)(hline:(apos.endLine == cpos.line)=true:=by rfl) :
  QE X (.Call (.Attribute o "pop" apos) [] [] cpos) (cBM BS co aB):=(D1 PySem.F.plainAttrs_list PySem.F.slot_list_pop PySem.F.type_list_pop JM ho hbase hline).imp fun σ H Q h=>by
 obtain⟨m,ρ,S,u,S',sr,lr,hc,k⟩:=z8 (cr:=aB) MI σ H Q h;refine⟨m,ρ,S,u,S',sr,lr,hc,fun m1 v1 H1 e1 sr1 i1=>?_⟩;obtain⟨ty,m2,ρ2,S2,us,S3,sr2,lr2,h4,h5⟩:=k m1 v1 H1 e1 sr1 i1;cases h4;exact⟨ty,h5 m2 [] H1 .refl sr2 .nil_⟩
end
end OP
namespace OG
open PySem PySem.Spec PyProof.Rows L2
section
variable{X:Cx}{tg:QK}
theorem AD{x z:Str}{pos:Pos}(hg:Gl X x)(hm:∃t,X.mg x=some (.str z t))(hd:(x == ("__debug__":Str))=false:=by decide):WE X (.Name x pos) (tC (.str z)):=by
 obtain⟨t,hm⟩:=hm;exact⟨tV hg hm ⟨t,rfl⟩ hd⟩
theorem jr{x:Str}{a:Addr}{pos:Pos}(hg:Gl X x)(hm:X.mg x=some (.ref a))(hd:(x == ("__debug__":Str))=false:=by decide):WE X (.Name x pos) (tC (.ref a)):=
 ⟨tV hg hm rfl hd⟩
def IB:List V->Hp->VK->Prop:=fun xs H Q=>∃z,xs=[.str z]/\z.length<=1000000/\Q (.int z.length) H
theorem C5:f7 X (.builtin "len") IB:=by
 rintro pins s σ H xs us Q I r ⟨z,rfl,hz,q⟩;obtain⟨u,rfl,t,rfl⟩:=mK r;exact P.len_str (by omega) ⟨.int z.length,H,I.tok _,⟨_,rfl⟩,q⟩
def ID:List V->Hp->VK->Prop:=fun xs H Q=>∃(z:Str) (n:Int),xs=[.str z]/\z.length<=640/\PySem.intText? z=some n/\Q (.int n) H
theorem JF:f7 X (.type "int") ID:=by
 rintro pins s σ H xs us Q I r ⟨z,n,rfl,hz,hn,q⟩;obtain⟨u,rfl,t,rfl⟩:=mK r;exact PySem.W.KIN.call_text hn hz ⟨.int n,H,I.tok _,⟨_,rfl⟩,q⟩
def N1:R2:=fun x y H Q=>∃a b:Str,x=.str a/\y=.str b/\Q (.bl (Txt.contains b a)) H
theorem JB:OpR X (compareOp .In) N1:=by
 rintro pins s σ H x y v u Q I rx ry ⟨a,b,rfl,rfl,q⟩;obtain⟨t,rfl⟩:=rx;obtain⟨t',rfl⟩:=ry;exact P.in_str ⟨.bl _,H,I,rfl,q⟩
def Its(z:Str):It:=⟨fun i _=>i<z.cps.size,fun i H x H'=>H'=H/\∃c,z.cps[i]?=some c/\x=.str ⟨#[c]⟩,fun i _=>z.cps.size<=i⟩
theorem AK{P:QL}{w:Qu}{K:Q1}{tg:QK}(it:Addr)(z:Str)(t:Tok):Gn P w K tg (Its z) [it] it (fun i h=>i<=z.cps.size/\h.IsStrIter it "str_ascii_iterator" z t i) where
 mem:=by simp
 obj:=fun i h st b hb=>by
  have e:b=it:=by simpa using hb
  subst e;obtain⟨_,o,e,c,d⟩:=st;exact⟨o,e,fun v y=>by rw[d]at y;cases y⟩
 keep:=fun i h h' st k=>by
  obtain⟨l,o,e,r⟩:=st;exact⟨l,o,k it (by simp) o e,r⟩
 item:=by
  intro X hP hw hK hc i pins s σ H E I hf st hg;subst hP hw hK;obtain⟨f0,f1,f2,f3,f4,f5⟩:=hf it (by simp);have W:=Walks.strAscii (prog:=X.prog) (w:=X.w) (I.ok.hd hc) it z t;refine W.item i s _ _ hg st.2 fun v h' tk hv st' kk=>?_;obtain⟨c,u,hcz,rfl⟩:=hv;have I1:Inv X pins σ H { s with heap:=h',toks:=tk }:=I.turned (fun b o hb e=>kk b o (by simpa using hb) e) f0 f1 f3 f4 f5;obtain⟨o,e,cc,d⟩:=id st';exact⟨_,rfl,BP (s:={ s with heap:=h',toks:=tk }) e cc d (by decide) ⟨.str ⟨#[c]⟩,H,I1,⟨u,rfl⟩,⟨rfl,c,hcz,rfl⟩,⟨hg,st'⟩,fun b hb=>(hf b hb).1⟩⟩
 done:=by
  intro X hP hw hK hc i pins s σ H E I hf st hg;subst hP hw hK;obtain⟨f0,f1,f2,f3,f4,f5⟩:=hf it (by simp);have W:=Walks.strAscii (prog:=X.prog) (w:=X.w) (I.ok.hd hc) it z t;have hi:i=z.cps.size:=Nat.le_antisymm st.1 hg;subst hi;exact W.done s _ _ st.2 fun h' tk kk=>⟨rfl,I.turned (fun b o hb e=>kk b o (by simpa using hb) e) f0 f1 f3 f4 f5⟩
 self:=fun _ _ _ _ _ st h=>wpAny_pyIter_striter_ascii st.2 h
def Nj(tl:TE):TI:=fun σ H R=>tl σ H fun x H1=>∃z,x=.str z/\z.cps.all (· < 128)=true/\R (Its z) H1
theorem DU{l:QK}{tl:TE}(hl:WE X l tl):WI X tg l (Nj tl):=⟨by
 intro pins s σ H R I h;refine thn (hl.h pins s σ H _ I h) fun v s1 hz=>?_;obtain⟨x,H1,I1,r1,q1⟩:=hz;obtain⟨z,e,ha,q⟩:=q1;subst e;obtain⟨t,rfl⟩:=r1;refine wpAny_pyIter_ascii ha ?_;refine⟨s1.heap.objs.size,[s1.heap.objs.size],_,_,H1,rfl,I1.kept (t':=s1.toks) fun b o e=>QX _ e,AK _ z t,⟨ZF _,_,Qy _ rfl,rfl,rfl⟩,fun b hb=>?_,q⟩;have e:b=s1.heap.objs.size:=by simpa using hb
 subst e;exact I1.fpOk (QU _) (I1.hok.fresh (QU _))⟩
theorem x4:∀{ys:List Str} {its:List Q2},cG (ys.map V.str) its->StrsAre its ys
 |[],its,h=>by cases h;exact .nil
 |y::ys,its,h=>by
  cases h with
  |cons a b=>
   obtain⟨t,rfl⟩:=a;exact .cons y t (x4 b)
theorem qT:∀l:List (Str×Tok),cG ((l.map (·.1)).map V.str) (strValues l)
 |[]=>.nil
 |p::l=>.cons ⟨p.2,rfl⟩ (qT l)
def IC(K:Q1):V->List V->Hp->VK->Prop:=fun x xs H Q=>∃(a:Str) (p:Addr) (ys:List Str),x=.str a/\xs=[.ref p]/\SqL K H p (ys.map V.str)/\(ys.map (·.length)).sum+ys.length*a.length<=1000000/\Q (.str (Str.join a ys)) H
theorem FC:MtR X "str.join" (IC X.K):=by
 rintro pins s σ H x xs v us Q I rx rs ⟨a,p,ys,rfl,rfl,hq,hl,q⟩;obtain⟨t,rfl⟩:=rx;obtain⟨u,rfl,ru⟩:=mK rs;cases ru;obtain⟨its,rv,pl,hz⟩:=I.list hq;refine join_list pl.isList (ys:=ys) (x4 (by simpa using rv)) (by omega) fun t' k=>?_;have e:Txt.join a ys=Str.join a ys:=StrLaws.glued_eq_join a ys;rw[e];exact⟨.str _,H,I.tok _,⟨_,rfl⟩,q⟩
def CP:V->List V->Hp->VK->Prop:=fun x xs H Q=>∃a y:Str,x=.str a/\xs=[.str y]/\(y.length == 0)=false/\a.length<=100000/\∀l,H l=none->Q (.ref l) (upd H l (.lst ((Txt.split a y).map V.str)))
theorem BF:MtR X "str.split" CP:=by
 rintro pins s σ H x xs v us Q I rx rs ⟨a,y,rfl,rfl,hy,hl,q⟩;obtain⟨t,rfl⟩:=rx;obtain⟨u,rfl,t',rfl⟩:=mK rs;have occ:=StrLaws.occ_length_le a y 0 a.length (a.length+1);have few:(Txt.split a y).length<=100002:=by
  unfold Txt.split;split
  ·simp
  ·split
   ·simp
   ·rw[length_partsBetween];omega
 have line:100002<=QB:=by unfold QB;decide
 have key:∀(l:List (Str×Tok)) (k:Nat),l.map (·.1)=Txt.split a y->EP X pins σ Q (.ref s.heap.objs.size) { s with heap:=s.heap.push { cls:=.type "list",data:=.seq (strValues l).toArray },toks:=k }:=fun l k e=>
  ⟨.ref _,_,I.laid (o:=.lst ((Txt.split a y).map V.str)) (t':=k) (fun b o z=>QX _ z) (QU _) ⟨by rw[QV];omega,strValues l,0,by rw[<-e];exact qT l,Qy _ rfl⟩,rfl,q _ (I.hok.fresh (QU _))⟩
 cases c1:(decide (a.length<y.length)||decide (Builtin.Str.strKind a<Builtin.Str.strKind y))with
 |true=>exact call_meets F.slot_str_split (typeIs_str _ _ _) F.entry_str_split (F.args_str_split_2 _ _) (meets_str_split_cannot_occur a y t t' c1) (key [(a,t)] s.toks (by unfold Txt.split;rw[if_pos c1];rfl))
 |false=>
  have n1:¬(decide (a.length<y.length)||decide (Builtin.Str.strKind a<Builtin.Str.strKind y))=true:=by rw[c1];exact QR
  cases c2:(Builtin.Str.occurrences a y 0 a.length (a.length+1)).isEmpty with
  |true=>exact call_meets F.slot_str_split (typeIs_str _ _ _) F.entry_str_split (F.args_str_split_2 _ _) (meets_str_split_not_found a y t t' c1 hy c2) (key [(a,t)] s.toks (by unfold Txt.split;rw[if_neg n1,if_pos c2];rfl))
  |false=>
   have few2:(Builtin.Str.partsBetween a (Builtin.Str.occurrences a y 0 a.length (a.length+1)) y.length).length<=QB:=by rw[length_partsBetween];omega
   have hsp:Txt.split a y=Builtin.Str.partsBetween a (Builtin.Str.occurrences a y 0 a.length (a.length+1)) y.length:=by unfold Txt.split;rw[if_neg n1,if_neg (by rw[c2];exact QR)]
   refine call_meets F.slot_str_split (typeIs_str _ _ _) F.entry_str_split (F.args_str_split_2 _ _) (meets_str_split_sep a y t t' c1 hy c2 (by omega) few2) ?_;have k:=key (numbered s.toks (Builtin.Str.partsBetween a (Builtin.Str.occurrences a y 0 a.length (a.length+1)) y.length)) (s.toks+(Builtin.Str.partsBetween a (Builtin.Str.occurrences a y 0 a.length (a.length+1)) y.length).length) ((numbered_texts _ _).trans hsp.symm);rw[<-strsFrom_eq]at k;exact k
end
end OG
namespace OP
open PySem PySem.Spec PyProof.Rows L2 OG
section
variable{X:Cx}{K:Q1}{a b o e:QK}{es:List QK}{ca cb co:CE}{cr:CA}{pos apos cpos:Pos}
def sh:Fn
 |[.str z],S=>if z.length<=1000000 then some (.int z.length,S)else none
 |_,_=>none
theorem CW:oR K IB sh:=by
 intro m S H us vs u S' Q sr i hf post;match us,hf with
 |[.str z],hf=>
  obtain⟨v,rfl,iv⟩:=i.one;simp only[sh]at hf;split at hf<;>try cases hf
  rename_i hz;exact⟨z,by rw[iv.of_str],hz,post m _ H .refl sr .int_⟩
def uw:Fn
 |[.str z],S=>if z.length<=640 then(PySem.intText? z).bind fun n=>some (.int n,S)else none
 |_,_=>none
theorem Jx:oR K ID uw:=by
 intro m S H us vs u S' Q sr i hf post;match us,hf with
 |[.str z],hf=>
  obtain⟨v,rfl,iv⟩:=i.one;simp only[uw]at hf;split at hf<;>try cases hf
  rename_i hz;obtain⟨n,hn,h2⟩:=Q0.mp hf;cases h2;exact⟨z,n,by rw[iv.of_str],hz,hn,post m _ H .refl sr .int_⟩
def zu:U->U->Sto->Option (U×Sto)
 |.str x,.str y,S=>some (.bl (Txt.contains y x),S)
 |_,_,_=>none
theorem ML:OpP K N1 zu:=by
 intro m S H x y v w u S' Q sr ix iy hf post;cases x<;>cases y<;>simp only[zu]at hf<;>try cases hf
 exact⟨_,_,ix.of_str,iy.of_str,post m _ H .refl sr .bl_⟩
def Df:U->U->Sto->Option (U×Sto)
 |.str z,.int i,S=>if 0<=i/\i<z.length/\z.length<=1000000 then(z.cps[i.toNat]?).bind fun c=>some (.str ⟨#[c]⟩,S)else none
 |_,_,_=>none
theorem MK:OpP K (fun x y H Q=>∃z i c,x=.str z/\y=.int i/\0<=i/\i<2^63/\i<z.length/\z.cps[i.toNat]?=some c/\Q (.str ⟨#[c]⟩) H) Df:=by
 intro m S H x y v w u S' Q sr ix iy hf post;cases x<;>cases y<;>simp only[Df]at hf<;>try cases hf
 split at hf<;>try cases hf
 rename_i z i hc;obtain⟨c,h1,h2⟩:=Q0.mp hf;cases h2;exact⟨z,i,c,ix.of_str,iy.of_int,hc.1,by omega,hc.2.1,h1,post m _ H .refl sr .str_⟩
def My(ha:QE X a ca)(hb:QE X b cb)(hs:qz b):QE X (.Subscript a b pos) (cOp Df ca cb):=(qP ha hb hs).imp (rq MK)
theorem Mz(ha:QE X a ca)(hb:QE X b cb)(hm:behindInMarks .In b=false):QE X (.Compare a [.In] [b] pos) (cOp zu ca cb):=(pH JB ha hb hm).imp (rq ML)
theorem J2{m:List Addr}{H:Hp}{z:Str}:Gf K (Its z) m H ((signs z).map U.str) (fun _=>True):=by
 intro m2 S2 H2 i e2 sr2 _;refine⟨fun u hu=>?_,fun hi=>by show z.cps.size<=i;rw[QV,signs_length]at hi;exact hi⟩;rw[Z0]at hu;cases hc:z.cps[i]? with
 |none=>
  have:(signs z)[i]?=none:=ZT (by rw[signs_length];exact Array.getElem?_eq_none_iff.mp hc);rw[this]at hu;cases hu
 |some c=>
  rw[signs_get hc]at hu;cases hu;refine⟨(ZY.mp hc).1,fun y H3 hy=>?_⟩;obtain⟨rfl,c',hc',rfl⟩:=hy;rw[hc]at hc';cases hc';exact⟨.refl,sr2,.str_⟩
def Gi(ca:CE):CI:=fun ρ S=>(ca ρ S).bind fun p=>match p.1 with
 |.str z=>if z.cps.all (· < 128)=true then some ((signs z).map U.str,fun _=>True,p.2)else none
 |_=>none
theorem IE{tg:QK}(h:QE X e ca):QI X tg e (Gi ca):=(DU h).imp fun σ H R hz=>ux hz fun m ρ S us ok S' sr lr hc post=>by
 obtain⟨⟨u,S1⟩,h1,h2⟩:=Q0.mp hc;cases u with
 |str z=>
  simp only at h2;split at h2<;>try cases h2
  rename_i hz;exact⟨m,ρ,S,.str z,_,sr,lr,h1,fun m1 v1 H1 e1 sr1 i1=>⟨z,i1.of_str,hz,post m1 H1 _ e1 sr1 J2⟩⟩
 |_=>simp at h2
def cBS(f:U->List U->Sto->Option (U×Sto))(co:CE)(cr:CA):CE:=fun ρ S=>(co ρ S).bind fun p=>match p.1 with
 |.str _=>(cr ρ p.2).bind fun q=>f p.1 q.1 q.2
 |_=>none
theorem Dq{r:V->List V->Hp->VK->Prop}{f:U->List U->Sto->Option (U×Sto)}(hp:MtP K r f):∀σ H Q,tE K (cBS f co cr) σ H Q->tBM K "str" r (tE K co) (tA K cr) σ H Q:=by
 rintro σ H Q ⟨m,ρ,S,u,S',sr,lr,hc,post⟩;obtain⟨⟨x,S1⟩,h1,h2⟩:=Q0.mp hc;refine⟨m,ρ,S,x,S1,sr,lr,h1,fun m1 v1 H1 e1 sr1 i1=>?_⟩;cases x with
 |str z=>
  obtain⟨⟨us,S2⟩,h3,h4⟩:=Q0.mp h2;have ev:=i1.of_str;subst ev;exact⟨rfl,m1,ρ,S1,us,S2,sr1,lr.mono e1,h3,fun m2 vs H2 e2 sr2 i2=>hp m2 S2 H2 _ _ us vs u S' Q sr2 (i1.mono e2) i2 h4 (post.mono (e1.trans e2))⟩
 |_=>simp at h2
def wk:List U->Option (List Str)
 |[]=>some []
 |.str y::us=>(wk us).bind fun ys=>some (y::ys)
 |_::_=>none
theorem mO:∀ys:List Str,wk (ys.map U.str)=some ys
 |[]=>rfl
 |y::ys=>by rw[QF,wk,mO ys];rfl
theorem vA{m:List Addr}{H:Hp}:∀{us:List U} {xs:List V} {ys:List Str},IsL K m H xs us->wk us=some ys->xs=ys.map V.str
 |[],xs,ys,h,e=>by
  rw[h.of_nil];cases e;rfl
 |.str y::us,xs,ys,h,e=>by
  obtain⟨x,r,rfl,ix,il⟩:=h.of_cons;rw[wk]at e;obtain⟨zs,h1,h2⟩:=Q0.mp e;cases h2;rw[ix.of_str,vA il h1];rfl
 |.non::us,xs,ys,h,e=>by cases e
 |.bl _::us,xs,ys,h,e=>by cases e
 |.int _::us,xs,ys,h,e=>by cases e
 |.tup _::us,xs,ys,h,e=>by cases e
 |.ref _::us,xs,ys,h,e=>by cases e
 |.kl _::us,xs,ys,h,e=>by cases e
def kG:U->List U->Sto->Option (U×Sto)
 |.str x,[.ref l],S=>match S[l]? with
  |some (.lst us)=>(wk us).bind fun ys=>if (ys.map (·.length)).sum+ys.length*x.length<=1000000 then some (.str (Str.join x ys),S)else none
  |_=>none
 |_,_,_=>none
theorem Jv:MtP K (IC K) kG:=by
 intro m S H x v us vs u S' Q sr ix il hf post;match x,us,hf with
 |.str x,[.ref l],hf=>
  simp only[kG]at hf;split at hf<;>try cases hf
  rename_i ws hS;obtain⟨ys,h1,h2⟩:=Q0.mp hf;have hl:(ys.map (·.length)).sum+ys.length*x.length<=1000000:=Classical.byContradiction fun z=>by rw[if_neg z]at h2;cases h2
  rw[if_pos hl]at h2;cases h2;obtain⟨y,rfl,iy⟩:=il.one;obtain⟨p,hp,rfl⟩:=iy.of_ref;obtain⟨p',hp',xs,hx,lx⟩:=sr.get hS;rw[hp]at hp';cases hp';have ex:=vA lx h1;subst ex;exact⟨x,p,ys,ix.of_str,rfl,SqL.of hx,hl,post m _ H .refl sr .str_⟩
theorem pq{m:List Addr}{H:Hp}:∀ys:List Str,IsL K m H (ys.map V.str) (ys.map U.str)
 |[]=>.nil_
 |y::ys=>.cons_ .str_ (pq ys)
def fN:U->List U->Sto->Option (U×Sto)
 |.str x,[.str y],S=>if (y.length == 0)=false/\x.length<=100000 then some (.ref S.length,S++[.lst ((Txt.split x y).map U.str)])else none
 |_,_,_=>none
theorem E8:MtP K CP fN:=by
 intro m S H x v us vs u S' Q sr ix il hf post;match x,us,hf with
 |.str x,[.str y],hf=>
  simp only[fN]at hf;split at hf<;>try cases hf
  rename_i hl;obtain⟨z,rfl,iz⟩:=il.one;exact⟨x,y,ix.of_str,by rw[iz.of_str],hl.1,hl.2,fun l hn=>kr sr (pq _) post hn⟩
theorem vj (ho : QE X o co) (ha : QA X (e :: es) cr) (hbase : attributeBase o "join" X.env (eval o X.env) = eval o X.env := by rfl) (hfew : ((Qa cpos (Q7 (e :: es) X.env)).all (fun x => !x.1) && (backToKw cpos (keywordEach [] X.env)).all (fun x => x.1.isSome)
   && decide ((e::es).length+([]:List Keyword).length+(if ([]:List Keyword).isEmpty then 0 else 1)<30))=true:=by rfl) (hline:(apos.endLine == cpos.line)=true:=by rfl) (hs:Q7 (e::es) X.env=(false,eval e X.env)::Q7 es X.env:=by rfl) (hplain:(Qa cpos (Q7 es X.env)).any (·.1)=false:=by rfl) :
  QE X (.Call (.Attribute o "join" apos) (e::es) [] cpos) (cBS kG co cr):=(qQ PySem.F.plainAttrs_str PySem.F.slot_str_join PySem.F.type_str_join FC ho ha.h hbase hfew hline hs hplain).imp (Dq Jv)
theorem tP (ho : QE X o co) (ha : QA X (e :: es) cr) (hbase : attributeBase o "split" X.env (eval o X.env) = eval o X.env := by rfl) (hfew : ((Qa cpos (Q7 (e :: es) X.env)).all (fun x => !x.1) && (backToKw cpos (keywordEach [] X.env)).all (fun x => x.1.isSome)
   && decide ((e::es).length+([]:List Keyword).length+(if ([]:List Keyword).isEmpty then 0 else 1)<30))=true:=by rfl) (hline:(apos.endLine == cpos.line)=true:=by rfl) (hs:Q7 (e::es) X.env=(false,eval e X.env)::Q7 es X.env:=by rfl) (hplain:(Qa cpos (Q7 es X.env)).any (·.1)=false:=by rfl) :
  QE X (.Call (.Attribute o "split" apos) (e::es) [] cpos) (cBS fN co cr):=(qQ PySem.F.plainAttrs_str PySem.F.slot_str_split PySem.F.type_str_split BF ho ha.h hbase hfew hline hs hplain).imp (Dq E8)
def KA(K:Q1)(mg:Str->Option Q2)(x:Str)(is:List Int):Prop:=∃(a:Addr) (o:Obj) (its:Array Q2) (n:Nat),mg x=some (.ref a)/\K.lookup a=some o/\(o.cls=.type "tuple"/\o.dict=none)/\o.data=.seq its n/\its.size<=QB/\cG (is.map V.int) its.toList
theorem px{m:List Addr}{H:Hp}:∀is:List Int,IsL K m H (is.map V.int) (is.map U.int)
 |[]=>.nil_
 |i::is=>.cons_ .int_ (px is)
theorem nH{x:Str}{is:List Int}{us:List U}(hg:Gl X x)(hm:KA X.K X.mg x is)(hd:(x == ("__debug__":Str))=false:=by decide)(hu:is.map U.int=us:=by rfl):QE X (.Name x pos) (cC (.tup us)):=by
 subst hu;obtain⟨p,o,its,n,h1,h2,h3,h4,h5,h6⟩:=hm;exact q_c (jr hg h1 hd) fun m H=>.tup_ (.inr ⟨o,its,n,h2,h3,h4,h5,h6⟩) (px is)
end
end OP
namespace OG
open PySem PySem.Spec PyProof.Rows L2
open PySem.AutoSeq1 (wpAny_loadPart')
theorem tJ(l:Addr)(items:Array Q2)(n:Nat)(dd:Option Addr)(sl:Array (Option Q2))(t:Tok)(hc1:(items.isEmpty||((0:Int) == 1))=false) :
  Meets (Builtin.«tuple.__mul__» ⟨[.ref l,.int 0 t],[]⟩) (fun _ R s=>s.heap.get? l=some { cls:=.type "tuple",dict:=dd,data:=.seq items n,slots:=sl }/\
   R (.ok (.ret (Value.ref s.heap.objs.size))) { s with heap:=s.heap.push { cls:=Value.type "tuple",data:=Data.seq #[] } }):=
 .of_wp fun prog w A R s h=>by
  obtain⟨hp,g,d,tk,os⟩:=s;obtain⟨hl,h⟩:=h;have f1:=AutoSeq1.idx_int
  wp_walk using wpAny_loadPart' hl
  try (refine PySem.W.KFB.if_not hc1 ?_;wp_walk using wpAny_loadPart' hl)
  exact⟨_,rfl,h⟩
end OG
namespace OP
open PySem PySem.Spec PyProof PyProof.Rows L2 OG PySem.W
section
variable{X:Cx}{K:Q1}{a b o:QK}
def Ey(K:Q1):R2:=fun x y H Q=>∃a xs,x=.ref a/\y=.int 0/\SqT K H a xs/\xs≠[]/\∀q H',sJ H H'->SqT K H' q []->Q (.ref q) H'
theorem Fe:OpR X (binaryOp .Mult) (Ey X.K):=by
 intro pins s σ H x y v u Q I rx ry h;obtain⟨a,xs,rfl,rfl,ha,hne,q⟩:=h;cases rx;obtain⟨t,rfl⟩:=ry;obtain⟨its,r1,p1,hzz⟩:=I.tuple ha;obtain⟨⟨cls,dd,data,sl⟩,ho,hc,n,hd⟩:=id p1;simp only at hc hd;subst hc hd;have hne':its≠[]:=fun z=>hne (r1.nil_iff.mp z);refine wpAny_binaryOp_repeat_ref (T:="tuple") (U:="int") (by decide) ⟨_,ho,rfl⟩ (fun s'=>typeIs_int s' 0 t) iK F.fills_int_mul F.slot_int_rmul md F.slot_int_index.lookup
  (call_meets F.slot_int_rmul (typeIs_int s 0 t) F.entry_int_rmul (F.args_int_rmul_2 _ _) (jH 0 t a its.toArray n dd sl) ⟨ho,rfl,⟨_,ho,rfl⟩,?_⟩)
 refine call_meets F.slot_tuple_mul ⟨_,ho,rfl⟩ F.entry_tuple_mul (F.args_tuple_mul_2 _ _) (tJ a its.toArray n dd sl t (by simp[hne'])) ⟨ho,?_⟩;refine⟨.ref s.heap.objs.size,_,I.laid (t':=s.toks) (o:=.tup []) (fun b ob q=>QX _ q) (QU _) ?_,rfl,q _ _ (cS (I.hok.fresh (QU _)) _) (SqT.of aU)⟩;exact⟨ZF _,[],.nil,An.new _ _⟩
def iM:U->U->Sto->Option (U×Sto)
 |.tup us,.int k,S=>if k=0 then(if us≠[]then some (.tup [],S)else none)else BU (.tup us) (.int k) S
 |_,_,_=>none
theorem nL:OpR X (binaryOp .Mult) (fun x y H Q=>Ey X.K x y H Q\/(rI wZ (fun i j=>.int (i*j)) x y H Q\/(ym X.K x y H Q\/Iy x y H Q))):=Fe.or JE
theorem nJ:OpP K (fun x y H Q=>Ey K x y H Q\/(rI wZ (fun i j=>.int (i*j)) x y H Q\/(ym K x y H Q\/Iy x y H Q))) iM:=by
 intro m S H x y v w u S' Q sr ix iy hf post;cases x<;>cases y<;>simp only[iM]at hf<;>try cases hf
 rename_i us k;split at hf
 ·rename_i hk;subst hk;split at hf<;>try cases hf
  rename_i hne;obtain⟨a,xs,rfl,sa,la⟩:=ix.of_tup;refine .inl ⟨a,xs,rfl,iy.of_int,sa,fun z=>hne ?_,fun q H' s sq=>post m _ H' (.of (cV s)) (sr.same s) (.tup_ sq .nil_)⟩;have:=la.length;rw[z]at this;exact List.length_eq_zero_iff.mp this.symm
 ·exact .inr (Ju m S H _ _ v w u S' Q sr ix iy hf post)
end
end OP
namespace OP
open PySem PySem.Spec PyProof.Rows L2 OG
section
variable{P:QL}{w:Qu}{K:Q1}{h base:Heap}{mg:Str->Option Q2}{x q:Str}{st:Qg}{f C:Addr}{oc:Q2}{od an:Option Addr}{osl:Array (Option Q2)}{kV doc pm cdv ct:Q2}{ps N:List Str}{k:Nat}{c:CS}{cl:Cl}
def KC(K:Q1)(x q:Str)(st:Qg)(f:Addr):Prop:=∃fd,Fun K x q st f fd
abbrev fAt(x q:Str)(st:Qg)(oc:Q2)(od an:Option Addr)(osl:Array (Option Q2))(kV doc pm cdv ct:Q2):Obj:=⟨oc,od,.func (PySem.W.fnOf x q (j2 st) (d9 st) (aG st) .none kV doc pm an cdv ct),osl⟩
def KG(K:Q1)(x:Str)(st:Qg):Prop:=∃f,PySem.W.nsIn K mainGlobals x=some (some (.ref f))/\KC K x x st f
theorem Pe(a:PySem.W.nsIn K mainGlobals x=some (some (.ref f)))(l:K.lookup f=some (fAt x x st oc od an osl kV doc pm cdv ct))(c:PySem.W.codeIn K cdv x=true)(k:PySem.W.keepIn K (.ref f)=true):KG K x st:=⟨f,a,_,zm l c k⟩
def KD(K:Q1):List (Str×Qg)->Prop
 |[]=>True
 |(x,st)::r=>KG K x st/\KD K r
def Ky(K:Q1)(C:Addr)(x q:Str)(st:Qg):Prop:=∃f,PySem.W.findIn K (.ref C) x=some (some (.ref f))/\PySem.W.isFn K (.ref f)=true/\KC K x q st f
theorem Pa(a:PySem.W.findIn K (.ref C) x=some (some (.ref f)))(i:PySem.W.isFn K (.ref f)=true)(l:K.lookup f=some (fAt x q st oc od an osl kV doc pm cdv ct))(c:PySem.W.codeIn K cdv q=true)(k:PySem.W.keepIn K (.ref f)=true):Ky K C x q st:=⟨f,a,i,_,zm l c k⟩
def Kx(K:Q1)(C:Addr):List (Str×Str×Qg)->Prop
 |[]=>True
 |(x,q,st)::r=>Ky K C x q st/\Kx K C r
def Kw(K:Q1)(C:Addr):List Str->Prop
 |[]=>True
 |x::r=>PySem.W.findIn K (.ref C) x=some none/\Kw K C r
def Ld(K:Q1):List Str->Prop
 |[]=>True
 |x::r=>PySem.W.nsIn K mainGlobals x=some none/\Ld K r
structure KI(K:Q1)(x:Str)(C:Addr)(ns:List Str)(ms:List (Str×Str×Qg)):Prop where
 a:PySem.W.nsIn K mainGlobals x=some (some (.ref C))
 pg:PySem.W.plainGet K C Str.empty=true
 hd:PySem.W.hasDictIn K C=true
 po:PySem.W.plainOver K C=true
 sa:PySem.W.findIn K (.ref C) "__setattr__"=some (some (.builtin "object.__setattr__"))
 mc:PySem.W.makesIn K C=true
 kc:PySem.W.keepIn K (.ref C)=true
 nf:Kw K C ns
 ms:Kx K C ms
theorem Kw.nas:∀{ns:List Str},Kw K C ns->∀f∈ns,PySem.W.findIn K (.ref C) f=some none
 |[],_,f,h=>by cases h
 |x::r,h,f,hf=>by
  rcases Qz.mp hf with rfl|z
  ·exact h.1
  ·exact Kw.nas h.2 f z
theorem KI.tc{ns:List Str}{ms:List (Str×Str×Qg)}(h:KI K x C ns ms):TC K (⟨C,ns⟩:Cl) ns:=⟨⟨h.pg,h.hd,h.po,h.sa⟩,rfl,fun f hf=>h.nf.nas f hf⟩
abbrev Bd(x q:Str)(st:Qg)(ps:List Str):Prop:=∀us:List Q2,us.length=ps.length->∀(kV doc pm:Q2) (an:Option Addr) (cdv ct:Q2),bindArgs (PySem.W.fnOf x q (j2 st) (d9 st) (aG st) .none kV doc pm an cdv ct) ⟨us,[]⟩=pure (ps.zip us)
theorem KG.df(d:KG K x st)(X:K.In h)(G:h.Ns mainGlobals mg)(b:Bd x x st ps:=by first|exact Gk fun _ _ _ _ _ _=>rfl|(repeat (first|exact Gk fun _ _ _ _ _ _=>rfl|refine NC fun _=>?_))):Def K mg x st ps:=by
 obtain⟨f,a,fd,F⟩:=d;exact⟨f,fd,F,F.binds fun kV doc pm an cdv ct us hl=>b us hl kV doc pm an cdv ct,PySem.W.mg_of X G a⟩
def MtD(K:Q1)(C:Addr)(x q:Str)(st:Qg)(ps:List Str):Prop:=∃fa fd,Fun K x q st fa fd/\fT K fd ps []/\Ck K C x fa
theorem Ky.mt(d:Ky K C x q st)(b:Bd x q st ps:=by first|exact Gk fun _ _ _ _ _ _=>rfl|(repeat (first|exact Gk fun _ _ _ _ _ _=>rfl|refine NC fun _=>?_))):MtD K C x q st ps:=by
 obtain⟨f,a,i,fd,F⟩:=d;exact⟨f,fd,F,F.binds fun kV doc pm an cdv ct us hl=>b us hl kV doc pm an cdv ct,a,i,F.kp⟩
theorem MtD.pure(d:MtD K cl.C x q st ps)(S:a7 N ps (aG st))
  (hb:∀(f:Addr) (cdv:Q2) (A:Qe) (outer:List Env) (s:Q8) (H:Hp) (E:XK),fZ k (A.deeper (envOfC q (aG st) s.heap.objs.size f cdv))->WSs (uE CX0 P w K mg base N q (aG st) f cdv A outer s H E).nox (d9 st) (tS K c)) :
  ef P w K mg base cl x (k+1) ps (fnU N.length ps.length c):=by
 obtain⟨fa,fd,F,b,m⟩:=d;exact⟨fa,fd,m,F.pure S (hb fa),b⟩
theorem MtD.no(d:MtD K cl.C x q st ps):ef P w K mg base cl x k ps (fun _ _=>none):=by
 obtain⟨fa,fd,F,b,m⟩:=d;exact ef.no F b m
def MkD(K:Q1)(mg:Str->Option Q2)(C:Addr)(x q:Str)(st:Qg)(ps:List Str):Prop:=∃fa fd,Fun K "__init__" q st fa fd/\fT K fd ps []/\Mk K C fa/\mg x=some (.ref C)
theorem KI.mkd{ns:List Str}{ms:List (Str×Str×Qg)}(h0:KI K x C ns ms)(d:Ky K C "__init__" q st)(X:K.In h)(G:h.Ns mainGlobals mg)(b:Bd "__init__" q st ps:=by first|exact Gk fun _ _ _ _ _ _=>rfl|(repeat (first|exact Gk fun _ _ _ _ _ _=>rfl|refine NC fun _=>?_))):MkD K mg C x q st ps:=by
 obtain⟨f,a,i,fd,F⟩:=d;exact⟨f,fd,F,F.binds fun kV doc pm an cdv ct us hl=>b us hl kV doc pm an cdv ct,⟨h0.mc,a,i,h0.kc⟩,PySem.W.mg_of X G h0.a⟩
theorem MkD.pure{NS:List Str}(d:MkD K mg cl.C x q st ps)(T:TC K cl NS)(S:a7 N ps (aG st))
  (hb:∀(f:Addr) (cdv:Q2) (A:Qe) (outer:List Env) (s:Q8) (H:Hp) (E:XK),fZ k (A.deeper (envOfC q (aG st) s.heap.objs.size f cdv))->WSs (uE CX0 P w K mg base N q (aG st) f cdv A outer s H E).nox (d9 st) (tS K c))
  (nd:NS.Nodup:=by decide +kernel) (few:NS.length<1000:=by decide):CMk P w K mg base cl x (k+1) ps (fnU N.length ps.length c):=by
 obtain⟨fa,fd,F,b,m,g⟩:=d;exact⟨⟨fa,fd,m,F.pure S (hb fa),b,g⟩,by rw[T.ns];exact nd,by rw[T.ns];exact few⟩
def Oq:List Str:=["len","isinstance","int","bool","str","tuple","list","range","min","sum","all","zip","sorted","dict","enumerate","any","max","set"]
theorem Ld.blt(z:Ld K Oq)(X:K.In h)(G:h.Ns mainGlobals mg):Blt mg:=by
 obtain⟨a,b,c,d,e,f,g,i,j,k,l,m,n,o,p,q,r,s,-⟩:=z;constructor<;>(refine PySem.W.mg_none_of X G ?_;assumption)
theorem JO{sp:Sp}{fa:Addr}(d:KG K "law" st)(X:K.In h)(G:h.Ns mainGlobals mg)(hfa:mg "law"=some (.ref fa))(ok:∀fd,Fun K "law" "law" st fa fd->∀base:Heap,j9 P w K mg base CX0 k fa fd ["script"] sp)
  (b:∀(kV doc pm:Q2) (an:Option Addr) (cdv ct v:Q2),bindArgs (PySem.W.fnOf "law" "law" (j2 st) (d9 st) (aG st) .none kV doc pm an cdv ct) ⟨[v],[]⟩=pure [(("script":Str),v)]:=by intros;rfl) :
  ∃fd:Z8,(∀(s:Q8) (v:Q2),BindsTo s fd ⟨[v],[]⟩ [("script",v)])/\∀base:Heap,K.In base->base.Ns mainGlobals mg->j9 P w K mg base CX0 k fa fd ["script"] sp:=by
 obtain⟨f,a,fd,F⟩:=d;cases hfa.symm.trans (PySem.W.mg_of X G a);refine⟨fd,fun s v=>?_,fun base _ _=>ok fd F base⟩;obtain⟨oc,od,kV,doc,pm,an,cdv,ct,osl,rfl,lk,hcd⟩:=F.ex;exact .of_eq (b kV doc pm an cdv ct v)
theorem K6{i:Int}{t:Tok}(X:K.In h)(G:h.Ns mainGlobals mg)(a:PySem.W.nsIn K mainGlobals x=some (some (.int i t))):∃t,mg x=some (.int i t):=⟨_,PySem.W.mg_of X G a⟩
theorem Pg{i:Str}{t:Tok}(X:K.In h)(G:h.Ns mainGlobals mg)(a:PySem.W.nsIn K mainGlobals x=some (some (.str i t))):∃t,mg x=some (.str i t):=⟨_,PySem.W.mg_of X G a⟩
end
end OP
namespace OP
open PySem PySem.Spec PyProof PyProof.Rows L2 OG
def TrA(h B:Heap)(e dx:Addr)(C fl:Q2):Prop:=∃oe vs T oT ts,h.get? e=some oe/\(oe.cls=C/\oe.dict=some dx)/\oe.data=.fields vs/\vs[1]?=some (.ref T)/\B.get? T=none/\T≠e/\h.get? T=some oT/\oT.data=.fields ts/\ts[3]?=some fl
structure Fly(B:Heap)(l:List Env)(e dx:Addr)(C:Q2)(h:Heap):Prop where
 st:B.StaysIn h
 nw:B.get? e=none
 ff:h.FunFrames B l
 tr:TrA h B e dx C .none
theorem nU{o:Obj}{vs:Array Q2}{f:Array Q2->Array Q2}(h:o.data=.fields vs):(Obj.mapFields f o).isFreed=false/\(Obj.mapFields f o).data=.fields (f vs)/\(Obj.mapFields f o).cls=o.cls/\(Obj.mapFields f o).dict=o.dict:=by
 obtain⟨c,d,da,sl⟩:=o;dsimp only at h;subst h;exact⟨rfl,rfl,rfl,rfl⟩
section
variable{M:Model}{A:Qe}{E:Q2->Q8->Prop}{s:Q8}{B:Heap}{env:Env}{outer:List Env}{L e dx:Addr}{oe:Obj}{vs:Array Q2}{C:Q2}{Q:Unit->Q8->Prop}
theorem rC{head:Q2}{hadNext:Bool}(hfr:A.frames=some (env::outer))(hff:s.heap.FunFrames B (env::outer))(hL:env.frame=some L)(he:s.heap.get? e=some oe)(hst:B.StaysIn s.heap)(hn:B.get? e=none)(hc:oe.cls=C/\oe.dict=some dx)(hd:oe.data=.fields vs)(hv:1<vs.size)
  (q:∀h',B.StaysIn h'->h'.FunFrames B (env::outer)->TrA h' B e dx C (rawInt L)->s.heap.UpToSlots h'->Q () { s with heap:=h' }) :
  wpAny M A (do
   let a <-PySem.frameOf env
   let pl <-entryPlaceOf L hadNext
   let b <-EntryCells.newEntry head a Value.none (rawInt L) Value.none pl
   setField (.ref e) 1 b) Q E s:=by
 have nfr:∀{b:Addr} {o:Obj},s.heap.get? b=some o->(∃ws:Array Q2,o.data=.fields ws)->b∉(env::outer).filterMap (·.frame):=fun{b o} g ⟨ws,hw⟩ z=>by
  obtain⟨_,o',g',nd⟩:=hff.mem z;rw[g]at g';cases g';exact nd ws hw
 refine Q4 (wpAny_frameOf_fun hfr hff hL fun h1 so=>Q4 (wpAny_entryPlaceOf fun pl hpl=>?_));obtain⟨sz,s1,s2⟩:=so;have e1:h1.get? e=some oe:=by rw[s1 e (nfr he ⟨vs,hd⟩)];exact he
 unfold EntryCells.newEntry;have psz:(if pl.isEmpty=true then Q9 6 Value.none else pl).length<=6:=by
  rcases hpl with rfl|⟨_,_,_,_,_,_,_,rfl⟩
  ·decide
  ·exact QU 6
 refine Q4 (wpAny_newObj_type ?_ (show(List.toArray _).size<=QB+2 by
  rw[QH,QJ];have:([head,Value.ref L,.none,rawInt L,.none]:List Q2).length=5:=rfl;unfold QB;omega))
 obtain⟨tb,htb⟩:∃tb:Obj,tb={ cls:=.type "traceback",data:=.fields ([head,.ref L,.none,rawInt L,.none]++if pl.isEmpty=true then Q9 6 Value.none else pl).toArray }:=⟨_,rfl⟩;rw[<-htb];have e2:(h1.push tb).get? e=some oe:=QX _ e1;refine wpAny_setField e2 hd hv ?_;obtain⟨f1,f2,f3,f4⟩:=nU (o:=oe) (vs:=vs) (f:=fun x=>x.setIfInBounds 1 (.ref h1.objs.size)) hd;have gT:(h1.push tb).get? h1.objs.size=some tb:=Qy _ (by rw[htb];rfl);have lt:e<h1.objs.size:=QD e1;have ne:∀{b:Addr} {o:Obj},h1.get? b=some o->b≠e->((h1.push tb).update e (Obj.mapFields fun x=>x.setIfInBounds 1 (.ref h1.objs.size))).get? b=some o:=fun{b o} g n=>by
  rw[Ql _ _ (Ne.symm n)];exact QX _ g
 have up:s.heap.UpToSlots ((h1.push tb).update e (Obj.mapFields fun x=>x.setIfInBounds 1 (.ref h1.objs.size))):=fun b o g nd=>by
  obtain⟨sl,g1⟩:=s2 b o g;exact⟨sl,ne g1 fun z=>by rw[z,he]at g;cases g;exact nd vs hd⟩
 refine q _ (fun b o g=>?_) (.of_keeps (fun b o g nd=>by obtain⟨sl,g1⟩:=up b o g nd;exact⟨_,g1,rfl⟩) hff) ?_ up
 ·have g0:=hst b o g;have nb:b∉(env::outer).filterMap (·.frame):=fun z=>by
   have:=(hff.mem z).1;rw[g]at this;cases this
  exact ne (by rw[s1 b nb];exact g0) fun z=>by rw[z,hn]at g;cases g
 ·refine⟨_,_,h1.objs.size,tb,_,ZR _ e2 f1,⟨f3.trans hc.1,f4.trans hc.2⟩,f2,?_,?_,Ne.symm (Qw lt),?_,by rw[htb],rfl⟩
  ·rw[Array.getElem?_setIfInBounds,if_pos rfl,if_pos hv]
  ·rw[sz];exact hst.fresh
  ·rw[Ql _ _ (Qw lt)];exact gT
theorem wB(hfr:A.frames=some (env::outer))(hff:s.heap.FunFrames B (env::outer))(hL:env.frame=some L)(he:s.heap.get? e=some oe)(hst:B.StaysIn s.heap)(hn:B.get? e=none)(hc:oe.cls=C/\oe.dict=some dx)(hd:oe.data=.fields vs)(h1:vs[1]?=some .none)
  (q:∀h',B.StaysIn h'->h'.FunFrames B (env::outer)->TrA h' B e dx C (rawInt L)->s.heap.UpToSlots h'->Q () { s with heap:=h' }):wpAny M A (noteFrame (.ref e) env) Q E s:=by
 unfold noteFrame;rw[hL];refine Q4 (ZZ he hd h1 ?_);exact rC hfr hff hL he hst hn hc hd (ZY.mp h1).1 q
theorem rB(hfr:A.frames=some (env::outer))(hff:s.heap.FunFrames B (env::outer))(hL:env.frame=some L)(hst:B.StaysIn s.heap)(hn:B.get? e=none)(tr:TrA s.heap B e dx C .none)
  (q:∀h',B.StaysIn h'->h'.FunFrames B (env::outer)->TrA h' B e dx C (rawInt L)->s.heap.UpToSlots h'->Q () { s with heap:=h' }):wpAny M A (noteFrame (.ref e) env) Q E s:=by
 obtain⟨oe,vs,T,oT,ts,g1,g2,g3,g4,g5,g6,g7,g8,g9⟩:=tr;unfold noteFrame;rw[hL];refine Q4 (ZZ g1 g3 g4 ?_);show wpAny M A (if ((Value.ref T !=Value.none)=true)then _ else _) _ _ s;rw[if_pos (by rfl)];refine Q4 (ZZ g7 g8 g9 ?_);rw[if_neg (by intro z;exact absurd z (by simp[rawInt]))];refine Q4 (wpAny_setField g7 g8 (ZY.mp g9).1 ?_);have he:(s.heap.update T (Obj.mapFields fun x=>x.setIfInBounds 3 .none)).get? e=some oe:=by rw[Ql _ _ g6];exact g1
 have up:s.heap.UpToSlots (s.heap.update T (Obj.mapFields fun x=>x.setIfInBounds 3 .none)):=fun b o g nd=>by
  refine⟨o.slots,?_⟩;rw[Ql _ _ fun z=>by rw[<-z,g7]at g;cases g;exact nd ts g8];exact g
 refine rC (s:={ s with heap:=s.heap.update T (Obj.mapFields fun x=>x.setIfInBounds 3 .none) }) hfr (.of_keeps (fun b o g nd=>by obtain⟨sl,g1⟩:=up b o g nd;exact⟨_,g1,rfl⟩) hff) hL he (fun b o g=>?_) hn g2 g3 (ZY.mp g4).1 fun h' a1 a2 a3 a4=>q h' a1 a2 a3 fun b o g nd=>?_
 ·rw[Ql _ _ fun z=>by rw[<-z,g5]at g;cases g];exact hst b o g
 ·obtain⟨sl,g1⟩:=up b o g nd;obtain⟨sl2,g2⟩:=a4 b _ g1 nd;exact⟨sl2,g2⟩
theorem ig{l:List Env}{fl:Q2}(hst:B.StaysIn s.heap)(hff:s.heap.FunFrames B l)(hn:B.get? e=none)(tr:TrA s.heap B e dx C fl)(q:∀h',Fly B l e dx C h'->s.heap.UpToSlots h'->Q () { s with heap:=h' }):wpAny M A (setFlight (.ref e) none) Q E s:=by
 obtain⟨oe,vs,T,oT,ts,g1,g2,g3,g4,g5,g6,g7,g8,g9⟩:=tr;unfold setFlight;refine Q4 (ZZ g1 g3 g4 ?_);rw[if_pos (by rfl)];have h3:=(ZY.mp g9).1;refine wpAny_setField g7 g8 h3 ?_;have up:s.heap.UpToSlots (s.heap.update T (Obj.mapFields fun x=>x.setIfInBounds 3 .none)):=fun b o g nd=>by
  refine⟨o.slots,?_⟩;rw[Ql _ _ fun z=>by rw[<-z,g7]at g;cases g;exact nd ts g8];exact g
 obtain⟨f1,f2,f3,f4⟩:=nU (o:=oT) (vs:=ts) (f:=fun x=>x.setIfInBounds 3 .none) g8;refine q _ ⟨fun b o g=>?_,hn,.of_keeps (fun b o g nd=>by obtain⟨sl,g1⟩:=up b o g nd;exact⟨_,g1,rfl⟩) hff,⟨oe,vs,T,_,_,?_,g2,g3,g4,g5,g6,ZR _ g7 f1,f2,?_⟩⟩ up
 ·rw[Ql _ _ fun z=>by rw[<-z,g5]at g;cases g];exact hst b o g
 ·rw[Ql _ _ g6];exact g1
 ·rw[Array.getElem?_setIfInBounds,if_pos rfl,if_pos h3]
theorem um(hfr:A.frames=some (env::outer))(hff:s.heap.FunFrames B (env::outer))(hL:env.frame=some L)(he:s.heap.get? e=some oe)(hst:B.StaysIn s.heap)(hn:B.get? e=none)(hc:oe.cls=C/\oe.dict=some dx)(hd:oe.data=.fields vs)(h1:vs[1]?=some .none)
  (q:∀h',Fly B (env::outer) e dx C h'->s.heap.UpToSlots h'->Q () { s with heap:=h' }):wpAny M A (leaving env (.ref e)) Q E s:=by
 unfold leaving;refine Q4 (wB hfr hff hL he hst hn hc hd h1 fun h' a1 a2 a3 a4=>ig (s:={ s with heap:=h' }) a1 a2 hn a3 fun h2 b1 b2=>q h2 b1 fun b o g nd=>?_);obtain⟨sl,g1⟩:=a4 b o g nd;obtain⟨sl2,g2⟩:=b2 b _ g1 nd;exact⟨sl2,g2⟩
theorem wI(hfr:A.frames=some (env::outer))(hL:env.frame=some L)(fl:Fly B (env::outer) e dx C s.heap)(q:∀h',Fly B (env::outer) e dx C h'->s.heap.UpToSlots h'->Q () { s with heap:=h' }):wpAny M A (leaving env (.ref e)) Q E s:=by
 unfold leaving;refine Q4 (rB hfr fl.ff hL fl.st fl.nw fl.tr fun h' a1 a2 a3 a4=>ig (s:={ s with heap:=h' }) a1 a2 fl.nw a3 fun h2 b1 b2=>q h2 b1 fun b o g nd=>?_);obtain⟨sl,g1⟩:=a4 b o g nd;obtain⟨sl2,g2⟩:=b2 b _ g1 nd;exact⟨sl2,g2⟩
end
def CX1(CT:Addr)(P:QL)(w:Qu):CXT:=fun outer H s E e s'=>∃(ea dx:Addr) (H':Hp) (B:Heap),e=.ref ea/\s'.os=s.os/\AllBare s'.gens/\Un (frs outer) [] H H' s.heap s'.heap/\HOk P w H' B/\
 (∀b o,s.heap.get? b=some o->b∉frs outer->∃o',B.get? b=some o')/\(∀b o,s.heap.get? b=some o->H b=none->b∉frs outer->B.get? b=some o)/\Fly B outer ea dx (.ref CT) s'.heap/\dx≠ea/\E e (some dx) H'
def vD{h B:Heap}{env:Env}{l:List Env}(x:h.FunFrames B (env::l)):h.FunFrames B l:=x.2.2
theorem vE{env:Env}{l:List Env}{L:Addr}(h:env.frame=some L):frs (env::l)=L::frs l:=by
 show(env::l).filterMap (·.frame)=_;rw[List.filterMap_cons_some h];rfl
section
variable{CT:Addr}{P:QL}{w:Qu}{K:Q1}{mg:Str->Option Q2}{base:Heap}{N:List Str}{q:Str}{sc:Scope}{f:Addr}{cd:Q2}{A:Qe}{outer:List Env}{s0:Q8}{H0:Hp}{E:XK}
abbrev cx1(CT:Addr)(P:QL)(w:Qu)(K:Q1)(mg:Str->Option Q2)(base:Heap)(N:List Str)(q:Str)(sc:Scope)(f:Addr)(cd:Q2)(A:Qe)(outer:List Env)(s0:Q8)(H0:Hp)(E:XK):Cx:=uE (CX1 CT P w) P w K mg base N q sc f cd A outer s0 H0 E
theorem sk:(envOfC q sc s0.heap.objs.size f cd).frame=some s0.heap.objs.size\/∀pins σ H s,¬Inv (cx1 CT P w K mg base N q sc f cd A outer s0 H0 E) pins σ H s:=by
 by_cases h:(envOfC q sc s0.heap.objs.size f cd).frame=some s0.heap.objs.size
 ·exact .inl h
 ·refine .inr fun pins σ H s I=>?_;rcases I.ok.stk with e|⟨_,e⟩
  ·have:=congrArg List.length (show(envOfC q sc s0.heap.objs.size f cd::outer)=outer from e);simp at this
  ·exact h e
theorem k9:gK (CX1 CT P w) (cx1 CT P w K mg base N q sc f cd A outer s0 H0 E) E:=by
 intro pins σ H s e s' I hq;obtain⟨ea,dx,H',B,rfl,os,bare,un,hok,old,keep,fl,hde,hE⟩:=hq;have f3:=fl.ff;rcases sk (CT:=CT) (P:=P) (w:=w) (K:=K) (mg:=mg) (base:=base) (N:=N) (q:=q) (sc:=sc) (f:=f) (cd:=cd) (A:=A) (outer:=outer) (s0:=s0) (H0:=H0) (E:=E)with hL|no;case inr=>exact(no _ _ _ _ I).elim
 have hst:frs (envOfC q sc s0.heap.objs.size f cd::outer)=s0.heap.objs.size::frs outer:=vE hL;have nf:∀{b:Addr} {o:Obj},s0.heap.get? b=some o->b∉frs outer->b∉frs (envOfC q sc s0.heap.objs.size f cd::outer):=fun{b o} g n z=>by
  rw[hst]at z;rcases Qz.mp z with z|z
  ·have:=QD g;rw[z]at this;exact ZE _ this
  ·exact n z
 have hex:∀b:Addr,b∉([]:List Addr):=fun b z=>by cases z
 have ub:Un (frs outer) [] H0 H s0.heap s.heap:=I.base;refine wI (B:=B) (outer:=outer) (L:=s0.heap.objs.size) I.ok.frames hL fl fun h' fl' g4=>?_;have g1:=fl'.st;have g2:=fl'.ff;have old':∀b o,s0.heap.get? b=some o->b∉frs outer->∃o',B.get? b=some o':=fun b o g n=>by
  obtain⟨o1,h1⟩:=ub.there b o g (hex b);exact old b o1 h1 (nf g n)
 have keep':∀b o,s0.heap.get? b=some o->H0 b=none->b∉frs outer->B.get? b=some o:=fun b o g z n=>keep b o (ub.keep b o g z n (hex b)) (ub.free b o g z (hex b)) (nf g n);refine⟨ea,dx,H',B,rfl,os.trans I.os,bare,?_,hok,old',keep',⟨g1,fl'.nw,vD g2,fl'.tr⟩,hde,hE⟩;refine⟨fun b o g z n _=>g1 _ _ (keep' b o g z n),fun b o g z n _=>?_,fun b o g z _=>?_,fun b o g _=>?_,fun b xs z=>un.tups b xs (ub.tups b xs z),fun b ob u z=>un.frzs b ob u (ub.frzs b ob u z),fun b ps z=>?_⟩
 ·obtain⟨sl,e1⟩:=ub.slot b o g z n (hex b);have hb:b∈frs (envOfC q sc s0.heap.objs.size f cd::outer):=by rw[hst];exact QZ _ n
  obtain⟨sl2,e2⟩:=un.slot b _ e1 (ub.free b o g z (hex b)) hb (hex b);obtain⟨_,o3,e3,nd⟩:=f3.mem hb;rw[e2]at e3;cases e3;obtain⟨sl3,e4⟩:=g4 b _ e2 nd;exact⟨sl3,e4⟩
 ·obtain⟨o1,h1⟩:=ub.there b o g (hex b);exact un.free b o1 h1 (ub.free b o g z (hex b)) (hex b)
 ·by_cases n:b∈frs outer
  ·have hb:b∈frs (envOfC q sc s0.heap.objs.size f cd::outer):=by rw[hst];exact QZ _ n
   obtain⟨_,o3,e3,_⟩:=g2.mem hb;exact⟨o3,e3⟩
  ·obtain⟨o',e⟩:=old' b o g n;exact⟨o',g1 _ _ e⟩
 ·obtain⟨m1,e1⟩:=ub.tbls b ps z;obtain⟨m2,e2⟩:=un.tbls b _ e1;exact⟨m1++m2,by rw[e2,Array.append_assoc]⟩
def xcE(e C:Addr)(d:Option Addr):HO:=.ext fun h=>∃t,h.get? e=some { cls:=.ref C,dict:=d,data:=.fields #[.ref t,.none,.none,.none,.bool false,.none] }
def unt(H:Hp)(e:Addr):Hp:=fun b=>if b=e then none else H b
def lJ{H:Hp}{e b:Addr}(h:b≠e):unt H e b=H b:=if_neg h
theorem A9{pins:List (Addr×Obj)}{σ:L2.St}{H:Hp}{s:Q8}{e dx:Addr}(I:Inv (cx1 CT P w K mg base N q sc f cd A outer s0 H0 E) pins σ H s)(hx:H e=some (xcE e CT (some dx)))(hde:dx≠e)(hnw:s0.heap.get? e=none)(hE:E (.ref e) (some dx) (unt H e)) :
  (cx1 CT P w K mg base N q sc f cd A outer s0 H0 E).xe (.ref e) s:=by
 rcases sk (CT:=CT) (P:=P) (w:=w) (K:=K) (mg:=mg) (base:=base) (N:=N) (q:=q) (sc:=sc) (f:=f) (cd:=cd) (A:=A) (outer:=outer) (s0:=s0) (H0:=H0) (E:=E)with hL|no;case inr=>exact(no _ _ _ _ I).elim
 have hst:frs (envOfC q sc s0.heap.objs.size f cd::outer)=s0.heap.objs.size::frs outer:=vE hL;have hex:∀b:Addr,b∉([]:List Addr):=fun b z=>by cases z
 have ub:Un (frs outer) [] H0 H s0.heap s.heap:=I.base;have nf:∀{b:Addr} {o:Obj},s0.heap.get? b=some o->b∉frs outer->b∉frs (envOfC q sc s0.heap.objs.size f cd::outer):=fun{b o} g n z=>by
  rw[hst]at z;rcases Qz.mp z with z|z
  ·have:=QD g;rw[z]at this;exact ZE _ this
  ·exact n z
 obtain⟨fr,hfr⟩:∃fr,fr=frs (envOfC q sc s0.heap.objs.size f cd::outer):=⟨_,rfl⟩;rw[<-hfr]at nf;obtain⟨B,hB⟩:∃B,B=PySem.W.hideAll s.heap (e::fr):=⟨_,rfl⟩;have bs:B.StaysIn s.heap:=fun b o g=>by rw[hB]at g;exact PySem.W.of_hideAll _ g
 have bg:∀{b:Addr} {o:Obj},s.heap.get? b=some o->b≠e->b∉fr->B.get? b=some o:=fun g n1 n=>by rw[hB];exact PySem.W.hideAll_get _ g fun z=>(Qz.mp z).elim n1 n
 have bf:s.heap.FunFrames B (envOfC q sc s0.heap.objs.size f cd::outer):=by
  rw[hB];exact PySem.W.funFrames_hide I.stack fun env he a ha=>QZ _ (by rw[hfr];exact List.mem_filterMap.mpr ⟨env,he,ha⟩)
 have ne:B.get? e=none:=by rw[hB];exact PySem.W.hideAll_none _ QY
 obtain⟨⟨tt,om⟩,_,_⟩:dB P w H s.heap e (xcE e CT (some dx)):=I.hok e _ hx;have ue:∀{b:Addr} {u:HO},unt H e b=some u->b≠e:=fun{b u} g z=>by unfold unt at g;rw[if_pos z]at g;cases g
 have nb:∀{b:Addr} {o:Obj},s0.heap.get? b=some o->b≠e:=fun{b o} g z=>by rw[z,hnw]at g;cases g
 refine um (s:=s) (B:=B) (outer:=outer) (L:=s0.heap.objs.size) I.ok.frames bf hL om (fun b o g=>bs b o g) ne ⟨rfl,rfl⟩ rfl rfl fun h2 fly up=>?_;have keep':∀b o,s0.heap.get? b=some o->H0 b=none->b∉frs outer->B.get? b=some o:=fun b o g z n=>bg (ub.keep b o g z n (hex b)) (nb g) (nf g n);have old':∀b o,s0.heap.get? b=some o->b∉frs outer->∃o',B.get? b=some o':=fun b o g n=>by
  obtain⟨o1,h1⟩:=ub.there b o g (hex b);exact⟨o1,bg h1 (nb g) (nf g n)⟩
 have hok:HOk P w (unt H e) B:=fun a o ha=>by
  have na:=ue ha;rw[lJ na]at ha;refine dB.stay (I.hok a o ha) (fun b u hb g=>bg g (fun z=>?_) fun z=>?_) (fun b z=>?_) fun b xs z=>?_
  ·rcases hb with y|y
   ·exact na (y▸z)
   ·rw[z,hx]at y;cases y
  ·have hz:=I.stkFree b (by rw[hfr]at z;exact z);rcases hb with y|hb
   ·rw[y,ha]at hz;cases hz
   ·rw[hb]at hz;cases hz
  ·rw[lJ fun y=>by rw[y,hx]at z;cases z];exact z
  ·rw[lJ fun y=>by rw[y,hx]at z;cases z];exact z
 refine⟨e,dx,unt H e,B,rfl,I.os,I.bare,?_,hok,old',keep',⟨fly.st,fly.nw,vD fly.ff,fly.tr⟩,hde,hE⟩;refine⟨fun b o g z n _=>fly.st _ _ (keep' b o g z n),fun b o g z n _=>?_,fun b o g z _=>by rw[lJ (nb g)];exact ub.free b o g z (hex b),fun b o g _=>?_,fun b xs z=>?_,fun b o u z=>?_,fun b ps z=>?_⟩
 ·obtain⟨sl,e1⟩:=ub.slot b o g z n (hex b);have hb:b∈frs (envOfC q sc s0.heap.objs.size f cd::outer):=by rw[hst];exact QZ _ n
  obtain⟨_,o3,e3,nd⟩:=bf.mem hb;rw[e1]at e3;cases e3;obtain⟨sl3,e4⟩:=up b _ e1 nd;exact⟨sl3,e4⟩
 ·by_cases n:b∈frs outer
  ·have hb:b∈frs (envOfC q sc s0.heap.objs.size f cd::outer):=by rw[hst];exact QZ _ n
   obtain⟨_,o3,e3,nd⟩:=bf.mem hb;obtain⟨sl,e4⟩:=up b o3 e3 nd;exact⟨_,e4⟩
  ·obtain⟨o',e⟩:=old' b o g n;exact⟨o',fly.st _ _ e⟩
 ·have:=ub.tups b xs z;rw[lJ fun y=>by rw[y,hx]at this;cases this];exact this
 ·have:=ub.frzs b o u z;rw[lJ fun y=>by rw[y,hx]at this;cases this];exact this
 ·obtain⟨mo,this⟩:=ub.tbls b ps z;exact⟨mo,by rw[lJ fun y=>by rw[y,hx]at this;cases this];exact this⟩
end
abbrev CO(C N:Addr)(bm:List Q2)(z:Str×Str×List Q2×Bool×List Str×List Q2×Bool×Option Bool×Option Addr×Option Q2×Option Q2×Option Q2×Option Q2×Option Q2):Obj:=
 excClassObj z.1 z.2.1 C N z.2.2.1 bm z.2.2.2.1 z.2.2.2.2.1 z.2.2.2.2.2.1 z.2.2.2.2.2.2.1 z.2.2.2.2.2.2.2.1 z.2.2.2.2.2.2.2.2.1 z.2.2.2.2.2.2.2.2.2.1 z.2.2.2.2.2.2.2.2.2.2.1 z.2.2.2.2.2.2.2.2.2.2.2.1 z.2.2.2.2.2.2.2.2.2.2.2.2.1 z.2.2.2.2.2.2.2.2.2.2.2.2.2 "ValueError.__new__"
abbrev bmV:List Q2:=[.type "ValueError",.type "Exception",.type "BaseException",.type "object"]
section
variable{prog:QL}{w:Qu}{A:Qe}{E:Q2->Q8->Prop}{s:Q8}{C N fI:Addr}{bm:List Q2}{z:Str×Str×List Q2×Bool×List Str×List Q2×Bool×Option Bool×Option Addr×Option Q2×Option Q2×Option Q2×Option Q2×Option Q2}{mN:Str->Option Q2}{oI:Obj}
abbrev xob(C:Addr)(d:Option Addr)(t:Addr):Obj:={ cls:=.ref C,dict:=d,data:=.fields #[.ref t,.none,.none,.none,.bool false,.none] }
theorem ow{us:List Q2}{Q:Fin->Q8->Prop}(T:OwnTail s.heap bmV bm)(hC:s.heap.get? C=some (CO C N bm z))(hn:s.heap.Ns N mN)(hi:mN "__init__"=some (.ref fI))(hfI:s.heap.get? fI=some oI)(hfc:oI.cls=.type "function")(hl:us.length<=QB)
  (hq:∀h' e t,(∀b o,s.heap.get? b=some o->h'.get? b=some o)->s.heap.objs.size<=e->h'.get? e=some (xob C none t)->wpAny (Qq prog w) A (call (.ref fI) (.ref e::us)) (fun r s'=>r=.none/\Q (.done (.ret (.ref e))) s') E { s with heap:=h' }) :
  wpAny (Qq prog w) A (Builtin.«type.__call__» ⟨.ref C::us,[]⟩) Q E s:=by
 obtain⟨h,g,d,tk,os⟩:=s;dsimp only at T hC hn hfI hq;have F:=PySem.F.excBase_ValueError;repeat (first|with_reducible refine wpAny_loadPart_at hC ?_|with_reducible refine wpAny_madeBy_exc hC ?_|wp_step)
 refine codeAny_call_builtin_code (Code.quiet_builtin _ F.quiet) (wpAny_check_new_subT F T hC (codeAny_exc_new_subT F T hC ?_ hl));show wpAny _ _ _ _ _ _;obtain⟨h2,e2⟩:∃h2,h2=(h.push { cls:=.type "tuple",data:=.seq us.toArray }).push (xob C none h.objs.size):=⟨_,rfl⟩;have kp:∀b o,h.get? b=some o->h2.get? b=some o:=fun b o x=>by rw[e2];exact QX _ (QX _ x)
 have hg:h2.get? (h.objs.size+1)=some (xob C none h.objs.size):=by rw[e2];heap_get
 have hC2:=kp _ _ hC;have cc:(Value.ref C::bm).contains (.ref C)=true:=by simp
 rw[<-e2];unfold isInstance;repeat (first|with_reducible refine wpAny_loadPart_at hg ?_|(with_reducible refine wpAny_isSubtype_exc hC2 ?_;rw[cc])|wp_step)
 show wpAny _ _ (typeLookup (.ref C) _) _ _ _;refine wpAny_typeLookup_tail hC2 (hn.keeps kp) (T.keeps kp) F.mroIs F.init.lookup ?_;rw[hi];refine wpAny_holding (Q4 ?_);unfold bindSpecial;refine Q4 (wpAny_typeOf (T:="function") ⟨_,kp _ _ hfI,hfc⟩ ?_);rw[if_pos (by decide)];refine QC (Q4 (Z6 (hq h2 _ _ kp (Nat.le_succ _) hg) (fun r s' hr=>?_) fun _ _ x=>x));obtain⟨rfl,hQ⟩:=hr
 wp_walk
 exact hQ
theorem zT{us:List Q2}{Q:Q2->Q8->Prop}(T:OwnTail s.heap bmV bm)(hC:s.heap.get? C=some (CO C N bm z))(hn:s.heap.Ns N mN)(hi:mN "__init__"=some (.ref fI))(hfI:s.heap.get? fI=some oI)(hfc:oI.cls=.type "function")(hl:us.length<=QB)
  (hq:∀h' e t,(∀b o,s.heap.get? b=some o->h'.get? b=some o)->s.heap.objs.size<=e->h'.get? e=some (xob C none t)->wpAny (Qq prog w) (A.under (.builtin "type.__call__" ⟨.ref C::us,[]⟩)) (call (.ref fI) (.ref e::us)) (fun r s'=>r=.none/\Q (.ref e) s') E { s with heap:=h' }) :
  wpAny (Qq prog w) A (call (.ref C) us) Q E s:=by
 obtain⟨h,g,d,tk,os⟩:=s;dsimp only at T hC hn hfI hq;have f1:=tc_lookup;have f2:=tc_bind (.ref C);have hT:(⟨h,g,d,tk,os⟩:Q8).TypeIs (.ref C) "type":=⟨_,hC,rfl⟩;refine wpAny_call (codeAny_of_tree ?_);show wpAny _ _ (callAny (.ref C) _) _ _ _;repeat (any_goals (first|assumption|with_reducible refine wpAny_loadPart_at hC ?_|wp_step))
 refine⟨rfl,?_⟩;exact codeAny_call_builtin_at (Code.quiet_builtin _ (by decide +kernel)) entry_typeCall (wpAny_check_type_call_sub hC (ow (s:=⟨h,g,d,tk,os⟩) T hC hn hi hfI hfc hl hq))
theorem wq{env:Env}{x:Sem Q2}{Q:Flow->Q8->Prop}(hb:bm.contains (.type "BaseException")=true)(hh:A.handled=none)
  (h:wpAny (Qq prog w) A x (fun v s1=>∃e dx t,v=.ref e/\s1.heap.get? C=some (CO C N bm z)/\s1.heap.get? e=some (xob C (some dx) t)/\E (.ref e) s1) E s):wpAny (Qq prog w) A (raiseStmt env (some x) none) Q E s:=by
 have cB:(Value.ref C::bm).contains (.type "BaseException")=true:=by rw[List.contains_cons,hb,Bool.or_true]
 unfold raiseStmt;refine Q4 (Z6 h (fun v s₁ h₁=>?_) fun _ _ x=>x);obtain⟨e,dx,t,rfl,hC,he,hE⟩:=h₁;obtain⟨hp,g,d,tk,os⟩:=s₁;repeat (first|with_reducible refine wpAny_loadPart_at he ?_|with_reducible refine wpAny_loadPart_at hC ?_|(with_reducible refine wpAny_isSubtype_exc hC ?_;rw[cB])|wp_step)
 exact wpAny_raiseNew_none hh hE
end
open Builtin Builtin.ObjectAttr
def Lf(K:Q1)(C fI:Addr):Bool:=match K.lookup C with|some ⟨.type "type",_,.cls c,sl⟩=>(match c.mro,sl.toList with|.ref D::bm,[_,_,_,_,some (.builtin n),_]=>D == C&&n == "ValueError.__new__"&&!c.hasDel&&PySem.W.tailIn K bmV bm&&PySem.W.nsOkIn K c.ns&&PySem.W.nsIn K c.ns "__init__" == some (some (.ref fI))|_,_=>false)|_=>false
structure XF(K:Q1)(CT CG fI:Addr):Prop where
 ini:Lf K CT fI=true
 gs:PySem.W.specialIn K (.ref CG) "__getattribute__"=some (some (.builtin "type.__getattribute__"))
 gr:PySem.W.readsIn K CG (.type "type")=true
 gf:PySem.W.findCls K (.ref CG) (.type "type") "__init__"=some (.val (.builtin "ValueError.__init__"))
 mr:((PySem.W.clsIn K CT).any fun c=>c.mro == .ref CT::.ref CG::bmV&&c.hasDict)=true
 sa:PySem.W.findIn K (.ref CT) "__setattr__"=some (some (.builtin "object.__setattr__"))
 fa:PySem.W.findIn K (.ref CT) "at"=some none
 ga:PySem.W.findIn K (.ref CT) "__getattribute__"=some (some (.builtin "BaseException.__getattribute__"))
 gn:PySem.W.findIn K (.ref CT) "__getattr__"=some none
 mb:PySem.W.mroIn K CT (.type "BaseException")=some true
 mo:PySem.W.mroIn K CT (.type "object")=some true
 fc:PySem.W.findIn K (.ref CT) "__class__"=some (some (.builtin "object.__class__"))
 sp:PySem.W.specialIn K (.builtin "object.__class__") "__get__"=some (some (.builtin "getset_descriptor.__get__"))
 tk:PySem.W.takesIn K (.builtin "object.__class__")=some true
 ks:PySem.W.kitCls K (.ref CT) (.ref CT)=some true
theorem MU{K:Q1}{h:Heap}{N:Addr}{m:Str->Option Q2}{n:Str}{v:Q2}(X:K.In h)(G:h.Ns N m)(e:PySem.W.nsIn K N n=some (some v)):m n=some v:=by
 obtain⟨o,es,ep,ho,hd,_,hf⟩:=G;unfold PySem.W.nsIn at e;split at e
 ·rename_i q;have y:=X _ _ q;rw[ho]at y;cases y;cases hd
  split at e
  ·rename_i en he;cases e;rw[<-hf];unfold nsFind findBy;rw[<-Array.find?_toList,he];rfl
  ·split at e<;>cases e
 ·cases e
theorem xg{K:Q1}{h:Heap}{C fI:Addr}(X:K.In h)(q:Lf K C fI=true):∃N bm z mN,h.get? C=some (CO C N bm z)/\h.Ns N mN/\mN "__init__"=some (.ref fI)/\OwnTail h bmV bm:=by
 unfold Lf at q;split at q
 ·rename_i dict cd sl ho;split at q
  ·rename_i D bm a b c d n e hm hs;simp only[ZQ,beq_iff_eq,Bool.not_eq_true']at q;obtain⟨⟨⟨⟨⟨q1,q2⟩,q3⟩,q4⟩,q5⟩,q6⟩:=q;subst q1 q2;obtain⟨nm,bs,mro,ns,qn,hd,sn,sub,ab,col,del⟩:=cd;dsimp only at hm q3 q5 q6;subst hm q3;have hsl:sl=#[a,b,c,d,some (Value.builtin "ValueError.__new__"),e]:=by obtain⟨l⟩:=sl;dsimp only at hs;rw[hs]
   subst hsl;have hns:h.Ns ns (h.nsMap ns):=Heap.Ns.of_isNs (PySem.W.isNs_of_in X q5);exact⟨ns,bm,⟨nm,qn,bs,hd,sn,sub,ab,col,dict,a,b,c,d,e⟩,_,X _ _ ho,hns,MU X hns q6,PySem.W.tail_of_in X q4⟩
  ·cases q
 ·cases q
section
variable{prog:QL}{w:Qu}{A:Qe}{E:Q2->Q8->Prop}{s:Q8}{K:Q1}{e CT CG fI t:Addr}{v:Q2}
def E6(self:Q2):refuseLoop self "__setattr__" bmV=pure ():=by kernel_rfl
abbrev Fi(v:Q2):Str->Option Q2:=fun y=>if y="at" then some v else none
theorem Ig{Q:Unit->Q8->Prop}(X:K.In s.heap)(V:XF K CT CG fI)(he:s.heap.get? e=some (xob CT none t))
  (q:∀h' ob,(∀b o,b≠e->s.heap.get? b=some o->h'.get? b=some o)->h'.get? e=some (xob CT (some s.heap.objs.size) t)->h'.get? s.heap.objs.size=some ob->sM ob (Fi v)->Q () { s with heap:=h',toks:=s.toks+2 }):wpAny (Qq prog w) A (setAttr (.ref e) "at" v) Q E s:=by
 have I:PySem.W.InstAt s.heap e (xob CT none t) CT none:=⟨he,rfl,rfl,trivial⟩;refine PySem.W.set_plain X I V.sa ?_;obtain⟨cd,hc,ho⟩:=PySem.W.any_some V.mr;simp only[ZQ,beq_iff_eq]at ho;obtain⟨hm,hd⟩:=ho;have F:=PySem.F.store_object;have L1:PySem.W.Looks (Qq prog w) s.heap (isInstance (.ref e) (.type "object")) true:=I.type.andThen (PySem.W.looks_mroIn X V.mo);have L2:PySem.W.Looks (Qq prog w) s.heap (mroOf (.ref CT)) cd.mro:=(PySem.W.looks_clsIn X hc).andThen .now;refine codeAny_call_builtin F.slot.plain F.entry (@PySem.W.check_slot (Qq prog w) _ _ { s with toks:=s.toks+1 } "object.__setattr__" "object" "__setattr__" (.ref e) [.str "at" s.toks,v] [] _ F.kind F.split L1 (F.args (.ref e) (.str "at" s.toks) v) ?_);rw[PySem.W.osa_eq,refuse_eq];refine Q4 (Q4 (I.type.at (Q4 (L2.at ?_))));rw[hm,refuseLoop_ref,refuseLoop_ref,E6];refine QC (Q4 (I.type.at (Q4 ((PySem.W.looks_findIn X V.fa).at (Q4 (QC ?_))))));refine Q4 (QC (Q4 (Q4 (wpAny_loadPart he (Q4 ((PySem.W.looks_clsIn X hc).at ?_))))));rw[hd];obtain⟨hp,g,d,tk,os⟩:=s;dsimp only at he X q ⊢;rw[if_neg (by decide),if_neg (by simp[typeHasDict])];have he1:(hp.push { cls:=.type "dict",data:=.dict #[] }).get? e=some (xob CT none t):=QX _ he;have ne:e≠hp.objs.size:=Qw (QD he);refine Q4 (wpAny_alloc' (Q4 (wpAny_update' he1 (QC ?_))));obtain⟨h1,e1⟩:∃h1,h1=(hp.push { cls:=.type "dict",data:=.dict #[] }).update e fun o=>{ cls:=o.cls,dict:=some hp.objs.size,data:=o.data,slots:=o.slots }:=⟨_,rfl⟩;rw[<-e1];have gd:h1.get? hp.objs.size=some { cls:=.type "dict",data:=.dict #[] }:=by rw[e1];exact(Heap.get?_update_ne _ _ _ _ ne.symm).trans (Heap.get?_push_at rfl rfl)
 have ge:h1.get? e=some (xob CT (some hp.objs.size) t):=by rw[e1];exact ZR _ he1 rfl
 have kp:∀b o,b≠e->hp.get? b=some o->h1.get? b=some o:=fun b o n x=>by rw[e1];exact(Heap.get?_update_ne _ _ _ _ n).trans (QX _ x)
 have nd:h1.Ns hp.objs.size fun _=>none:=⟨_,#[],_,gd,rfl,fun e he=>absurd he (by simp),fun _=>rfl⟩;show wpAny _ _ (storeInDict hp.objs.size (.str "at" tk) "at" v) _ _ _;unfold storeInDict newKeyGuard;refine Q4 (QC (Q4 (wpAny_nsSet1 (Heap.Ns1.of_empty nd) fun h' hn hs=>?_)));obtain⟨oD,esD,epD,hoD,hdD,hcD⟩:=hn.count (PySem.Within.cons "at" v .nil);refine Q4 (wpAny_lookBehind hoD (by rw[hdD];exact pastItsLine_dict (Qk hcD (by rw[Q5,Z7,sizeLine_eq];decide))) ?_);refine QC (q h' oD (fun b o n x=>(hs.2 b (Qw (QD x))).trans (kp b o n x)) ((hs.2 e ne).trans ge) hoD fun h2 d2 g2=>?_);obtain⟨o',es,ep,z1,z2,z3,z4,z5⟩:=hn;rw[hoD]at z1;cases z1;exact⟨_,es,ep,g2,z2,z3,z4,z5⟩
theorem Kb{b:Bool}{dx:Addr}{od ox:Obj}{Q:Q2->Q8->Prop}(X:K.In s.heap)(V:XF K CT CG fI)(I:PySem.W.InstAt s.heap e ox CT (some od))(hl:PySem.W.lookIn "at" od=some (some v))(hv:PySem.W.handedIn v=true)(q:Q v { s with toks:=s.toks+1 }) :
  wpAny (Qq prog w) A (getAttr (.ref e) "at" b) Q E s:=by
 obtain⟨cd,hc,ho⟩:=PySem.W.any_some V.mr;simp only[ZQ,beq_iff_eq]at ho;have hd:PySem.W.hasDictIn K CT=true:=by unfold PySem.W.hasDictIn;rw[hc];exact ho.2
 have hf:PySem.W.findObj K CT (some od) "at"=some (.value v):=PySem.W.findObj_own hd V.fa rfl hl;obtain⟨hh,g,d,t,os⟩:=s;have L0:=I.type (M:=Qq prog w);have L1:=PySem.W.looks_findIn (M:=Qq prog w) X V.ga;have L2:=PySem.W.looks_findIn (M:=Qq prog w) X V.gn;have L3:=PySem.W.looks_find (M:=Qq prog w) X I hf;have L4:=PySem.W.looks_mroIn (M:=Qq prog w) X V.mb;have LI:PySem.W.Looks (Qq prog w) hh (isInstance (.ref e) (.type "BaseException")) true:=L0.andThen L4;have f3:=PySem.F.attr_ValueError.ga.bind (.ref e);have nn:(onTheHeap (Value.ref CT)&&Value.builtin "BaseException.__getattribute__" == Value.builtin "object.__getattribute__")=false:=by
  have h2:(Value.builtin "BaseException.__getattribute__" == Value.builtin "object.__getattribute__")=false:=by decide +kernel
  rw[h2];rfl
 have hk:builtinKind "BaseException.__getattribute__"=some .slot:=by decide +kernel
 have hs:splitId "BaseException.__getattribute__"=some ("BaseException","__getattribute__"):=by decide +kernel
 unfold getAttr getAttrBy;refine Q4 (wpAny_mkText (wpAny_holding (Q4 (L0.at (Q4 (L1.at ?_))))));dsimp only;rw[nn,if_neg QR];unfold getAttrByItsOwn;refine Q4 (L2.at (Q4 (wpAny_attempt (wpAny_holding ?_))));unfold callGetattribute;rw[show(b&&onTheHeap (Value.builtin "BaseException.__getattribute__"))=false from Bool.and_false _,if_neg QR];unfold boundAndCalled;rw[f3];refine Q4 (QC (wpAny_call (codeAny_call_builtin PySem.F.attr_ValueError.ga.plain F.entry_bexc_ga (@PySem.W.check_slot (Qq prog w) _ _ ⟨hh,g,d,t+1,os⟩ "BaseException.__getattribute__" "BaseException" "__getattribute__" (.ref e) [.str "at" t] [] _ hk hs LI (F.args_bexc_ga (.ref e) (.str "at" t)) ?_))));unfold Builtin.«object.__getattribute__»;refine Q4 (QC (Q4 (QC (Q4 (L0.at (Q4 (L3.at ?_)))))));refine QC ?_;exact PySem.W.handed_on hv q
end
theorem FQ{P:QL}{w:Qu}{A:Qe}{E:Q2->Q8->Prop}{s:Q8}{K:Q1}{e CT CG fI t:Addr}{y:Q2}{Q:Q2->Q8->Prop}(X:K.In s.heap)(V:XF K CT CG fI)(he:s.heap.get? e=some (xob CT none t))
  (q:∀h' t',(∀b o,b≠e->s.heap.get? b=some o->h'.get? b=some o)->h'.get? e=some (xob CT none t')->Q .none { s with heap:=h' }):wpAny (Qq P w) A (call (.builtin "ValueError.__init__") [.ref e,y]) Q E s:=by
 obtain⟨N,bm,z,mN,hC,-,-,T⟩:=xg X V.ini;obtain⟨hp,g,d,tk,os⟩:=s;have F:=PySem.F.excBase_ValueError;refine wpAny_call (codeAny_call_builtin F.init.plain F.initEntry (wpAny_check_init_subT F T hC he rfl ?_));have h1:=QX (h:=hp) { cls:=.type "tuple",data:=.seq [y].toArray } he;unfold Builtin.«BaseException.__init__» newTuple Builtin.BaseException.bexcPut;dsimp only;rw[if_neg (by simp)];refine Q4 (wpAny_newObj_type (Q4 (Q4 (ZZ h1 rfl rfl (Q4 (wpAny_setField h1 rfl (Nat.succ_pos _) ?_))))) (by size_fits));refine wpAny_letGo (QC (q _ hp.objs.size (fun b o n x=>?_) ?_))
 ·exact(Heap.get?_update_ne _ _ _ _ n).trans (QX _ x)
 ·exact ZR _ h1 rfl
section
variable{X:Cx}{CT CG fI:Addr}{g:Str}{gp ap pos pos':Pos}{e1 e2 o value:QK}{t:TA}{ta tv:TE}
theorem xj{pins:List (Addr×Obj)}{σ:L2.St}{H:Hp}{s:Q8}{e:Addr}{d:Option Addr}(I:Inv X pins σ H s)(h:H e=some (xcE e CT d)):∃t,s.heap.get? e=some (xob CT d t):=by
 obtain⟨h1,_,_⟩:dB X.prog X.w H s.heap e (xcE e CT d):=I.hok e _ h;exact h1
theorem xh{P:QL}{w:Qu}{H:Hp}{h:Heap}{e t:Addr}{d:Option Addr}(g:h.get? e=some (xob CT d t)):dB P w H h e (xcE e CT d):=⟨⟨t,g⟩,⟨_,g⟩,fun h1 h2 ⟨t,x⟩ m=>⟨t,m _ x⟩⟩
theorem HH{H:Hp}{e:Addr}{o:HO}(h:H e=some o):upd H e o=H:=by
 funext b;by_cases n:b=e
 ·rw[n,aU,h]
 ·rw[aY n]
theorem Bp(V:XF X.K CT CG fI)(hg:Gl X g)(hm:X.mg g=some (.ref CG))(ha:PA X [e1,e2] t)(hd:(g == ("__debug__":Str))=false:=by decide)
  (hs:Q7 [e1,e2] X.env=(false,eval e1 X.env)::Q7 [e2] X.env:=by rfl) (hp:(Qa pos (Q7 [e2] X.env)).any (·.1)=false:=by rfl) {pl:Sem Bool}
  (ht:eval (.Call (.Attribute (.Name g gp) "__init__" ap) [e1,e2] [] pos) X.env=(do
   let ov <-eval (.Name g gp) X.env
   standAt ap.atName
   let (f,first) <-holding [ov] (getMethod ov "__init__" pl)
   callWith pos f first (Qa pos (Q7 [e1,e2] X.env)) (backToKw pos (keywordEach [] X.env))):=by rfl) :
  PE X (.Call (.Attribute (.Name g gp) "__init__" ap) [e1,e2] [] pos) (fun σ H Q=>t σ H fun vs H1=>∃e y,vs=[.ref e,.str y]/\H1 e=some (xcE e CT none)/\Q .non H1):=by
 intro pins s σ H Q I h;refine PySem.W.methodCall_KW (pl:=pl) (jY I hg hm (PySem.W.method_cls I.kIn V.gs (PySem.W.cls_value I.kIn V.gr V.gf rfl ?_)) hd) ht;refine PyProof.Rows.callWith_builtin1 (thn (ha pos pins _ σ H _ (I.tok _) h) fun us s1 hz=>?_) hs hp;obtain⟨vs,H1,I1,r1,e,y,hv,he,q⟩:=hz;subst hv;obtain⟨u1,u2,rfl,a1,a2⟩:=tD r1;cases a1;obtain⟨t0,ge⟩:=xj I1 he;refine FQ I1.kIn V ge fun h' t' kp g2=>⟨.non,H1,?_,rfl,q⟩;have I2:=I1.write (x:=e) (e:=e) (o:=xcE e CT none) (t':=s1.toks) (h':=h') (by rw[he];exact True.intro) (.inl rfl) (fun b u n z=>kp b u n z) ⟨_,g2⟩ (xh g2);rw[HH he]at I2;exact I2
theorem IZ(V:XF X.K CT CG fI)(ho:PE X o ta)(hv:PE X value tv)(hs:Z9 value (some (.Attribute o "at" pos')) pos.line X.env=pure false:=by rfl) :
  PS X (.Assign [.Attribute o "at" pos'] value pos) (fun D σ H=>tv σ H fun y H1=>ta σ H1 fun x H2=>∃e n,x=.ref e/\y=.int n/\H2 e=some (xcE e CT none)/\∀dx ob t,H2 dx=none->dx≠e->sM ob (Fi (.int n t))->D.nx σ (upd (upd H2 e (xcE e CT (some dx))) dx (.frz ob (.own 0)))):=by
 intro pins s σ H D I h;refine plainObj_wpAny_Assign_Attribute (thn (hv pins s σ H _ I h) fun u s1 ⟨y,H1,I1,ry,q⟩=>thn (ho pins s1 σ H1 _ I1 q) fun ov s2 hz=>?_) hs;obtain⟨x,H2,I2,rx,e,n,ex,ey,he,q2⟩:=hz;subst ex ey;obtain rfl:ov=Value.ref e:=rx;obtain⟨t,rfl⟩:=(show ∃t,u=Value.int n t from ry);obtain⟨t0,ge⟩:=xj I2 he;have fr:=I2.hok.fresh (a:=s2.heap.objs.size) (QU _);have ne:s2.heap.objs.size≠e:=fun z=>by rw[z,he]at fr;cases fr
 refine Ig I2.kIn V ge fun h' ob kp g1 g2 g3=>⟨σ,_,?_,q2 s2.heap.objs.size ob t fr ne g3⟩;obtain⟨dx,hdx⟩:∃dx,dx=s2.heap.objs.size:=⟨_,rfl⟩;rw[<-hdx]at fr ne g1 g2 ⊢;have lt:∀{b:Addr} {o:Obj},s2.heap.get? b=some o->b≠dx:=fun{b o} g z=>by have:=QD g;rw[z,hdx]at this;exact ZE _ this
 have nt:∀{b:Addr} {u:HO},H2 b=some u->b≠e->b≠dx->upd (upd H2 e (xcE e CT (some dx))) dx (.frz ob (.own 0)) b=some u:=fun z n1 n2=>by rw[aY n2,aY n1,z]
 have nd:∀{b:Addr} {u:HO},H2 b=some u->b≠dx:=fun{b u} z y=>by rw[y,fr]at z;cases z
 refine I2.un (h':=h') ⟨fun b o g z n _=>kp b o (fun y=>by rw[y,he]at z;cases z) g,fun b o g z n _=>⟨o.slots,kp b o (fun y=>by rw[y,he]at z;cases z) g⟩,fun b o g z _=>?_,fun b o g _=>?_,fun b xs z=>nt z (fun y=>by rw[y,he]at z;cases z) (nd z),fun b o u z=>nt z (fun y=>by rw[y,he]at z;cases z) (nd z),fun b ps z=>⟨#[],by rw[nt z (fun y=>by rw[y,he]at z;cases z) (nd z)];simp⟩⟩ fun a o ha=>?_
 ·rw[aY (lt g),aY (fun y=>by rw[y,he]at z;cases z),z]
 ·by_cases y:b=e
  ·rw[y];exact⟨_,g1⟩
  ·exact⟨o,kp b o y g⟩
 ·by_cases y:a=dx
  ·rw[y,aU]at ha;cases ha;rw[y];exact⟨g2,_,g2⟩
  ·rw[aY y]at ha;by_cases z:a=e
   ·rw[z,aU]at ha;cases ha;rw[z];exact xh g1
   ·rw[aY z]at ha;refine(I2.hok a o ha).stay (fun b u hb g=>kp b u (fun m=>?_) g) (fun b m=>nt m (fun k=>by rw[k,he]at m;cases m) (nd m)) fun b xs m=>nt m (fun k=>by rw[k,he]at m;cases m) (nd m);rcases hb with k|k
    ·exact z (k▸m)
    ·rw[m,he]at k;cases k
def spN(CT:Addr):Sp:=fun vs H Q _=>∃e n,vs=[.ref e,.int n]/\H e=some (xcE e CT none)/\(0<=n/\n<1000)/\∀dx ob t,H dx=none->dx≠e->sM ob (Fi (.int n t))->Q .non (upd (upd H e (xcE e CT (some dx))) dx (.frz ob (.own 0)))
end
section
variable{CT CG fI:Addr}{fd:Z8}{P:QL}{w:Qu}{K:Q1}{mg:Str->Option Q2}{base:Heap}{N:List Str}{q:Str}{sc:Scope}{f:Addr}{cd:Q2}{A:Qe}{outer:List Env}{s0:Q8}{H0:Hp}{E:XK}{k:Nat}
def HM(E:XK)(te:TA):TS:=fun D σ H=>te σ H fun vs H1=>∃n,vs=[.int n]/\(0<=n/\n<1000)/\∀e dx ob t,H1 e=none->H1 dx=none->dx≠e->sM ob (Fi (.int n t))->E (.ref e) (some dx) (upd H1 dx (.frz ob (.own 0)))
theorem Bh{x:Str}{np cpos pos:Pos}{arg:QK}{te:TA}(V:XF K CT CG fI)(F:j9 P w K mg base CX0 k fI fd ["self","at"] (spN CT))(hb:fT K fd ["self","at"] [])(hr:fZ (k+1) (A.deeper (envOfC q sc s0.heap.objs.size f cd)))(hg:Gl (cx1 CT P w K mg base N q sc f cd A outer s0 H0 E) x)(hm:mg x=some (.ref CT))(hfi:PySem.W.typeIn K (.ref fI)=some (.type "function"))
  (ha:PA (cx1 CT P w K mg base N q sc f cd A outer s0 H0 E) [arg] te) (hs:Q7 [arg] (cx1 CT P w K mg base N q sc f cd A outer s0 H0 E).env=[(false,eval arg (cx1 CT P w K mg base N q sc f cd A outer s0 H0 E).env)]:=by rfl) (hd:(x == ("__debug__":Str))=false:=by decide) :
  PS (cx1 CT P w K mg base N q sc f cd A outer s0 H0 E) (.Raise (some (.Call (.Name x np) [arg] [] cpos)) none pos) (HM E te):=by
 intro pins s σ H D I h;obtain⟨N',bm,z,mN,o1,o2,o3,o4⟩:=xg I.ok.mod.kin V.ini;have hB:bm.contains (.type "BaseException")=true:=o4.hasType (by decide);rw[arm_exec_Raise];refine Q4 (wpAny_standAt (wq (C:=CT) (N:=N') (bm:=bm) (z:=z) hB (I.ok.hd rfl) (Q4 (Z6 (wpAny_Call_ofName (jY I hg hm ?_ hd)) (fun v s₃ h₃=>Q4 (wpAny_standAt (QC h₃))) fun _ _ x=>x))));unfold callWith;have hA:=ha cpos pins s σ H _ I h;rw[hs]at hA ⊢;refine Q4 (wpAny_holding (Calls.evalArgs_plain (thn hA fun us s2 ⟨vs,H2,I2,rv,n,hv,hn,hq⟩=>Q4 (wpAny_standAt ?_))));subst hv;obtain⟨u,rfl,rw_⟩:=rv.one;obtain⟨tk,rfl⟩:=(show ∃t,u=Value.int n t from rw_);have hC:=I2.bk _ _ o1;obtain⟨fo,lf,hfo⟩:∃o,s2.heap.get? fI=some o/\o.cls=.type "function":=by
  obtain⟨o,lo,co⟩:=ZV.mp (show(K.lookup fI).map (·.cls)=_ from hfi);exact⟨o,I2.kIn _ _ lo,co⟩
 refine Q4 (wpAny_keeperOf_exc hC ?_);refine Q4 (zT (s:=s2) (o4.keeps I2.bk) hC (o2.keeps I2.bk) o3 lf hfo (by show 1<=QB;decide) fun h' e t kp le ge=>?_);have e0:H2 e=none:=I2.hok.fresh le;have I3:Inv _ pins σ (upd H2 e (xcE e CT none)) { s2 with heap:=h' }:=I2.laid (t':=s2.toks) kp le (xh ge);refine wpAny_call (codeAny_mono (F.run _ _ _ _ ⟨[.ref e,.int n tk],[]⟩ [.ref e,.int n tk] [.ref e,.int n] (fun v H'=>v=.non/\∃dx ob t,H2 dx=none/\dx≠e/\sM ob (Fi (.int n t))/\H'=upd (upd (upd H2 e (xcE e CT none)) e (xcE e CT (some dx))) dx (.frz ob (.own 0))) E0 (hr.make CT [.int n tk] []) (I3.env0.make CT [.int n tk] []) (hb _ _ I3.kIn rfl) (.cons rfl (.cons ⟨tk,rfl⟩ .nil))
  ⟨e,n,rfl,aU,hn,fun dx ob t z1 z2 z3=>⟨rfl,dx,ob,t,by rwa[aY z2]at z1,z2,z3,rfl⟩⟩) fun r s' hq'=>?_)
 cases r with
 |error e=>exact hq'.elim
 |ok fl=>
  cases fl with
  |ret u=>
   obtain⟨v,H',I4,rv,rfl,dx,ob,t2,z1,z2,z3,rfl⟩:=I3.after hq';refine⟨rv,Q4 (wpAny_holding (wpAny_point (QC ?_)))⟩;have hx:upd (upd (upd H2 e (xcE e CT none)) e (xcE e CT (some dx))) dx (.frz ob (.own 0)) e=some (xcE e CT (some dx)):=by rw[aY (Ne.symm z2),aU]
   obtain⟨t3,g3⟩:=xj I4 hx;refine⟨e,dx,t3,rfl,I4.bk _ _ o1,g3,A9 I4 hx z2 (Heap.get?_none_of_le (Qk I2.sz le)) ?_⟩;have hu:unt (upd (upd (upd H2 e (xcE e CT none)) e (xcE e CT (some dx))) dx (.frz ob (.own 0))) e=upd H2 dx (.frz ob (.own 0)):=by
    funext b;by_cases y:b=e
    ·subst y;unfold unt;rw[if_pos rfl,aY (Ne.symm z2),e0]
    ·rw[lJ y];by_cases x:b=dx
     ·rw[x,aU,aU]
     ·rw[aY x,aY x,aY y,aY y]
   rw[hu];exact hq e dx ob t2 e0 z1 z2 z3
  |next=>exact hq'.elim
  |brk=>exact hq'.elim
  |cont=>exact hq'.elim
end
theorem F5{i:Int}(h0:0<=i)(h1:i<1000):(Str.ofString (toString i)).length<=10:=by
 have key:∀k:Fin 1000,(Str.ofString (toString ((k.val:Nat):Int))).length<=10:=by decide +kernel
 have:=key ⟨i.toNat,by omega⟩;simp only[Int.toNat_of_nonneg h0]at this;exact this
abbrev CR:=Rho->Sto->Option (Int×Sto)
abbrev FnR:=List U->Sto->Option (Int×Sto)
def Ai(K:Q1)(m:List Addr)(H:Hp)(E:XK)(n:Int)(S':Sto):Prop:=∀m' ea dx ob t H',Ext K m H m' H'->Sr K m' S' H'->H' ea=none->dx≠ea->H' dx=some (.frz ob (.own 0))->sM ob (Fi (.int n t))->E (.ref ea) (some dx) H'
theorem Ai.mono{K:Q1}{m m1:List Addr}{H H1:Hp}{E:XK}{c:Int}{S':Sto}(h:Ai K m H E c S')(e:Ext K m H m1 H1):Ai K m1 H1 E c S':=fun m' ea dx ob t H' e'=>h m' ea dx ob t H' (e.trans e')
def tX(K:Q1)(E:XK)(x:CR)(σ:L2.St)(H:Hp):Prop:=∃m ρ S c S',Sr K m S H/\Lr K m H ρ σ/\x ρ S=some (c,S')/\Ai K m H E c S'
abbrev RE(X:Cx)(E:XK)(e:QK)(x:CR):Prop:=WE X e fun σ H _=>tX X.K E x σ H
abbrev RS(X:Cx)(E:XK)(st:Qg)(x:CR):Prop:=WS X st fun _=>tX X.K E x
abbrev RSs(X:Cx)(E:XK)(sts:List Qg)(x:CR):Prop:=WSs X sts fun _=>tX X.K E x
def spX(K:Q1)(f:FnR):Sp:=fun vs H _ E=>∃m us S c S',IsL K m H vs us/\Sr K m S H/\f us S=some (c,S')/\Ai K m H E c S'
section
variable{X:Cx}{E:XK}{st:Qg}{sts s1 s2:List Qg}{x x1 x2:CR}{c1:CS}{c e:QK}{t:CT}{pos:Pos}
def eC(h:RS X E st x):RSs X E (st::sts) x:=(iQ h (oU (X:=X) (sts:=sts))).imp fun D σ H hz=>hz
def uP(c1:CS)(x:CR):CR:=fun ρ S=>(c1 ρ S).bind fun r=>match r.1 with
 |.nx=>x r.2.1 r.2.2
 |_=>none
theorem jF(h1:QS X st c1)(h2:RSs X E sts x):RSs X E (st::sts) (uP c1 x):=(iQ h1 h2).imp fun D σ H hz=>by
 obtain⟨m,ρ,S,c,S',sr,lr,hc,post⟩:=hz;obtain⟨⟨o1,ρ1,S1⟩,h1,h2⟩:=Q0.mp hc;refine⟨m,ρ,S,o1,ρ1,S1,sr,lr,h1,?_⟩;cases o1 with
 |nx=>exact fun m1 σ1 H1 e1 sr1 lr1=>⟨m1,ρ1,S1,c,S',sr1,lr1,h2,post.mono e1⟩
 |_=>cases h2
def xIf(t:CT)(x1 x2:CR):CR:=fun ρ S=>(t ρ S).bind fun p=>if p.1=true then x1 ρ p.2 else x2 ρ p.2
theorem Iq(hc:QT X c t)(h1:RSs X E s1 x1)(h2:RSs X E s2 x2):RS X E (.If c s1 s2 pos) (xIf t x1 x2):=(Cu hc h1 h2).imp fun D σ H hz=>by
 obtain⟨m,ρ,S,c,S',sr,lr,hc,post⟩:=hz;obtain⟨⟨k,S1⟩,h1,h2⟩:=Q0.mp hc;refine⟨m,ρ,S,k,S1,sr,lr,h1,fun m1 H1 e1 sr1=>?_⟩;cases k with
 |true=>exact Dd ⟨m1,ρ,S1,c,S',sr1,lr.mono e1,h2,post.mono e1⟩
 |false=>exact FO ⟨m1,ρ,S1,c,S',sr1,lr.mono e1,h2,post.mono e1⟩
def xNo:CR:=fun _ _=>none
theorem Ip:RSs X E sts xNo:=(oU (X:=X) (sts:=sts)).imp fun D σ H hz=>by
 obtain⟨m,ρ,S,c,S',sr,lr,hc,post⟩:=hz;cases hc
theorem yi{i:Nat}{y:Str}{np:Pos}(nd:X.N.Nodup)(hi:X.N[i]?=some y)(hx:Loc X.env.scope y)(he:RE X E e x)(hs:Z9 e (some (.Name y np)) pos.line X.env=pure false:=by rfl)(hf:X.fn y=true\/X.env.scope.names.lookup y=some .local:=by first|exact .inl rfl|exact .inr rfl|assumption):RS X E (.Assign [.Name y np] e pos) x:=(sW nd hi hx he hs hf).imp fun D σ H hz=>hz
theorem i7(he:RE X E e x)(hs:Z9 e none pos.line X.env=pure false:=by rfl):RS X E (.Expr e pos) x:=(pG he hs).imp fun D σ H hz=>hz
def CL(he:RE X E e x):RS X E (.Return (some e) pos) x:=(sX he).imp fun D σ H hz=>hz
end
structure dC(CT:Addr)(P:QL)(w:Qu)(K:Q1)(mg:Str->Option Q2)(base:Heap)(c:Cl)(mn:Str)(k:Nat)(ps:List Str)(f:FnR):Prop where
 ex:∃fa fd,Ck K c.C mn fa/\j9 P w K mg base (CX1 CT P w) k fa fd ps (spX K f)/\fT K fd ps []
open Classical in
def gu(c:Cl)(f:FnR)(ca:CE)(cr:CA):CR:=fun ρ S=>(ca ρ S).bind fun p=>match p.1 with
 |.ref l=>match p.2[l]? with
  |some (.ins c' _)=>if c'=c then(cr ρ p.2).bind fun q=>f (.ref l::q.1) q.2 else none
  |_=>none
 |_=>none
section
variable{CT:Addr}{X:Cx}{E:XK}{c:Cl}{mn:Str}{g:FnR}{k:Nat}{ps:List Str}{o e:QK}{es:List QK}{co:CE}{cr:CA}{apos pos:Pos}{pl:Sem Bool}
theorem rM{K:Q1}{Q:VK}{σ:L2.St}{H:Hp}(hmn:mn∉c.ns)(h:tX K E (gu c g co cr) σ H):wj c.C mn (spX K g) [] E (tE K co) (tA K cr) σ H Q:=by
 obtain⟨m,ρ,S,cl,S',sr,lr,hc,post⟩:=h;obtain⟨⟨x,S1⟩,h1,h2⟩:=Q0.mp hc;refine⟨m,ρ,S,x,S1,sr,lr,h1,fun m1 v1 H1 e1 sr1 i1=>?_⟩;cases x with
 |ref l=>
  simp only at h2;split at h2<;>try cases h2
  rename_i c' fus hS;split at h2<;>try cases h2
  rename_i hc';subst hc';obtain⟨⟨us,S2⟩,h3,h4⟩:=Q0.mp h2;obtain⟨a,ha,rfl⟩:=i1.of_ref;obtain⟨a',ha',dx,fs,hx,inf⟩:=sr1.get hS;rw[ha]at ha';cases ha';refine⟨a,dx,fs,rfl,hx,inf.none_ hmn,m1,ρ,S1,us,S2,sr1,lr.mono e1,h3,fun m2 vs H2 e2 sr2 i2=>?_⟩;exact⟨m2,_,S2,cl,S',.cons_ (i1.mono e2) (by simpa using i2),sr2,h4,post.mono (e1.trans e2)⟩
 |_=>cases h2
theorem fJ(hcl:Cls X.K c.C)(F:dC CT X.prog X.w X.K X.mg X.base c mn k ps g)(hr:fZ k X.A)(hp:gK (CX1 CT X.prog X.w) X E)(hmn:mn∉c.ns)(ho:QE X o co)(ha:QA X (e::es) cr)
  (hst:Q7 (e::es) X.env=(false,eval e X.env)::Q7 es X.env:=by rfl) (hpl:(Qa pos (Q7 es X.env)).any (·.1)=false:=by rfl) (ht:eval (.Call (.Attribute o mn apos) (e::es) [] pos) X.env=(do
   let ov <-eval o X.env
   standAt apos.atName
   let (f,first) <-holding [ov] (getMethod ov mn pl)
   callWith pos f first (Qa pos (Q7 (e::es) X.env)) (backToKw pos (keywordEach [] X.env))):=by rfl):RE X E (.Call (.Attribute o mn apos) (e::es) [] pos) (gu c g co cr):=by
 obtain⟨fa,fd,hm,F,hb⟩:=F.ex;exact(uS ho hcl hm F hr hb .nil hp ha.h hst hpl ht).imp fun σ H Q h=>rM hmn h
end
def fnX(n k:Nat)(x:CR):FnR:=fun us S=>if us.length=k then x (oX n us) S else none
section
variable{CT:Addr}{P:QL}{w:Qu}{K:Q1}{mg:Str->Option Q2}{base:Heap}{N ps:List Str}{q y:Str}{st:Qg}{k:Nat}{x:CR}{cl:Cl}
theorem yc{vs:List V}{H:Hp}{Q:VK}{E:XK}{n k:Nat}(h:spX K (fnX n k x) vs H Q E):vs.length=k:=by
 obtain⟨m,us,S,u,S',i,sr,hf,post⟩:=h;unfold fnX at hf;split at hf
 ·rename_i e;rw[i.length,e]
 ·cases hf
theorem vF{vs:List V}{H:Hp}{Q:VK}{E:XK}(h:spX K (fnX N.length ps.length x) vs H Q E):tX K E x (L2.jN N vs) H:=by
 obtain⟨m,us,S,c,S',i,sr,hf,post⟩:=h;unfold fnX at hf;split at hf
 ·exact⟨m,_,S,c,S',sr,vt i,hf,post⟩
 ·cases hf
theorem MtD.pureR(d:MtD K cl.C y q st ps)(S:a7 N ps (aG st))
  (hb:∀(f:Addr) (cdv:Q2) (A:Qe) (outer:List Env) (s:Q8) (H:Hp) (E:XK),fZ k (A.deeper (envOfC q (aG st) s.heap.objs.size f cdv))->RSs (cx1 CT P w K mg base N q (aG st) f cdv A outer s H E) E (d9 st) x) :
  dC CT P w K mg base cl y (k+1) ps (fnX N.length ps.length x):=by
 obtain⟨fa,fd,F,b,m⟩:=d;obtain⟨oc,od,kV,doc,pm,an,cdv,ct,osl,rfl,lk,hcd⟩:=F.ex;exact⟨fa,_,m,FX lk hcd S (fun vs H Q E h=>yc h) fun A outer s H vs Q E hr h=>⟨_,(hb fa cdv A outer s H E hr).h,vF h⟩,b⟩
structure XNt(P:QL)(w:Qu)(K:Q1)(mg:Str->Option Q2)(base:Heap)(CT CG:Addr)(j:Nat):Prop where
 ex:∃fI fd,XF K CT CG fI/\j9 P w K mg base CX0 j fI fd ["self","at"] (spN CT)/\fT K fd ["self","at"] []/\PySem.W.typeIn K (.ref fI)=some (.type "function")
def xv(cr:CA):CR:=fun ρ S=>(cr ρ S).bind fun p=>match p.1 with
 |[.int n]=>if 0<=n/\n<1000 then some (n,p.2)else none
 |_=>none
theorem A1{sc:Scope}{f:Addr}{cd:Q2}{A:Qe}{outer:List Env}{s0:Q8}{H0:Hp}{E:XK}{CG:Addr}{np cpos pos:Pos}{arg:QK}{z:Str}{cr:CA}(Z:XNt P w K mg base CT CG k)(hr:fZ (k+1) (A.deeper (envOfC q sc s0.heap.objs.size f cd)))(hg:Gl (cx1 CT P w K mg base N q sc f cd A outer s0 H0 E) z)(hm:mg z=some (.ref CT))(ha:QA (cx1 CT P w K mg base N q sc f cd A outer s0 H0 E) [arg] cr)
  (hs:Q7 [arg] (cx1 CT P w K mg base N q sc f cd A outer s0 H0 E).env=[(false,eval arg (cx1 CT P w K mg base N q sc f cd A outer s0 H0 E).env)]:=by rfl) (hd:(z == ("__debug__":Str))=false:=by decide) :
  RS (cx1 CT P w K mg base N q sc f cd A outer s0 H0 E) E (.Raise (some (.Call (.Name z np) [arg] [] cpos)) none pos) (xv cr):=by
 obtain⟨fI,fd,V,F,hb,hfi⟩:=Z.ex;refine(show WS _ _ _ from⟨Bh V F hb hr hg hm hfi ha.h.h hs hd⟩).imp fun D σ H hz=>?_;obtain⟨m,ρ,S,c,S',sr,lr,hc,post⟩:=hz;obtain⟨⟨us,S1⟩,h1,h2⟩:=Q0.mp hc;dsimp only at h2;split at h2
 ·rename_i n;split at h2
  ·rename_i hn;cases h2;refine⟨m,ρ,S,_,_,sr,lr,h1,fun m1 vs H1 e1 sr1 i1=>?_⟩;obtain⟨v,rfl,i2⟩:=i1.one;rw[i2.of_int];exact⟨_,rfl,hn,fun e dx ob t z1 z2 z3 z4=>post m1 e dx ob t _ (e1.trans (.of (cV (cS z2 _)))) (sr1.same (cS z2 _)) (by rw[aY (Ne.symm z3)];exact z1) z3 aU z4⟩
  ·cases h2
 ·cases h2
end
theorem dC.mono{CT:Addr}{P:QL}{w:Qu}{K:Q1}{mg:Str->Option Q2}{base:Heap}{c:Cl}{mn:Str}{j k:Nat}{ps:List Str}{f:FnR}(h:dC CT P w K mg base c mn j ps f)(l:j<=k):dC CT P w K mg base c mn k ps f:=by
 obtain⟨fa,fd,a,b,d⟩:=h.ex;exact⟨fa,fd,a,b.mono l,d⟩
structure Le(CT:Addr)(P:QL)(w:Qu)(K:Q1)(mg:Str->Option Q2)(base:Heap)(x:Str)(k:Nat)(ps:List Str)(f:FnR):Prop where
 ex:∃fa fd,j9 P w K mg base (CX1 CT P w) k fa fd ps (spX K f)/\fT K fd ps []/\PySem.W.keepIn K (.ref fa)=true/\mg x=some (.ref fa)
theorem DfD.pureX{CT:Addr}{P:QL}{w:Qu}{K:Q1}{mg:Str->Option Q2}{base:Heap}{N ps:List Str}{y:Str}{st:Qg}{k:Nat}{x:CR}(d:Def K mg y st ps)(S:a7 N ps (aG st))
  (hb:∀(f:Addr) (cdv:Q2) (A:Qe) (outer:List Env) (s:Q8) (H:Hp) (E:XK),fZ k (A.deeper (envOfC y (aG st) s.heap.objs.size f cdv))->RSs (cx1 CT P w K mg base N y (aG st) f cdv A outer s H E) E (d9 st) x) :
  Le CT P w K mg base y (k+1) ps (fnX N.length ps.length x):=by
 obtain⟨fa,fd,F,b,m⟩:=d;have kp:=F.kp;obtain⟨oc,od,kV,doc,pm,an,cdv,ct,osl,rfl,lk,hcd⟩:=F.ex;exact⟨fa,_,FX lk hcd S (fun vs H Q E h=>yc h) fun A outer s H vs Q E hr h=>⟨_,(hb fa cdv A outer s H E hr).h,vF h⟩,b,kp,m⟩
section
variable{X:Cx}{E:XK}{e:QK}{es:List QK}{x:CR}{cr:CA}{g:FnR}
def vW(g:FnR)(cr:CA):CR:=fun ρ S=>(cr ρ S).bind fun q=>g q.1 q.2
abbrev RA(X:Cx)(E:XK)(es:List QK)(x:CR):Prop:=WA X es fun σ H _=>tX X.K E x σ H
def Mm:∀es:List QK,WA X es fun _ _ _=>False:=fun es=>⟨fun _ _ _ _ _ _ _ h=>h.elim⟩
theorem yl(he:RE X E e x)(hs:Q7 (e::es) X.env=(false,eval e X.env)::Q7 es X.env:=by rfl):RA X E (e::es) x:=(bK he (Mm es) hs).imp fun σ H Q h=>h
end
abbrev wM(X:Cx)(ea:Addr):Cx:={ X with A:=X.A.mark (some (.ref ea)),calm:=false }
section
variable{X:Cx}{pins:List (Addr×Obj)}{σ:L2.St}{H H':Hp}{s:Q8}{ea dx CC:Addr}
theorem Inv.hold(I:Inv X pins σ H s)(ea:Addr):Inv (wM X ea) pins σ H s:=
 ⟨⟨I.ok.mod,I.ok.kind,I.ok.glob,I.ok.blt,I.ok.above,I.ok.inj,I.ok.has,I.ok.cab,(fun z=>by cases z),I.ok.frames,I.ok.stk,I.ok.exf,I.ok.bs,I.ok.bsz,I.ok.noex,I.ok.exfs,I.ok.funs,I.ok.frf⟩,I.os,I.bare,I.base,I.loc,I.cell,I.free,I.freeC,I.pin,I.hok,I.len⟩
theorem Inv.unhold(hh:X.Ok)(I:Inv (wM X ea) pins σ H s):Inv X pins σ H s:=⟨hh,I.os,I.bare,I.base,I.loc,I.cell,I.free,I.freeC,I.pin,I.hok,I.len⟩
theorem Inv.unset{i:Nat}{x:Str}{h':Heap}{m:Str->Option Q2}{u:Option Q2}(I:Inv X pins σ H s)(hN:X.N.Nodup)(hi:X.N[i]?=some x)(hk:X.env.scope.names.lookup x=some .local)(hn:s.heap.Ns X.env.locals m)
  (hl:∀(j:Nat) (y:Str) (v:V),X.N[j]?=some y->σ[j]?=some (some v)->Vis X.env.scope y->∃u,dD v u/\Look X.env s.heap m y u)
  (hn':h'.Ns X.env.locals fun y=>if y=x then u else m y) (hs:Heap.SameBut X.env.locals s.heap h'):Inv X pins (σ.set i none) H { s with heap:=h' }:=by
 have cne:=I.cne;obtain⟨oL,_,_,hoL,_⟩:=id hn;have tracked:HOk X.prog X.w H h':=fun b ob e=>by
  refine(I.hok b ob e).stay (fun c w' hc q=>(hs.2 c ?_).trans q) (fun _ q=>q) fun _ _ q=>q;rintro rfl;rcases hc with rfl|hc
  ·rw[I.free]at e;cases e
  ·rw[I.free]at hc;cases hc
 refine⟨I.ok,I.os,I.bare,⟨fun b o e n hb hx=>?_,fun b o e n hb hx=>?_,I.base.free,fun b o e hx=>?_,I.base.tups,I.base.frzs,I.base.tbls⟩,⟨_,hn',fun j y v' e1 e2 e3=>?_⟩,fun y c e=>?_,I.free,I.freeC,fun p hp=>?_,tracked,by simpa using I.len⟩
 ·exact(hs.2 b (Qw (Qv (QD e) I.ok.above))).trans (I.base.keep b o e n hb hx)
 ·obtain⟨sl,e1⟩:=I.base.slot b o e n hb hx;exact⟨sl,(hs.2 b (Qw (Qv (QD e) I.ok.above))).trans e1⟩
 ·obtain⟨o',e1⟩:=I.base.there b o e hx;exact⟨o',(hs.2 b (Qw (Qv (QD e) I.ok.above))).trans e1⟩
 ·by_cases hj:j=i
  ·subst hj;have hiσ:j < σ.length:=by rw[I.len];exact(Q6.mp hi).1
   rw[ZK hiσ]at e2;cases e2
  ·rw[QM (Ne.symm hj)]at e2;obtain⟨u',r',q⟩:=hl j y v' e1 e2 e3;refine⟨u',r',?_⟩;rcases q with⟨k,e⟩|⟨k,c,e,z⟩
   ·refine .inl ⟨k,?_⟩;have:y≠x:=fun e=>hj (qb hN e1 (e▸hi));simp[this,e]
   ·exact .inr ⟨k,c,e,z.sameBut hs (cne y c e)⟩
 ·obtain⟨w',z⟩:=I.cell y c e;exact⟨w',z.sameBut hs (cne y c e)⟩
 ·obtain⟨e,n,ne,nf,d⟩:=I.pin p hp;exact⟨(hs.2 p.1 ne).trans e,n,ne,nf,d⟩
theorem Cz{l:List Env}{s1:Q8}{h h3 B:Heap}{H1:Hp}{C:Q2}(un:Un (frs l) [] H1 H' s1.heap h)(old:∀b o,s1.heap.get? b=some o->b∉frs l->∃o',B.get? b=some o')(keep:∀b o,s1.heap.get? b=some o->H1 b=none->b∉frs l->B.get? b=some o)
  (ff:h.FunFrames B l) (fl:Fly B l ea dx C h3) (up:h.UpToSlots h3):Un (frs l) [] H1 H' s1.heap h3:=by
 refine⟨fun b o g z n _=>fl.st _ _ (keep b o g z n),fun b o g z n hx=>?_,un.free,fun b o g _=>?_,un.tups,un.frzs,un.tbls⟩
 ·obtain⟨sl,e1⟩:=un.slot b o g z n hx;obtain⟨_,o3,e3,nd⟩:=ff.mem n;rw[e1]at e3;cases e3;obtain⟨sl3,e4⟩:=up b _ e1 nd;exact⟨sl3,e4⟩
 ·by_cases n:b∈frs l
  ·obtain⟨_,o3,e3,_⟩:=fl.ff.mem n;exact⟨o3,e3⟩
  ·obtain⟨o',e⟩:=old b o g n;exact⟨o',fl.st _ _ e⟩
theorem HJ{l:List Env}{s1:Q8}{h3 B:Heap}{H1:Hp}{C:Q2}(un:Un (frs l) [] H1 H' s1.heap h3)(old:∀b o,s1.heap.get? b=some o->b∉frs l->∃o',B.get? b=some o')(he:H' ea=none)(fl:Fly B l ea dx C h3)(o:HO):Un (frs l) [] H1 (upd H' ea o) s1.heap h3:=by
 have ne:∀b ob,s1.heap.get? b=some ob->b≠ea:=fun b ob g z=>by
  by_cases n:b∈frs l
  ·obtain⟨_,o3,e3,nd⟩:=fl.ff.mem n;obtain⟨oe,vs,_,_,_,g1,_,g3,_⟩:=fl.tr;rw[z,g1]at e3;cases e3;exact nd vs g3
  ·obtain⟨o',e⟩:=old b ob g n;rw[z,fl.nw]at e;cases e
 have nt:∀b u,H' b=some u->b≠ea:=fun b u g z=>by rw[z,he]at g;cases g
 refine⟨un.keep,un.slot,fun b ob g z hx=>by rw[aY (ne b ob g)];exact un.free b ob g z hx,un.there,fun b xs z=>?_,fun b ob u z=>?_,fun b ps z=>?_⟩
 ·have:=un.tups b xs z;rw[aY (nt b _ this)];exact this
 ·have:=un.frzs b ob u z;rw[aY (nt b _ this)];exact this
 ·obtain⟨mo,this⟩:=un.tbls b ps z;exact⟨mo,by rw[aY (nt b _ this)];exact this⟩
theorem FT{P:QL}{w:Qu}{B h3:Heap}{l:List Env}(hok:HOk P w H' B)(he:H' ea=none)(fl:Fly B l ea dx (.ref CC) h3):HOk P w (upd H' ea (vI ea CC dx)) h3:=fun b o e=>by
 by_cases hb:b=ea
 ·subst hb;rw[aU]at e;cases e;obtain⟨oe,vs,_,_,_,g1,g2,g3,_⟩:=fl.tr;exact⟨⟨oe,g1,g2.1,g2.2,vs,g3⟩,⟨oe,g1⟩,fun h1 h2 ⟨o,g,r⟩ m=>⟨o,m o g,r⟩⟩
 ·rw[aY hb]at e;refine(hok b o e).stay (fun c u _ g=>fl.st c u g) (fun c z=>?_) fun c xs z=>?_
  ·rw[aY fun y=>by rw[y,he]at z;cases z];exact z
  ·rw[aY fun y=>by rw[y,he]at z;cases z];exact z
end
def Kv(CT:Addr)(X:Cx)(pins:List (Addr×Obj))(σ:L2.St)(E:XK)(e:Q2)(s':Q8):Prop:=∃H1 s1,Inv X pins σ H1 s1/\CX1 CT X.prog X.w X.stack H1 s1 E e s'
def PXE(CT:Addr)(X:Cx)(e:QK)(te:L2.St->Hp->XK->Prop):Prop:=∀(pins:List (Addr×Obj)) (s:Q8) (σ:L2.St) (H:Hp) (E:XK),Inv X pins σ H s->te σ H E->wpAny (Qq X.prog X.w) X.A (eval e X.env) (fun _ _=>False) (Kv CT X pins σ E) s
def PXs(CT:Addr)(X:Cx)(sts:List Qg)(te:L2.St->Hp->XK->Prop):Prop:=∀(pins:List (Addr×Obj)) (s:Q8) (σ:L2.St) (H:Hp) (E:XK),Inv X pins σ H s->te σ H E->wpAny (Qq X.prog X.w) X.A (execs sts X.env) (fun _ _=>False) (Kv CT X pins σ E) s
section
variable{CT:Addr}{X:Cx}{k:Nat}{f:Addr}{fd:Z8}{ps:List Str}{sp:Sp}{pos:Pos}{e:QK}{es:List QK}{t:TA}{te:L2.St->Hp->XK->Prop}
theorem ED{x:Str}{p:Pos}(hx:∀e s,¬X.xe e s)(F:j9 X.prog X.w X.K X.mg X.base (CX1 CT X.prog X.w) k f fd ps sp)(hr:fZ k X.A)(hg:L2.Gl X x)(hm:X.mg x=some (.ref f))(hk:PySem.W.keepIn X.K (.ref f)=true)(hb:fT X.K fd ps [])(ha:PA X (e::es) t)
  (hdb:(x == ("__debug__":Str))=false:=by decide) (he:Q7 (e::es) X.env=(false,eval e X.env)::Q7 es X.env:=by rfl) (hpl:(Qa pos (Q7 es X.env)).any (·.1)=false:=by rfl) :
  PXE CT X (.Call (.Name x p) (e::es) [] pos) (fun σ H E=>Ei sp [] E t σ H fun _ _=>False):=by
 intro pins s σ H E I h;refine wpAny_Call_Name_kw (jY I hg hm ?_ hdb);refine PySem.W.callWith_K (h₀:=X.base) I.ok.mod.kin hk (Z6 (ha pos pins s σ H _ I h) (fun us s2 hz=>?_) fun e s x=>(hx e s x).elim) he hpl;obtain⟨vs,H2,I2,r,q2⟩:=hz;refine⟨I2.kIn,?_⟩;rw[QN]at q2;have hl:us.length=ps.length:=by rw[<-r.length];exact F.len _ _ _ _ q2
 have hb':=hb s2 us I2.kIn (by rw[QN];exact hl);rw[QN]at hb';refine wpAny_call (codeAny_mono (F.run X.A X.stack s2 H2 ⟨us,[]⟩ us vs _ E hr I2.env0 hb' r q2) fun r s' hq=>?_);cases r with
 |error e=>exact⟨H2,s2,I2,hq⟩
 |ok fl=>
  cases fl with
  |ret u=>obtain⟨_,_,_,_,_,_,_,z⟩:=hq;exact z
  |next=>exact False.elim hq
  |brk=>exact False.elim hq
  |cont=>exact False.elim hq
theorem IP{x:Str}{pos':Pos}(he:PXE CT X e te)(hs:Z9 e (some (.Name x pos')) pos.line X.env=pure false:=by rfl):PXs CT X [.Assign [.Name x pos'] e pos] te:=by
 intro pins s σ H E I h;refine wpAny_execs_cons ?_;exact wpAny_Assign_Name (Z6 (he pins s σ H E I h) (fun _ _ z=>z.elim) fun _ _ z=>z) hs
end
def Ki(i:Nat)(D:Aj):Aj:={ nx:=fun σ' H'=>D.nx (σ'.set i none) H',rt:=fun _ _=>False }
def eX(CT:Addr)(X:Cx)(CG:Addr)(i:Nat)(ts:TS)(D:Aj)(σ:L2.St):XK:=fun e c H'=>∃ea dx ob,e=.ref ea/\c=some dx/\H' ea=none/\H' dx=some (.frz ob (.own 0))/\PySem.W.exmOne X.K (.ref CT) (.ref CG)=some true/\ts (Ki i D) (σ.set i (some (.ref ea))) (upd H' ea (vI ea CT dx))
theorem pQ{h1 h2 h3:Heap}(a:h1.UpToSlots h2)(b:h2.UpToSlots h3):h1.UpToSlots h3:=fun c o g nd=>by
 obtain⟨sl,g1⟩:=a c o g nd;obtain⟨sl2,g2⟩:=b c _ g1 nd;exact⟨sl2,g2⟩
theorem BR{B h:Heap}{l:List Env}{ea dx CC:Addr}{od:Obj}(fl:Fly B l ea dx (.ref CC) h)(gd:h.get? dx=some od):∃ox,PySem.W.InstAt h ea ox CC (some od):=by
 obtain⟨oe,vs,_,_,_,g1,g2,g3,_⟩:=fl.tr;refine⟨oe,g1,g2.1,by unfold PySem.W.notCls;rw[g3],?_⟩;rw[g2.2];exact gd
section
variable{CT:Addr}{X:Cx}{body suite:List Qg}{b0:Qg}{tb ts:TS}{te:L2.St->Hp->XK->Prop}{g n:Str}{i:Nat}{CG:Addr}{gp hpos pos:Pos}
theorem EJ(hx:∀e s,¬X.xe e s)(hst:X.stack=X.env::X.outer)(hfr:X.env.frame=some X.env.locals)(hN:X.N.Nodup)(hi:X.N[i]?=some n)(hk:X.env.scope.names.lookup n=some .local)(hg:L2.Gl X g)(hm:X.mg g=some (.ref CG))
  (hbN:PSs X body tb) (hbR:PXs CT X body te) (hsu:∀ea,PSs (wM X ea) (b0::suite) ts) (hd:(g == ("__debug__":Str))=false:=by decide) :
  PS X (.Try body [.ExceptHandler (some (.Name g gp)) (some n) (b0::suite) hpos] [] [] pos) (fun D σ H=>tb D σ H\/te σ H (eX CT X CG i ts D σ)):=by
 intro pins s σ H D I h;rcases h with h|h
 ·refine wpAny_Try_except (Z6 (hbN pins s σ H D I h) (fun f s1 q=>?_) fun e s1 x=>(hx e s1 x).elim);cases f with
  |next=>exact wpAny_execs_nil q
  |_=>exact q
 refine wpAny_Try_except (Z6 (hbR pins s σ H _ I h) (fun f s1 z=>z.elim) fun e s1 hz=>?_);obtain⟨H1,s0,I1,ea,dx,H',B,rfl,os,bare,un,hok,old,keep,fl,hde,ea2,dx2,ob,e1,e2,he,hdx,hex,hts⟩:=hz;cases e1;cases e2;rw[hst]at un old keep fl;have hfs:X.A.frames=some (X.env::X.outer):=by rw[<-hst];exact I.ok.frames
 refine rB (B:=B) (outer:=X.outer) (L:=X.env.locals) hfs fl.ff hfr fl.st fl.nw fl.tr fun h2 a1 a2 a3 a4=>?_;refine ig (s:={ s1 with heap:=h2 }) a1 a2 fl.nw a3 fun h3 fl3 up3=>?_;have u3:=Cz un old keep fl.ff fl3 (pQ a4 up3);have I3:Inv X pins σ H' { s1 with heap:=h3 }:=I1.call' (s':={ s1 with heap:=h3 }) os (by rw[hst];exact u3) (hok.kept fl3.st) bare (fun b z=>by cases z);refine wpAny_handleBy_cons (codeAny_handlers_test ?_) (by unfold byPass;intro z;cases z);refine jY (X:=wM X ea) (Inv.hold I3 ea) hg hm ?_ hd;obtain⟨gd,_⟩:dB X.prog X.w H' B dx (.frz ob (.own 0)):=hok dx _ hdx;obtain⟨ox,hin⟩:=BR fl3 (fl3.st _ _ gd);refine(PySem.W.exm_one (K:=X.K) I3.kIn hin.type hex) _ _ _ _ (fun b o z=>z) ?_;show codeAny _ _ _ _ _;refine codeAny_handlers_suite_as (ig (s:={ s1 with heap:=h3 }) fl3.st fl3.ff fl3.nw fl3.tr fun h4 fl4 up4=>?_);have u4:=HJ (Cz un old keep fl.ff fl4 (pQ (pQ a4 up3) up4)) old he fl4 (vI ea CT dx);have I4:Inv X pins σ (upd H' ea (vI ea CT dx)) { s1 with heap:=h4 }:=I1.call' (s':={ s1 with heap:=h4 }) os (by rw[hst];exact u4) (FT hok he fl4) bare (fun b z=>by cases z);refine mE (X:=wM X ea) (Inv.hold I4 ea) hN hi (.inl hk) (v:=.ref ea) rfl (fun s5 I5=>?_) (.inr hk);refine Z6 (hsu ea pins s5 _ _ (Ki i D) I5 hts) (fun f s6 hz=>?_) fun e s x=>(hx e s x).elim;cases f with
 |next=>
  obtain⟨σ',H6,I6,q⟩:=hz;have I6':=Inv.unhold I.ok I6;refine Q4 (wpAny_bindName (mE I6' hN hi (.inl hk) (v:=.non) rfl (fun s7 I7=>?_) (.inr hk)));unfold unbindBehindTheSuite;refine wpAny_onRaise ?_;obtain⟨m,hn,hl⟩:=id I7.loc;have hiσ:i < σ'.length:=by rw[I6.len];exact(Q6.mp hi).1
  obtain⟨u,ru,lk⟩:=hl i n .non hi (by rw[ZK hiσ]) (.inl hk);have hmn:∃v,m n=some v:=by
   rcases lk with⟨_,z⟩|⟨z,_⟩
   ·exact⟨_,z⟩
   ·rcases z with z|z
    ·have z':X.env.scope.names.lookup n=some .cell:=z;rw[hk]at z';cases z'
    ·have z':X.env.scope.names.lookup n=some .free:=z;rw[hk]at z';cases z'
  obtain⟨v,hmn⟩:=hmn;refine wpAny_unbindName_local hk hn hmn (by rw[I.ok.kind];rfl) fun h8 u hn8 hs8=>?_;refine⟨_,H6,Inv.unset I7 hN hi hk hn hl hn8 hs8,?_⟩;rw[List.set_set];exact q
 |brk=>obtain⟨_,_,_,q⟩:=hz;exact q.elim
 |cont=>obtain⟨_,_,_,q⟩:=hz;exact q.elim
 |ret u=>obtain⟨_,_,_,_,_,q⟩:=hz;exact q.elim
end
abbrev RXs(CT:Addr)(X:Cx)(sts:List Qg)(x:CR):Prop:=PXs CT X sts fun σ H E=>tX X.K E x σ H
abbrev RXE(CT:Addr)(X:Cx)(e:QK)(x:CR):Prop:=PXE CT X e fun σ H E=>tX X.K E x σ H
def Ga(CT:Addr)(i:Nat)(c:CS)(x:CR)(h:CS):CS:=fun ρ S=>match c ρ S with
 |some r=>some r
 |none=>(x ρ S).bind fun p=>(h (ρ.set i (some (.ref p.2.length))) (p.2++[.xat CT p.1])).bind fun r=>match r.1 with
  |.nx=>some (.nx,r.2.1.set i none,r.2.2)
  |_=>none
theorem Lr.unset{K:Q1}{m:List Addr}{H:Hp}{ρ:Rho}{σ:L2.St}(h:Lr K m H ρ σ)(i:Nat):Lr K m H (ρ.set i none) (σ.set i none):=by
 refine⟨by simp[h.len],fun j w e=>?_⟩;by_cases c:i=j
 ·subst c;rw[ZG]at e;simp at e
 ·rw[QM c]at e;rw[QM c];exact h.at_ j w e
section
variable{CT:Addr}{X:Cx}{body suite:List Qg}{b0:Qg}{c h:CS}{x:CR}{g n:Str}{i:Nat}{CG:Addr}{gp hpos pos:Pos}
theorem Ez(hx:∀e s,¬X.xe e s)(hst:X.stack=X.env::X.outer)(hfr:X.env.frame=some X.env.locals)(hN:X.N.Nodup)(hi:X.N[i]?=some n)(hk:X.env.scope.names.lookup n=some .local)(hg:L2.Gl X g)(hm:X.mg g=some (.ref CG))
  (hex:PySem.W.exmOne X.K (.ref CT) (.ref CG)=some true)
  (hbN:QSs X body c) (hbR:RXs CT X body x) (hsu:∀ea,QSs (wM X ea) (b0::suite) h) (hd:(g == ("__debug__":Str))=false:=by decide) :
  QS X (.Try body [.ExceptHandler (some (.Name g gp)) (some n) (b0::suite) hpos] [] [] pos) (Ga CT i c x h):=
 (show WS X _ _ from⟨EJ (ts:=tS X.K h) hx hst hfr hN hi hk hg hm hbN.h hbR (fun ea=>(hsu ea).h) hd⟩).imp fun D σ H hz=>ux hz fun m ρ S o ρ' S' sr lr hc post=>by
 unfold Ga at hc;split at hc
 ·rename_i r hr;cases hc;exact .inl ⟨m,ρ,S,o,ρ',S',sr,lr,hr,post⟩
 ·obtain⟨⟨n,S1⟩,h1,h2⟩:=Q0.mp hc;obtain⟨⟨o2,ρ2,S2⟩,h3,h4⟩:=Q0.mp h2;cases o2 with
  |nx=>
   cases h4;refine .inr ⟨m,ρ,S,n,S1,sr,lr,h1,fun m' ea dx ob t H' e1 sr1 he hde hdx hob=>⟨ea,dx,ob,rfl,rfl,he,hdx,hex,?_⟩⟩;have en:Ext X.K m' H' (m'++[ea]) (upd H' ea (vI ea CT dx)):=.new (dU he _);refine⟨m'++[ea],_,S1++[.xat CT n],.nx,ρ2,S2,sr1.new (o:=.xat CT n) he ⟨dx,ob,t,aU,(by rw[aY hde];exact hdx),hob⟩,(lr.mono (e1.trans en)).set i (.ref_ (h7 sr1.len)),h3,fun m1 σ1 H1 e2 sr2 lr2=>?_⟩;exact post m1 (σ1.set i none) H1 ((e1.trans en).trans e2) sr2 (lr2.unset i)
  |_=>cases h4
end
section
variable{CT:Addr}{X:Cx}{e:QK}{pos:Pos}{x:CR}
theorem Io{y:Str}{pos':Pos}(he:RXE CT X e x)(hs:Z9 e (some (.Name y pos')) pos.line X.env=pure false:=by rfl):RXs CT X [.Assign [.Name y pos'] e pos] x:=IP he hs
end
section
variable{CT:Addr}{X:Cx}{g:FnR}{k:Nat}{ps:List Str}{e:QK}{es:List QK}{cr:CA}{p pos:Pos}{y:Str}
theorem Es(hx:∀e s,¬X.xe e s)(F:Le CT X.prog X.w X.K X.mg X.base y k ps g)(hr:fZ k X.A)(hg:L2.Gl X y)(ha:QA X (e::es) cr)
  (hdb:(y == ("__debug__":Str))=false:=by decide) (he:Q7 (e::es) X.env=(false,eval e X.env)::Q7 es X.env:=by rfl) (hpl:(Qa pos (Q7 es X.env)).any (·.1)=false:=by rfl):RXE CT X (.Call (.Name y p) (e::es) [] pos) (vW g cr):=by
 obtain⟨fa,fd,a,b,c,d⟩:=F.ex;refine fun pins s σ H E I h=>ED hx a hr hg d c b ha.h.h hdb he hpl pins s σ H E I ?_;obtain⟨m,ρ,S,cl,S',sr,lr,hc,post⟩:=h;obtain⟨⟨us,S1⟩,h1,h2⟩:=Q0.mp hc;exact⟨m,ρ,S,us,S1,sr,lr,h1,fun m1 vs H1 e1 sr1 i1=>⟨m1,us,S1,cl,S',by simpa using i1,sr1,h2,post.mono e1⟩⟩
end
theorem uv{K:Q1}{C:Addr}{odo:Option Obj}{name:Str}{a g:Q2}(hc:(PySem.W.clsIn K C).isSome=true)(ha:PySem.W.findIn K (.ref C) name=some (some a))(hs:PySem.W.specialIn K a "__get__"=some (some g))(ht:PySem.W.takesIn K a=some true):PySem.W.findObj K C odo name=some (.bind g a):=by
 obtain⟨cd,hc⟩:=Option.isSome_iff_exists.mp hc;unfold PySem.W.findObj;have hs':PySem.W.specialIn K a (Str.ofString "__get__")=some (some g):=hs;simp only[hc,ha,Q3,hs',ht]
theorem zv{prog:QL}{w:Qu}{A:Qe}{E:Q2->Q8->Prop}{s:Q8}{K:Q1}{x C:Addr}{ox:Obj}{odo:Option Obj}{Q:Option Q2->Q8->Prop}(X:K.In s.heap)(I:PySem.W.InstAt s.heap x ox C odo)
  (hga:PySem.W.findIn K (.ref C) "__getattribute__"=some (some (.builtin "BaseException.__getattribute__"))) (hgn:PySem.W.findIn K (.ref C) "__getattr__"=some none) (hb:PySem.W.mroIn K C (.type "BaseException")=some true) (hm:PySem.W.mroIn K C (.type "object")=some true)
  (hf:PySem.W.findObj K C odo "__class__"=some (.bind (.builtin "getset_descriptor.__get__") (.builtin "object.__class__")))
  (k:Q (some (.ref C)) { s with toks:=s.toks+1 }):wpAny (Qq prog w) A (getAttr? (.ref x) "__class__") Q E s:=by
 obtain⟨hh,g,d,t,os⟩:=s;have L0:=I.type (M:=Qq prog w);have L1:=PySem.W.looks_findIn (M:=Qq prog w) X hga;have L2:=PySem.W.looks_findIn (M:=Qq prog w) X hgn;have L3:=PySem.W.looks_find (M:=Qq prog w) X I hf;have L4:=PySem.W.looks_mroIn (M:=Qq prog w) X hb;have LI:PySem.W.Looks (Qq prog w) hh (isInstance (.ref x) (.type "BaseException")) true:=L0.andThen L4;have f3:=PySem.F.attr_ValueError.ga.bind (.ref x);have nn:(onTheHeap (Value.ref C)&&Value.builtin "BaseException.__getattribute__" == Value.builtin "object.__getattribute__")=false:=by
  have h2:(Value.builtin "BaseException.__getattribute__" == Value.builtin "object.__getattribute__")=false:=by decide +kernel
  rw[h2];rfl
 unfold getAttr? getAttrBy? getAttrBy;refine Q4 (wpAny_mkText (Q4 (wpAny_attempt (wpAny_holding (Q4 (L0.at ?_))))));refine Q4 (L1.at ?_);dsimp only;rw[nn,if_neg QR];unfold getAttrByItsOwn;refine Q4 (L2.at ?_);refine Q4 (wpAny_attempt (wpAny_holding ?_));show wpAny _ _ (boundAndCalled _ _ _) _ _ _;unfold boundAndCalled;rw[f3];refine Q4 (QC ?_);refine wpAny_call (codeAny_call_builtin PySem.F.attr_ValueError.ga.plain F.entry_bexc_ga ?_);have hk:builtinKind "BaseException.__getattribute__"=some .slot:=by decide +kernel
 have hsplit:splitId "BaseException.__getattribute__"=some ("BaseException","__getattribute__"):=by decide +kernel
 have ha:=F.args_bexc_ga (.ref x) (.str "__class__" t);simp only[checkBuiltinCall,hk,hsplit];refine Q4 (LI.at ?_);rw[if_neg (by decide)];unfold argsOk at ha;refine Eq.mpr (congrArg (fun m=>wpAny (Qq prog w) A.in1 m _ _ _) ha) (QC ?_);unfold Builtin.«object.__getattribute__»;refine Q4 (QC ?_);refine Q4 (QC ?_);refine Q4 (L0.at ?_);refine Q4 (L3.at ?_);show wpAny _ _ (holding [.builtin "object.__class__"] (call (.builtin "getset_descriptor.__get__") [.builtin "object.__class__",.ref x,.ref C]) >>= ret) _ _ _;refine Q4 (wpAny_holding (wpAny_call (PySem.W.class_get X I hm ?_)));refine QC (PySem.W.handed_on rfl (QC k))
theorem qd{K:Q1}{CT CG fI e:Addr}(V:XF K CT CG fI):PySem.W.KitX K (.ref e) (.ref CT) (fun h=>∃ox od,PySem.W.InstAt h e ox CT (some od)) where
 ty:=fun M h X ⟨ox,od,I⟩=>I.type
 it:=fun M h X _=>(PySem.W.kit_cls X V.ks).2.1
 ne:=fun h tp dd its n sl X htp=>by
  rw[Bool.eq_false_iff];intro q;have e:=Value.ref.inj (beq_iff_eq.mp q);subst e;obtain⟨_,_,_,_,o1,_⟩:=xg X V.ini;rw[o1]at htp;have z:Value.type "type"=Value.type "tuple":=congrArg Obj.cls (Option.some.inj htp);exact absurd z (by decide)
 ca:=fun{prog w A E Q s} X ⟨ox,od,I⟩ k=>by
  obtain⟨cd,hc,_⟩:=PySem.W.any_some V.mr;exact zv X I V.ga V.gn V.mb V.mo (uv (by rw[hc];rfl) V.fc V.sp V.tk) k
section
variable{X:Cx}{K:Q1}{CT CG fI:Addr}
theorem vH{P:QL}{w:Qu}{H:Hp}{h:Heap}{a dx:Addr}{ob:Obj}(hok:HOk P w H h)(hH:H a=some (vI a CT dx))(hd:H dx=some (.frz ob (.own 0))):∃ox,PySem.W.InstAt h a ox CT (some ob):=by
 obtain⟨⟨o,g1,g2,g3,vs,g4⟩,_,_⟩:dB P w H h a (vI a CT dx):=hok a _ hH;obtain⟨gd,_⟩:dB P w H h dx (.frz ob (.own 0)):=hok dx _ hd;refine⟨o,g1,g2,by unfold PySem.W.notCls;rw[g4],?_⟩;rw[g3];exact gd
def Mv(K:Q1)(CT:Addr):List V->Hp->VK->Prop:=fun xs H Q=>∃a dx ob,H a=some (vI a CT dx)/\H dx=some (.frz ob (.own 0))/\((∃c b,xs=[.ref a,.ref c]/\PySem.W.kitOne K (.ref CT) (.ref c)=some b/\Q (.bl b) H)\/(∃T b,xs=[.ref a,.ty T]/\PySem.W.kitOne K (.ref CT) (.type T)=some b/\Q (.bl b) H)\/
 ∃(p:Addr) (cs:List Addr) (b:Bool),xs=[.ref a,.ref p]/\SqT K H p (cs.map V.ref)/\PySem.W.kitAny K (.ref CT) (cs.map Value.ref)=some b/\Q (.bl b) H)
theorem qU:∀{cs:List Addr} {us:List Q2},cG (cs.map V.ref) us->us=cs.map Value.ref
 |[],us,r=>by cases r;rfl
 |c::cs,us,r=>by
  cases r with
  |cons r1 r2=>cases r1;rw[qU r2];rfl
theorem yG(V:XF X.K CT CG fI):f7 X (.builtin "isinstance") (Mv X.K CT):=by
 rintro pins s σ H xs us Q I r ⟨a,dx,ob,hH,hD,h⟩;obtain⟨ox,hin⟩:=vH I.hok hH hD;rcases h with⟨c,b,rfl,hk,q⟩|⟨T,b,rfl,hk,q⟩|⟨p,cs,b,rfl,sq,hk,q⟩
 ·obtain⟨u,w',rfl,ru,rw'⟩:=tD r;cases ru;cases rw';exact PySem.W.kia_one (qd V) I.kIn ⟨ox,ob,hin⟩ hk (fun z=>nomatch z) fun tk=>⟨.bl b,H,I.tok tk,rfl,q⟩
 ·obtain⟨u,w',rfl,ru,rw'⟩:=tD r;cases ru;cases rw';exact PySem.W.kia_one (qd V) I.kIn ⟨ox,ob,hin⟩ hk (fun z=>nomatch z) fun tk=>⟨.bl b,H,I.tok tk,rfl,q⟩
 ·obtain⟨u,w',rfl,ru,rw'⟩:=tD r;cases ru;cases rw';obtain⟨its,rv,⟨ob2,g,c,n,d⟩,_⟩:=I.tuple sq;obtain⟨oc,od,oda,osl⟩:=ob2;dsimp only at c d;subst c d;have ei:=qU rv;subst ei;exact PySem.W.kia_tup (qd V) I.kIn ⟨ox,ob,hin⟩ g hk (fun z=>nomatch z) fun tk=>⟨.bl b,H,I.tok tk,rfl,q⟩
end
section
variable{X:Cx}{CT CG fI:Addr}{e ec:QK}{ce:CE}{C:Addr}{b:Bool}{p pos:Pos}
def qE(CT:Addr)(b:Bool)(ce:CE):CE:=fun ρ S=>(ce ρ S).bind fun p=>match p.1 with
 |.ref l=>match p.2[l]? with
  |some (.xat D _)=>if D=CT then some (.bl b,p.2)else none
  |_=>none
 |_=>none
theorem uH{K:Q1}{ρ:Rho}{S S':Sto}{u:U}{Q:Addr->Hp->Prop}{m:List Addr}{H:Hp}{σ:L2.St}(hc:qE CT b ce ρ S=some (u,S')):∃l n,ce ρ S=some (.ref l,S')/\S'[l]?=some (.xat CT n)/\u=.bl b:=by
 obtain⟨⟨x,S1⟩,h1,h2⟩:=Q0.mp hc;cases x with
 |ref l=>
  simp only at h2;split at h2<;>try cases h2
  rename_i D n hS;split at h2<;>try cases h2
  rename_i hd;subst hd;exact⟨l,n,h1,hS,rfl⟩
 |_=>cases h2
theorem IK(V:XF X.K CT CG fI)(hk:PySem.W.kitOne X.K (.ref CT) (.ref C)=some b)(he:QE X e ce)(hc:WE X ec (tC (.ref C)))(hg:Gl X "isinstance")(hm:X.mg "isinstance"=none)
  (h1:Q7 [e,ec] X.env=(false,eval e X.env)::Q7 [ec] X.env:=by rfl) (h2:Q7 [ec] X.env=(false,eval ec X.env)::Q7 [] X.env:=by rfl) (hpl:(Qa pos (Q7 [ec] X.env)).any (·.1)=false:=by rfl) :
  QE X (.Call (.Name "isinstance" p) [e,ec] [] pos) (qE CT b ce):=(iR (yG V) hg hm OG.eW (bK he (bK hc fU h2) h1) (by decide) (by decide) h1 hpl).imp fun σ H Q hz=>my hz fun m ρ S u S' sr lr hc post=>by
 obtain⟨l,n,g1,g2,rfl⟩:=uH (K:=X.K) (Q:=fun _ _=>True) (m:=m) (H:=H) (σ:=σ) hc;refine⟨m,ρ,S,.ref l,S',sr,lr,g1,fun m1 v1 H1 e1 sr1 i1=>?_⟩;obtain⟨a,ha,rfl⟩:=i1.of_ref;obtain⟨a',ha',dx,ob,t,ho,hd,_⟩:=sr1.get g2;rw[ha]at ha';cases ha';exact⟨a,dx,ob,ho,hd,.inl ⟨C,b,rfl,hk,post m1 _ H1 e1 sr1 .bl_⟩⟩
theorem IJ{T:String}(V:XF X.K CT CG fI)(hk:PySem.W.kitOne X.K (.ref CT) (.type T)=some b)(he:QE X e ce)(hc:WE X ec (tC (.ty T)))(hg:Gl X "isinstance")(hm:X.mg "isinstance"=none)
  (h1:Q7 [e,ec] X.env=(false,eval e X.env)::Q7 [ec] X.env:=by rfl) (h2:Q7 [ec] X.env=(false,eval ec X.env)::Q7 [] X.env:=by rfl) (hpl:(Qa pos (Q7 [ec] X.env)).any (·.1)=false:=by rfl) :
  QE X (.Call (.Name "isinstance" p) [e,ec] [] pos) (qE CT b ce):=(iR (yG V) hg hm OG.eW (bK he (bK hc fU h2) h1) (by decide) (by decide) h1 hpl).imp fun σ H Q hz=>my hz fun m ρ S u S' sr lr hc post=>by
 obtain⟨l,n,g1,g2,rfl⟩:=uH (K:=X.K) (Q:=fun _ _=>True) (m:=m) (H:=H) (σ:=σ) hc;refine⟨m,ρ,S,.ref l,S',sr,lr,g1,fun m1 v1 H1 e1 sr1 i1=>?_⟩;obtain⟨a,ha,rfl⟩:=i1.of_ref;obtain⟨a',ha',dx,ob,t,ho,hd,_⟩:=sr1.get g2;rw[ha]at ha';cases ha';exact⟨a,dx,ob,ho,hd,.inr (.inl ⟨T,b,rfl,hk,post m1 _ H1 e1 sr1 .bl_⟩)⟩
theorem II{C1 C2 C3 C4:Addr}{e1 e2 e3 e4:QK}{x1}{tp:Pos}(V:XF X.K CT CG fI)(hk:PySem.W.kitAny X.K (.ref CT) [.ref C1,.ref C2,.ref C3,.ref C4]=some b)(he:QE X e ce)(hc1:WE X e1 (tC (.ref C1)))(hc2:WE X e2 (tC (.ref C2)))(hc3:WE X e3 (tC (.ref C3)))(hc4:WE X e4 (tC (.ref C4)))(hg:Gl X "isinstance")(hm:X.mg "isinstance"=none)
  (h1:Q7 [e,.Tuple [e1,e2,e3,e4] x1 tp] X.env=(false,eval e X.env)::Q7 [.Tuple [e1,e2,e3,e4] x1 tp] X.env:=by rfl) (h2:Q7 [.Tuple [e1,e2,e3,e4] x1 tp] X.env=(false,eval (.Tuple [e1,e2,e3,e4] x1 tp) X.env)::Q7 [] X.env:=by rfl) (hpl:(Qa pos (Q7 [.Tuple [e1,e2,e3,e4] x1 tp] X.env)).any (·.1)=false:=by rfl)
  (g1:Q7 [e1,e2,e3,e4] X.env=(false,eval e1 X.env)::Q7 [e2,e3,e4] X.env:=by rfl) (g2:Q7 [e2,e3,e4] X.env=(false,eval e2 X.env)::Q7 [e3,e4] X.env:=by rfl) (g3:Q7 [e3,e4] X.env=(false,eval e3 X.env)::Q7 [e4] X.env:=by rfl) (g4:Q7 [e4] X.env=(false,eval e4 X.env)::Q7 [] X.env:=by rfl) :
  QE X (.Call (.Name "isinstance" p) [e,.Tuple [e1,e2,e3,e4] x1 tp] [] pos) (qE CT b ce):=(iR (yG V) hg hm OG.eW (bK he (bK (xC (bK hc1 (bK hc2 (bK hc3 (bK hc4 fU g4) g3) g2) g1)) fU h2) h1) (by decide) (by decide) h1 hpl).imp fun σ H Q hz=>my hz fun m ρ S u S' sr lr hc post=>by
 obtain⟨l,n,g1,g2,rfl⟩:=uH (K:=X.K) (Q:=fun _ _=>True) (m:=m) (H:=H) (σ:=σ) hc;refine⟨m,ρ,S,.ref l,S',sr,lr,g1,fun m1 v1 H1 e1 sr1 i1=>⟨by show 4<=QB;unfold QB;decide,fun q hq=>?_⟩⟩;obtain⟨a,ha,rfl⟩:=i1.of_ref;obtain⟨a',ha',dx,ob,t,ho,hd,_⟩:=sr1.get g2;rw[ha]at ha';cases ha';have n1:a≠q:=fun z=>by rw[z,hq]at ho;cases ho
 have n2:dx≠q:=fun z=>by rw[z,hq]at hd;cases hd
 have sm:sJ H1 (upd H1 q (.tup [.ref C1,.ref C2,.ref C3,.ref C4])):=cS hq _;exact⟨a,dx,ob,by rw[aY n1];exact ho,by rw[aY n2];exact hd,.inr (.inr ⟨q,[C1,C2,C3,C4],b,rfl,SqT.of aU,hk,post m1 _ _ (e1.trans (.of (cV sm))) (sr1.same sm) .bl_⟩)⟩
def cAt(CT:Addr)(ce:CE):CE:=fun ρ S=>(ce ρ S).bind fun p=>match p.1 with
 |.ref l=>match p.2[l]? with
  |some (.xat D n)=>if D=CT then some (.int n,p.2)else none
  |_=>none
 |_=>none
theorem O8(V:XF X.K CT CG fI)(he:QE X e ce)(hb:attributeBase e "at" X.env (eval e X.env)=eval e X.env:=by rfl):QE X (.Attribute e "at" pos) (cAt CT ce):=
 (show WE X _ (fun σ H Q=>tE X.K ce σ H fun v H1=>∃a dx ob n t,v=.ref a/\H1 a=some (vI a CT dx)/\H1 dx=some (.frz ob (.own 0))/\sM ob (Fi (.int n t))/\Q (.int n) H1)from⟨fun pins s σ H Q I h=>by
  refine Ab hb (thn (he.h pins s σ H _ I h) fun u s1 hz=>?_);obtain⟨x,H1,I1,rx,a,dx,ob,n,t,ex,ha,hd,hn,q⟩:=hz;subst ex;obtain rfl:u=Value.ref a:=rx;obtain⟨ox,hin⟩:=vH I1.hok ha hd;obtain⟨gd,_⟩:dB X.prog X.w H1 s1.heap dx (.frz ob (.own 0)):=I1.hok dx _ hd;obtain⟨od,go,hl⟩:=rO (hn _ _ gd);rw[gd]at go;cases go;exact Kb (dx:=dx) I1.kIn V hin (hl _) rfl ⟨.int n,H1,I1.tok _,⟨t,rfl⟩,q⟩⟩).imp fun σ H Q hz=>my hz fun m ρ S u S' sr lr hc post=>by
 obtain⟨⟨x,S1⟩,h1,h2⟩:=Q0.mp hc;cases x with
 |ref l=>
  simp only at h2;split at h2<;>try cases h2
  rename_i D n hS;split at h2<;>try cases h2
  rename_i hd;subst hd;refine⟨m,ρ,S,.ref l,_,sr,lr,h1,fun m1 v1 H1 e1 sr1 i1=>?_⟩;obtain⟨a,ha,rfl⟩:=i1.of_ref;obtain⟨a',ha',dx,ob,t,ho,hdx,hn⟩:=sr1.get hS;rw[ha]at ha';cases ha';exact⟨a,dx,ob,n,t,rfl,ho,hdx,hn,post m1 _ H1 e1 sr1 .int_⟩
 |_=>cases h2
end
theorem WSs.or{X:Cx}{sts:List Qg}{t t':TS}(h:WSs X sts t)(h':WSs X sts t'):WSs X sts fun D σ H=>t D σ H\/t' D σ H:=⟨fun pins s σ H D I k=>k.elim (h.h pins s σ H D I) (h'.h pins s σ H D I)⟩
def iS(t:CT)(cb:CS)(xb:CR):Nat->CR
 |0=>fun _ _=>none
 |n+1=>fun ρ S=>(t ρ S).bind fun p=>if p.1=true then(match cb ρ p.2 with
  |some r=>(match r.1 with
   |.nx=>iS t cb xb n r.2.1 r.2.2
   |_=>none)
  |none=>xb ρ p.2)else none
def oG(g:CG)(cb:CS)(xb:CR):List U->CR
 |[]=>fun _ _=>none
 |u::us=>fun ρ S=>(g u ρ S).bind fun p=>match cb p.1 p.2 with
  |some r=>(match r.1 with
   |.nx=>oG g cb xb us r.2.1 r.2.2
   |_=>none)
  |none=>xb p.1 p.2
section
variable{X:Cx}{E:XK}{c tg iter:QK}{body:List Qg}{t:CT}{cb:CS}{xb:CR}{pos:Pos}{g:CG}{ci:CI}
theorem A0(n:Nat)(hp:PassesOwn (Qq X.prog X.w) X.A X.env X.xe)(hc:QT X c t)(hb:QSs X body cb)(hx:RSs X E body xb):RS X E (.While c body [] pos) (iS t cb xb n):=(qL hp hc (WSs.or hb hx)).imp fun D σ H hz=>by
 obtain⟨m,ρ,S,k,S',sr,lr,hc,post⟩:=hz;let W:Nat->L2.St->Hp->Prop:=fun n σ2 H2=>∃m2 ρ2 S2,Ext X.K m H m2 H2/\Sr X.K m2 S2 H2/\Lr X.K m2 H2 ρ2 σ2/\iS t cb xb n ρ2 S2=some (k,S')
 refine⟨W,⟨n,m,ρ,S,.refl,sr,lr,hc⟩,?_⟩;rintro j σ2 H2 ⟨m2,ρ2,S2,e2,sr2,lr2,hl⟩;cases j with
 |zero=>cases hl
 |succ j=>
  unfold iS at hl;obtain⟨⟨x,S3⟩,h3,hl⟩:=Q0.mp hl;refine⟨m2,ρ2,S2,x,S3,sr2,lr2,h3,fun m3 H3 e3 sr3=>?_⟩;have e13:=e2.trans e3;cases x with
  |true=>
   rw[if_pos rfl]at hl;refine Dd ?_;split at hl
   ·rename_i r h4;obtain⟨o4,ρ4,S4⟩:=r;refine⟨W j,(fun σ' H' w'=>⟨j,Nat.lt_succ_self _,w'⟩),.inl ⟨m3,ρ2,S3,o4,ρ4,S4,sr3,lr2.mono e3,h4,?_⟩⟩;cases o4 with
    |nx=>exact fun m5 σ5 H5 e5 sr5 lr5=>⟨m5,ρ4,S4,e13.trans e5,sr5,lr5,hl⟩
    |ct=>cases hl
    |bk=>cases hl
    |rt v=>cases hl
   ·exact⟨fun _ _=>False,(fun _ _ z=>z.elim),.inr ⟨m3,ρ2,S3,k,S',sr3,lr2.mono e3,hl,post.mono e13⟩⟩
  |false=>rw[if_neg QR]at hl;cases hl
open Classical in
def Cc(ci:CI)(g:CG)(cb:CS)(xb:CR):CR:=fun ρ S=>(ci ρ S).bind fun p=>if ∀S,p.2.1 S then oG g cb xb p.1 ρ p.2.2 else none
theorem Ir(hp:PassesOwn (Qq X.prog X.w) X.A X.env X.xe)(hc:X.calm=true)(hi:QI X tg iter ci)(hg:QG X tg g)(hb:QSs X body cb)(hx:RSs X E body xb)(hs:∀x,foldedSetIterable iter X.env x=pure x:=by intro _;rfl):RS X E (.For tg iter body [] pos) (Cc ci g cb xb):=(xy hp hc hi hg (WSs.or hb hx) hs).imp fun D σ H hz=>by
 obtain⟨m,ρ,S,k,S',sr,lr,hc,post⟩:=hz;obtain⟨⟨us,ok,S1⟩,h1,h2⟩:=Q0.mp hc;dsimp only at h2;split at h2;case isFalse=>cases h2
 rename_i hok;refine⟨m,ρ,S,us,ok,S1,sr,lr,h1,fun m1 H1 J e1 sr1 ito=>?_⟩;let W:Nat->Nat->L2.St->Hp->Prop:=fun i n σ2 H2=>n=us.length-i/\∃m2 ρ2 S2,Ext X.K m1 H1 m2 H2/\Sr X.K m2 S2 H2/\Lr X.K m2 H2 ρ2 σ2/\oG g cb xb (us.drop i) ρ2 S2=some (k,S')
 refine⟨W,⟨us.length,by simp,m1,ρ,S1,.refl,sr1,lr.mono e1,by simpa using h2⟩,?_⟩;rintro i n σ2 H2 ⟨rfl,m2,ρ2,S2,e2,sr2,lr2,hl⟩;by_cases hlt:i<us.length
 ·have hu:=Qr hlt;rw[n5 hu]at hl;unfold oG at hl;obtain⟨⟨ρ3,S3⟩,h3,hl⟩:=Q0.mp hl;obtain⟨hgo,hy⟩:=(ito m2 S2 H2 i e2 sr2 (hok S2)).1 _ hu;refine .inr ⟨hgo,?_⟩;split at hl
  ·rename_i r h4;obtain⟨o4,ρ4,S4⟩:=r;refine⟨W (i+1) (us.length-(i+1)),(fun σ' H' w'=>⟨_,by omega,w'⟩),fun x H3 y=>?_⟩;obtain⟨e3,sr3,ix⟩:=hy x H3 y;refine⟨m2,ρ2,S2,_,ρ3,S3,sr3,lr2.mono e3,ix,h3,fun m4 σ4 H4 e4 sr4 lr4=>.inl ⟨m4,ρ3,S3,o4,ρ4,S4,sr4,lr4,h4,?_⟩⟩;cases o4 with
   |nx=>exact fun m5 σ5 H5 e5 sr5 lr5=>⟨rfl,m5,ρ4,S4,((e2.trans e3).trans e4).trans e5,sr5,lr5,hl⟩
   |ct=>cases hl
   |bk=>cases hl
   |rt v=>cases hl
  ·refine⟨fun _ _=>False,(fun _ _ z=>z.elim),fun x H3 y=>?_⟩;obtain⟨e3,sr3,ix⟩:=hy x H3 y;exact⟨m2,ρ2,S2,_,ρ3,S3,sr3,lr2.mono e3,ix,h3,fun m4 σ4 H4 e4 sr4 lr4=>.inr ⟨m4,ρ3,S3,k,S',sr4,lr4,hl,post.mono (((e1.trans e2).trans e3).trans e4)⟩⟩
 ·rw[List.drop_of_length_le (by omega)]at hl;cases hl
end
def uO(c:CS)(x1 x2:CR):CR:=fun ρ S=>match c ρ S with
 |some r=>(match r.1 with
  |.nx=>x2 r.2.1 r.2.2
  |_=>none)
 |none=>x1 ρ S
theorem nF{X:Cx}{E:XK}{st:Qg}{sts:List Qg}{c:CS}{x1 x2:CR}(h0:QS X st c)(h1:RS X E st x1)(h2:RSs X E sts x2):RSs X E (st::sts) (uO c x1 x2):=⟨fun pins s σ H D I h=>by
 obtain⟨m,ρ,S,k,S',sr,lr,hc,post⟩:=h;unfold uO at hc;split at hc
 ·rename_i r hr;obtain⟨o,ρ1,S1⟩:=r;cases o with
  |nx=>exact(jF h0 h2).h pins s σ H D I ⟨m,ρ,S,k,S',sr,lr,(by unfold uP;rw[hr];exact hc),post⟩
  |_=>cases hc
 ·exact(eC h1).h pins s σ H D I ⟨m,ρ,S,k,S',sr,lr,hc,post⟩⟩
section
variable{CT:Addr}{X:Cx}{E:XK}{o e:QK}{co:CE}{x:CR}{apos cpos pos:Pos}{c:Cl}{mn:Str}{g:FnR}{k:Nat}{ps:List Str}{pl:Sem Bool}
def DM(co:CE)(x:CR):CR:=fun ρ S=>(co ρ S).bind fun p=>match p.1 with
 |.ref l=>match p.2[l]? with
  |some (.lst _)=>x ρ p.2
  |_=>none
 |_=>none
theorem CN(ho:QE X o co)(ha:RA X E [e] x)(hbase:attributeBase o "append" X.env (eval o X.env)=eval o X.env:=by rfl)(hfew:((Qa cpos (Q7 [e] X.env)).all (fun x=>!x.1)&&(backToKw cpos (keywordEach [] X.env)).all (fun x=>x.1.isSome)&&decide ([e].length+([]:List Keyword).length+(if ([]:List Keyword).isEmpty then 0 else 1)<30))=true:=by rfl)(hline:(apos.endLine == cpos.line)=true:=by rfl)(hs:Q7 [e] X.env=(false,eval e X.env)::Q7 [] X.env:=by rfl)(hplain:(Qa cpos (Q7 [] X.env)).any (·.1)=false:=by rfl) :
  RE X E (.Call (.Attribute o "append" apos) [e] [] cpos) (DM co x):=(qQ (r:=fun _ _ _ _=>False) PySem.F.plainAttrs_list PySem.F.slot_list_append PySem.F.type_list_append (fun _ _ _ _ _ _ _ _ _ _ _ _ z=>z.elim) ho ha hbase hfew hline hs hplain).imp fun σ H Q h=>by
 obtain⟨m,ρ,S,cl,S',sr,lr,hc,post⟩:=h;obtain⟨⟨u,S1⟩,h1,h2⟩:=Q0.mp hc;refine⟨m,ρ,S,u,S1,sr,lr,h1,fun m1 v1 H1 e1 sr1 i1=>?_⟩;cases u with
 |ref l=>
  simp only at h2;split at h2<;>try cases h2
  rename_i ws hS;obtain⟨a,ha,rfl⟩:=id i1.of_ref;obtain⟨a',ha',xs,hx,la⟩:=sr1.get hS;rw[ha]at ha';cases ha';exact⟨.inl ⟨rfl,xs,SqL.of hx⟩,m1,ρ,S1,cl,S',sr1,lr.mono e1,h2,post.mono e1⟩
 |_=>cases h2
theorem A7 (hcl : Cls X.K c.C) (F : dC CT X.prog X.w X.K X.mg X.base c mn k ps g) (hr : fZ k X.A) (hp : gK (CX1 CT X.prog X.w) X E) (hmn : mn ∉ c.ns) (ho : QE X o co) (ht : eval (.Call (.Attribute o mn apos) [] [] pos) X.env = (do
   let ov <-eval o X.env
   standAt apos.atName
   let (f,first) <-holding [ov] (getMethod ov mn pl)
   callWith pos f first (Qa pos (Q7 [] X.env)) (backToKw pos (keywordEach [] X.env))):=by rfl):RE X E (.Call (.Attribute o mn apos) [] [] pos) (gu c g co aB):=by
 obtain⟨fa,fd,hm,F,hb⟩:=F.ex;refine(qO ho hcl hm F hr hb .nil hp ht).imp fun σ H Q h=>?_;obtain⟨m,ρ,S,u,S',sr,lr,hc,k⟩:=rM (Q:=Q) hmn h;refine⟨m,ρ,S,u,S',sr,lr,hc,fun m1 v1 H1 e1 sr1 i1=>?_⟩;obtain⟨a,dx,fs,h1,h2,h3,m2,ρ2,S2,us,S3,sr2,lr2,h4,h5⟩:=k m1 v1 H1 e1 sr1 i1;cases h4;exact⟨a,dx,fs,h1,h2,h3,h5 m2 [] H1 .refl sr2 .nil_⟩
end
structure Co(K:Q1)(mg:Str->Option Q2)(CT CG CA CR CS CM fI:Addr):Prop where
 gt:mg "NoText"=some (.ref CT)
 gg:mg "GlanceError"=some (.ref CG)
 ga:mg "NoAttempt"=some (.ref CA)
 gr:mg "NoRow"=some (.ref CR)
 gs:mg "NoStep"=some (.ref CS)
 gm:mg "TooMany"=some (.ref CM)
 gv:mg "ValueError"=none
 xf:XF K CT CG fI
 ex:PySem.W.exmOne K (.ref CT) (.ref CG)=some true
 va:PySem.W.kitOne K (.ref CT) (.type "ValueError")=some true
 tt:PySem.W.kitOne K (.ref CT) (.ref CT)=some true
 oa:PySem.W.kitAny K (.ref CT) [.ref CA,.ref CR,.ref CS,.ref CM]=some false
structure NI(K:Q1)(CT CG CA CR CS CM fI:Addr):Prop where
 gt:PySem.W.nsIn K mainGlobals "NoText"=some (some (.ref CT))
 gg:PySem.W.nsIn K mainGlobals "GlanceError"=some (some (.ref CG))
 ga:PySem.W.nsIn K mainGlobals "NoAttempt"=some (some (.ref CA))
 gr:PySem.W.nsIn K mainGlobals "NoRow"=some (some (.ref CR))
 gs:PySem.W.nsIn K mainGlobals "NoStep"=some (some (.ref CS))
 gm:PySem.W.nsIn K mainGlobals "TooMany"=some (some (.ref CM))
 gv:PySem.W.nsIn K mainGlobals "ValueError"=some none
 xf:XF K CT CG fI
 ex:PySem.W.exmOne K (.ref CT) (.ref CG)=some true
 va:PySem.W.kitOne K (.ref CT) (.type "ValueError")=some true
 tt:PySem.W.kitOne K (.ref CT) (.ref CT)=some true
 oa:PySem.W.kitAny K (.ref CT) [.ref CA,.ref CR,.ref CS,.ref CM]=some false
theorem NI.k{K:Q1}{mg:Str->Option Q2}{h:Heap}{CT CG CA CR CS CM fI:Addr}(V:NI K CT CG CA CR CS CM fI)(X:K.In h)(G:h.Ns mainGlobals mg):Co K mg CT CG CA CR CS CM fI:=
 ⟨PySem.W.mg_of X G V.gt,PySem.W.mg_of X G V.gg,PySem.W.mg_of X G V.ga,PySem.W.mg_of X G V.gr,PySem.W.mg_of X G V.gs,PySem.W.mg_of X G V.gm,PySem.W.mg_none_of X G V.gv,V.xf,V.ex,V.va,V.tt,V.oa⟩
section
variable{X:Cx}{K:Q1}
def Eu(z:Str)(n:Nat):Str:=⟨(Q9 n z.cps).foldl (·++·) #[]⟩
def IA:V->V->Hp->VK->Prop:=fun x y H Q=>∃(z:Str) (k:Int),x=.str z/\y=.int k/\2<=k/\k<=1000/\z.length≠0/\z.length<=1000/\(Eu z k.toNat).length<=1000000/\Q (.str (Eu z k.toNat)) H
theorem Ff:OpR X (binaryOp .Mult) IA:=by
 rintro pins s σ H x y v u Q I rx ry ⟨z,k,rfl,rfl,h1,h2,h3,h4,h5,q⟩;obtain⟨t,rfl⟩:=(show ∃t,v=Value.str z t from rx);obtain⟨t',rfl⟩:=(show ∃t',u=Value.int k t' from ry);have hm:z.length*k.toNat<=1000*1000:=Nat.mul_le_mul h4 (by omega);have hd:¬((z.length:Int)>(2^63-1) / k):=by
  have:(1000:Int)<=(2^63-1) / k:=by rw[Int.le_ediv_iff_mul_le (by omega)];omega
  omega
 refine PySem.P.mul_str (by rw[decide_eq_false (by omega),decide_eq_false (by omega)];rfl) (fun _ _=>hd) (fun _ _=>?_) ?_
 ·unfold Builtin.Str.tooLong QB;simp only[decide_eq_false_iff_not,Nat.not_lt];omega
 ·rw[if_neg (by omega),if_neg (by simp only[Bool.or_eq_true,beq_iff_eq];omega)];exact⟨by show(Eu z k.toNat).length<=QB;unfold QB;omega,.str _,H,I.tok _,⟨_,rfl⟩,q⟩
def wQ:U->U->Sto->Option (U×Sto)
 |.str z,.int k,S=>if 2<=k/\k<=1000/\z.length≠0/\z.length<=1000/\(Eu z k.toNat).length<=1000000 then some (.str (Eu z k.toNat),S)else none
 |_,_,_=>none
theorem Jt:OpP K IA wQ:=by
 intro m S H x y v w u S' Q sr ix iy hf post;cases x<;>cases y<;>simp only[wQ]at hf<;>try cases hf
 rename_i z k;split at hf
 ·rename_i h;cases hf;exact⟨z,k,ix.of_str,iy.of_int,h.1,h.2.1,h.2.2.1,h.2.2.2.1,h.2.2.2.2,post m _ H .refl sr .str_⟩
 ·cases hf
end
end OP
namespace OQ
open PySem PySem.Spec PyProof.Rows L2 OG OP
def bz:CS:=
 (aT (bj 2 (fY (ae (cC (.int 0)) (ae (cOp gM (cOp fIx (ah 0) (cC (.int 0))) (cC (.int 1))) aB))))
  (aT (cE (aL (cOp fEq (ah 1) (cC (.str "look")))) (cm (fY (ae (cC (.tup [.int 0,.int 3])) (ae (ah 2) aB)))) bb)
  (aT (cE (aL (cOp fEq (ah 1) (cC (.str "put")))) (cm (fY (ae (ah 2) (ae (cC (.tup [.int 0,.int 3])) aB)))) bb)
  (aT (cE (aL (cOp fEq (ah 1) (cC (.str "set")))) (cm (fY (ae (cC (.tup [.int 0,.int 3])) (ae (fY (ae (cC (.int 0)) (ae (cOp gM (cOp fIx (ah 0) (cC (.int 1))) (cC (.int 1))) aB))) aB)))) bb)
  (aT (cE (aL (cOp fEq (ah 1) (cC (.str "plus")))) (cm (fY (ae (cC (.tup [.int 0,.int 3])) (ae (cC (.tup [.int 0,.int 3])) aB)))) bb)
  (aT (cE (aL (cOp fEq (ah 1) (cC (.str "leap")))) (cm (fY (ae (cC (.tup [.int 0,.int 3])) (ae (cC (.tup [.int 1,.int 12])) aB)))) bb)
  (aT (cE (aL (cOp fEq (ah 1) (cC (.str "wait")))) (cm (fY aB)) bb)
  (cm (cC .non)))))))))
def iq:CS:=
 (aT (cE (cOr (aL (cOp fEq (cCB sh (ae (ah 0) aB)) (cC (.int 0)))) (cOr (aL (cOp fGt (cCB sh (ae (ah 0) aB)) (cC (.int 4)))) (wV (aL (cCB F0 (ae (oO (Gi (ah 0)) (gNm 0) (cOp zu (ah 0) (cC (.str "0123456789"))) 1 []) aB)))))) (cm (cC .non)) bb)
  (aT (cE (qu (aL (cOp fEq (cOp Df (ah 0) (cC (.int 0))) (cC (.str "0")))) (aL (cOp fNe (ah 0) (cC (.str "0"))))) (cm (cC .non)) bb)
  (cm (cCB uw (ae (ah 0) aB)))))
def fQ(cReader:Cl):CS:=
 (aT (lB cReader 0 (ah 0) (ah 1))
  (aT (lB cReader 1 (ah 0) (ah 2))
  (aT (lB cReader 2 (ah 0) (cC (.int 0)))
  (lB cReader 3 (ah 0) (cC (.int 0))))))
def fP(cReader:Cl):CS:=
 (aT (cE (aL (cOp fLt (jx cReader 2 (ah 0)) (cCB gN (ae (jx cReader 1 (ah 0)) aB)))) (cm (cOp fIx (jx cReader 1 (ah 0)) (jx cReader 2 (ah 0)))) bb)
  (cm (cC (.str ""))))
def fC:CS:=
 (cE (wV (aL (ah 1))) zV bb)
def gH(cReader:Cl):CS:=
 (lB cReader 2 (ah 0) (cOp bI (jx cReader 2 (ah 0)) (cC (.int 1))))
def cK(bY aA ao aw:Fn)(cReader:Cl):CS:=
 (aT (bj 2 (cCB bY (ae (bc cReader aA (ah 0) aB) aB)))
  (aT (bp (bc cReader ao (ah 0) (ae (gI (cOp gE (ah 2) (cC .non)) (ji fLe fLe (cOp fIx (ah 1) (cC (.int 0))) (ah 2) (cOp fIx (ah 1) (cC (.int 1))))) aB)))
  (aT (bp (bc cReader aw (ah 0) aB))
  (cm (ah 2)))))
def bq(bx aA aP ao aw aJ:Fn)(cReader:Cl):CS:=
 (bp (cBM bJ (ah 4) (ae (bc cReader aJ (ah 0) (ae (ah 5) aB)) aB)))
def bF(bx aA aP ao aw aJ:Fn)(cReader:Cl):CS:=
 (aT (bj 2 (bc cReader aA (ah 0) aB))
  (aT (cE (aL (cOp fEq (ah 2) (cC (.str "try")))) (cm (bc cReader aP (ah 0) (ae (ah 1) aB))) bb)
  (aT (bj 3 (cCB bx (ae (jx cReader 0 (ah 0)) (ae (ah 2) aB))))
  (aT (bp (bc cReader ao (ah 0) (ae (cOp gE (ah 3) (cC .non)) aB)))
  (aT (bp (bc cReader aw (ah 0) aB))
  (aT (bj 4 (b7 (ae (ah 2) aB)))
  (aT (gO (iTp (ah 3)) (gNm 5) (bq bx aA aP ao aw aJ cReader))
  (cm (cCB mh (ae (ah 4) aB))))))))))
def cf(ao aw aF:Fn)(cReader:Cl):CS:=
 (aT (bp (bc cReader ao (ah 0) (ae (cOp fGt (ah 1) (cC (.int 0))) aB)))
  (aT (bp (bc cReader aw (ah 0) aB))
  (aT (bj 2 (bc cReader aF (ah 0) (ae (cOp gM (ah 1) (cC (.int 1))) aB)))
  (aT (bj 3 (bc cReader aF (ah 0) (ae (cOp gM (ah 1) (cC (.int 1))) aB)))
  (cm (fY (ae (cC (.str "try")) (ae (ah 2) (ae (ah 3) aB)))))))))
def bA(ao aA aw aN:Fn)(cReader:Cl)(fuel:Nat):CS:=
 (aT (bp (bc cReader ao (ah 0) (ae (gI (cOp fLt (cCB gN (ae (ah 2) aB)) (cC (.int 12))) (cOp fLt (jx cReader 3 (ah 0)) (cC (.int 40)))) aB)))
  (aT (lB cReader 3 (ah 0) (cOp bI (jx cReader 3 (ah 0)) (cC (.int 1))))
  (bp (cBM bJ (ah 2) (ae (bc cReader aN (ah 0) (ae (ah 1) aB)) aB)))))
def cM(ao aA aw aN:Fn)(cReader:Cl)(fuel:Nat):CS:=
 (aT (bp (bc cReader ao (ah 0) (ae (cOp fEq (bc cReader aA (ah 0) aB) (cC (.str "("))) aB)))
  (aT (bp (bc cReader aw (ah 0) aB))
  (aT (bj 2 (b7 aB))
  (aT (e8 (aL (cOp fNe (bc cReader aA (ah 0) aB) (cC (.str ")")))) (bA ao aA aw aN cReader fuel) fuel)
  (aT (bp (bc cReader aw (ah 0) aB))
  (cm (cCB mh (ae (ah 2) aB))))))))
def cN(aF ao:Fn)(cReader:Cl):CS:=
 (aT (bj 1 (bc cReader aF (ah 0) (ae (cC (.int 3)) aB)))
  (aT (bp (bc cReader ao (ah 0) (ae (cOp fEq (jx cReader 2 (ah 0)) (cCB gN (ae (jx cReader 1 (ah 0)) aB))) aB)))
  (cm (ah 1))))
def fB(aX bt:Fn)(cReader:Cl):CS:=
 (cm (bc cReader aX (cCB (qp cReader bt) (ae (ah 0) (ae (cBS fN (ah 1) (ae (cC (.str " ")) aB)) aB))) aB))
def cy(b9:Fn):CS:=
 (cE (aL (cOp fEq (cOp fIx (ah 2) (cC (.int 0))) (cC (.str "try")))) (bp (cBM cL (ah 1) (ae (cCB b9 (ae (ah 3) aB)) aB))) (bp (cBM bJ (ah 1) (ae (cCB mj (ae (ah 3) aB)) aB))))
def eK(b9:Fn):CS:=
 (aT (bp (cBM bJ (ah 1) (ae (cOp fIx (ah 2) (cC (.int 0))) aB)))
  (gO (iTp (cSl (ah 2) (some (cC (.int 1))) none)) (gNm 3) (cy b9)))
def lA(b9:Fn):CS:=
 (aT (bj 1 (b7 (ae (cC (.str "(")) aB)))
  (aT (gO (iTp (ah 0)) (gNm 2) (eK b9))
  (aT (bp (cBM bJ (ah 1) (ae (cC (.str ")")) aB)))
  (cm (ah 1)))))
def gF(b9:Fn):CS:=
 (cm (cBS kG (cC (.str " ")) (ae (cCB b9 (ae (ah 0) aB)) aB)))
def cX(aR:Fn):CS:=
 (cE (aL (cOp fEq (cOp fIx (ah 2) (cC (.int 0))) (cC (.str "try")))) (bj 1 (cOp bI (cOp bI (cOp bI (ah 1) (b7 (ae (cC (.str "try")) aB))) (cCB aR (ae (cOp fIx (ah 2) (cC (.int 1))) aB))) (cCB aR (ae (cOp fIx (ah 2) (cC (.int 2))) aB)))) (bj 1 (cOp bI (cOp bI (ah 1) (b7 (ae (cOp fIx (ah 2) (cC (.int 0))) aB))) (oO (iTp (cSl (ah 2) (some (cC (.int 1))) none)) (gNm 0) (cCB mj (ae (ah 0) aB)) 1 []))))
def jg(aR:Fn):CS:=
 (aT (bj 1 (b7 (ae (cC (.str "(")) aB)))
  (aT (gO (iTp (ah 0)) (gNm 2) (cX aR))
  (cm (cOp bI (ah 1) (b7 (ae (cC (.str ")")) aB))))))
def iA:CS:=
 (aT (cE (aL (cOp fEq (cOp fIx (ah 0) (cC (.int 2))) (cC (.int 0)))) (aT (bj 2 (cOp fIx (ah 0) (cC (.int 1))))
  (aT (iL (ah 0) (cC (.int 1)) (cOp bI (ah 2) (cC (.int 1))))
  (aT (bj 3 (cC (.int 0)))
  (aT (cE (aL (cOp fLt (ah 2) (cCB gN (ae (cOp fIx (ah 0) (cC (.int 0))) aB)))) (bj 3 (cOp fIx (cOp fIx (ah 0) (cC (.int 0))) (ah 2))) (cE (aL (cOp fGt (cCB gN (ae (cOp fIx (ah 0) (cC (.int 0))) aB)) (cC (.int 0)))) (bj 3 (cOp bI (cOp se (cOp fIx (cOp fIx (ah 0) (cC (.int 0))) (cOp se (cOp nW (ah 2) (cC (.int 3))) (cCB gN (ae (cOp fIx (ah 0) (cC (.int 0))) aB)))) (cC (.int 1000003))) (cOp nW (cC (.int 97)) (ah 2)))) bb))
  (aT (bj 4 (cOp se (cOp nW (cOp bI (cOp bI (cOp se (ah 3) (cC (.int 998244353))) (cOp nW (cC (.int 53)) (ah 2))) (cC (.int 1))) (cC (.int 48271))) (cC (.int 2147483647))))
  (aT (bj 5 (cOp se (cOp bI (cOp bI (cOp nW (ah 4) (ah 4)) (cOp nW (cC (.int 69621)) (ah 2))) (cC (.int 5))) (cC (.int 1000000007))))
  (aT (bj 6 (cOp se (cOp bI (cOp nW (ah 5) (ah 5)) (ah 4)) (cC (.int 998244353))))
  (aT (iL (ah 0) (cC (.int 2)) (cOp bI (cOp BV (cOp bI (cOp nW (ah 5) (cC (.int 998244353))) (ah 6)) (cC (.int 16))) (cC (.int 1))))
  (cE (aL (cOp fGe (ah 3) (cOp Gj (cC (.int 10)) (cC (.int 18))))) (iL (ah 0) (cC (.int 2)) (cOp BV (ah 3) (cOp Gj (cC (.int 10)) (cC (.int 18))))) bb))))))))) bb)
  (aT (bj 7 (cOp se (cOp fIx (ah 0) (cC (.int 2))) (ah 1)))
  (aT (iL (ah 0) (cC (.int 2)) (cOp BV (cOp fIx (ah 0) (cC (.int 2))) (ah 1)))
  (cm (ah 7)))))
def jf(aC:Fn):CS:=
 (cm (fY (ae (cOp bI (cC (.int 1)) (cCB aC (ae (ah 0) (ae (cC (.int 6)) aB)))) (ae (cOp fIx (b7 (ae (cC (.int 2)) (ae (cC (.int 3)) (ae (cC (.int 5)) (ae (cC (.int 10)) (ae (cOp bI (cC (.int 2)) (cCB aC (ae (ah 0) (ae (cC (.int 999)) aB)))) aB)))))) (cCB aC (ae (ah 0) (ae (cC (.int 5)) aB)))) aB))))
def fR(a9:Fn):CS:=
 (aT (bj 1 (cOp bI (ah 1) (cC (.int 1))))
  (cE (aL (cOp fEq (cOp fIx (ah 2) (cC (.int 0))) (cC (.str "try")))) (bj 1 (cOp bI (cOp bI (ah 1) (cCB a9 (ae (cOp fIx (ah 2) (cC (.int 1))) aB))) (cCB a9 (ae (cOp fIx (ah 2) (cC (.int 2))) aB)))) bb))
def j3(a9:Fn):CS:=
 (aT (bj 1 (cC (.int 0)))
  (aT (gO (iTp (ah 0)) (gNm 2) (fR a9))
  (cm (ah 1))))
def bN(aC:Fn):CS:=
 (aT (cE (aL (cOp fLt (ah 2) (cC (.int 4)))) (cm (fY (ae (cC (.str "look")) (ae (ah 3) (ae (cCB aC (ae (ah 0) (ae (cOp fIx (ah 1) (cC (.int 0))) aB))) aB))))) bb)
  (aT (cE (aL (cOp fLt (ah 2) (cC (.int 7)))) (cm (fY (ae (cC (.str "put")) (ae (cCB aC (ae (ah 0) (ae (cOp fIx (ah 1) (cC (.int 0))) aB))) (ae (ah 3) aB))))) bb)
  (aT (cE (aL (cOp fLt (ah 2) (cC (.int 9)))) (cm (fY (ae (cC (.str "set")) (ae (ah 3) (ae (cCB aC (ae (ah 0) (ae (cOp fIx (ah 1) (cC (.int 1))) aB))) aB))))) bb)
  (aT (cE (aL (cOp fLt (ah 2) (cC (.int 11)))) (cm (fY (ae (cC (.str "plus")) (ae (ah 3) (ae (cCB aC (ae (ah 0) (ae (cC (.int 4)) aB))) aB))))) bb)
  (cm (fY (ae (cC (.str "leap")) (ae (ah 3) (ae (cOp bI (cC (.int 1)) (cCB aC (ae (ah 0) (ae (cOp fIx (b7 (ae (cC (.int 2)) (ae (cC (.int 12)) aB))) (cCB aC (ae (ah 0) (ae (cC (.int 2)) aB)))) aB)))) aB)))))))))
def eE(aC bC aI a9:Fn):CS:=
 (aT (bj 7 (cCB aC (ae (ah 0) (ae (cC (.int 16)) aB))))
  (aT (bj 8 (cCB aC (ae (ah 0) (ae (cC (.int 4)) aB))))
  (cE (qu (aL (cOp fGt (ah 5) (cC (.int 0)))) (qu (aL (cOp fLt (cCB gN (ae (ah 4) aB)) (cC (.int 12)))) (aL (cOp fLt (ah 7) (cC (.int 13)))))) (aT (bp (cBM bJ (ah 4) (ae (cCB bC (ae (ah 0) (ae (ah 1) (ae (ah 7) (ae (ah 8) aB))))) aB)))
  (bj 5 (cOp gM (ah 5) (cC (.int 1))))) (cE (qu (aL (cOp fGt (ah 5) (cC (.int 0)))) (qu (aL (cOp fLt (cCB gN (ae (ah 4) aB)) (cC (.int 12)))) (cOr (aL (cOp fEq (ah 7) (cC (.int 13)))) (aL (cOp fEq (ah 3) (cC (.int 0))))))) (aT (cE (qu (aL (cOp fGt (ah 5) (cC (.int 1)))) (qu (aL (cOp fLt (cCB gN (ae (ah 4) aB)) (cC (.int 11)))) (aL (cOp fGt (cCB aC (ae (ah 0) (ae (cC (.int 4)) aB))) (cC (.int 0)))))) (aT (bp (cBM bJ (ah 4) (ae (fY (ae (cC (.str "leap")) (ae (ah 8) (ae (cC (.int 1)) aB)))) aB)))
  (bj 5 (cOp gM (ah 5) (cC (.int 1))))) bb)
  (aT (bp (cBM bJ (ah 4) (ae (fY (ae (cC (.str "wait")) aB)) aB)))
  (bj 5 (cOp gM (ah 5) (cC (.int 1)))))) (cE (qu (aL (cOp fGt (ah 5) (cC (.int 0)))) (aL (cOp fLt (cCB gN (ae (ah 4) aB)) (cC (.int 12))))) (aT (bj 9 (cCB aI (ae (ah 0) (ae (ah 1) (ae (cCB aC (ae (ah 0) (ae (ah 5) aB))) (ae (cOp gM (ah 3) (cC (.int 1))) aB))))))
  (aT (bj 5 (cOp gM (cOp gM (ah 5) (cC (.int 1))) (cCB a9 (ae (ah 9) aB))))
  (aT (bj 10 (cCB aI (ae (ah 0) (ae (ah 1) (ae (cCB aC (ae (ah 0) (ae (cOp bI (ah 5) (cC (.int 1))) aB))) (ae (cOp gM (ah 3) (cC (.int 1))) aB))))))
  (aT (bj 5 (cOp gM (ah 5) (cCB a9 (ae (ah 10) aB))))
  (bp (cBM bJ (ah 4) (ae (fY (ae (cC (.str "try")) (ae (ah 9) (ae (ah 10) aB)))) aB))))))) bb)))))
def gG(aC bC aI a9:Fn):CS:=
 (aT (bj 4 (b7 aB))
  (aT (bj 5 (ah 2))
  (aT (gO (ib (ae (cCB aC (ae (ah 0) (ae (cOp bI (cCB Nl (ae (cC (.int 12)) (ae (ah 2) aB))) (cC (.int 1))) aB))) aB)) (gNm 6) (eE aC bC aI a9))
  (cm (cCB mh (ae (ah 4) aB))))))
end OQ
local macro_rules
 | `(tactic| rwa $s:rwRuleSeq) => do
  let ts : Array (Lean.TSyntax `term) := s.raw[1].getSepArgs.map fun r => ⟨r[1]⟩
  let us : Array (Lean.TSyntax `term) := (("Lg Gu x_c GL As Ar Cp xl Mf Ho Hn OB Lz Ly LA GO Hm DL DK Lx GK GJ GN Du sT ke jM jL Lh Gy GR Cs NM Hj LP GX Gz GG Cq GF GD GC Hb DG Lu GH sV qJ xp OO LU LS xn qG Md Hl Hk LW LV Ht Hq Ou Ln Lm Ll Lk LL LM LN LO Lj GA GB GU GV GW GS Mg Li ON KJ OR OS L5 LC Ha LB L6 LD LY LX at0 at1 at2 at3 ix0 ix1 ix2 Option.bind_some List.getElem?_cons_zero List.getElem?_cons_succ List.set_cons_zero List.set_cons_succ List.length_cons List.length_nil List.map_cons List.map_nil decide_true decide_false Bool.not_true Bool.not_false LZ G9 GZ Ov Lq Lp Lo GQ Dy Dx Dw Dz LQ LR LK Ct OT Mb Ma L9 Me NL Hi Hh Hg Hf He Hc OA x_p Oy Ox Ow xq DJ DI Gv Gw Gx DB DC DD GY ga ga0 gs gs0 Option.join_some Nat.add_zero List.cons_append List.nil_append List.append_assoc" : String).splitOn " ").toArray.map fun x => ⟨(Lean.mkIdent ((x.splitOn ".").foldl Lean.Name.str Lean.Name.anonymous)).raw⟩
  let vs:=ts++us
  `(tactic| simp only [$[$vs:term],*])
namespace OQ
open PySem PySem.Spec PyProof.Rows L2 OG OP
def pen(a c:Int):O:=.lst [.ref 0,.int a,.int c]
section
variable{S:Sto}{j k:Int}
def xo(h:-(2^64)<k/\k<2^64):nW (.int j) (.int k) S=some (.int (j*k),S):=GP (.inr h)
def qH(h:-(2^64)<j/\j<2^64):nW (.int j) (.int k) S=some (.int (j*k),S):=GP (.inl h)
def OM:nW (.int j) (.int 3) S=some (.int (j*3),S):=xo (by decide)
def LH:nW (.int 97) (.int k) S=some (.int (97*k),S):=qH (by decide)
def LJ:nW (.int 53) (.int k) S=some (.int (53*k),S):=qH (by decide)
def OK:nW (.int j) (.int 48271) S=some (.int (j*48271),S):=xo (by decide)
def OJ:nW (.int 69621) (.int k) S=some (.int (69621*k),S):=qH (by decide)
def OI:nW (.int j) (.int 998244353) S=some (.int (j*998244353),S):=xo (by decide)
theorem LG:nW (.int (j % 2147483647)) (.int k) S=some (.int (j % 2147483647*k),S):=qH (by have:=Int.emod_nonneg j (show(2147483647:Int)≠0 by decide);have:=Int.emod_lt_of_pos j (show(0:Int)<2147483647 by decide);omega)
theorem LF:nW (.int (j % 1000000007)) (.int k) S=some (.int (j % 1000000007*k),S):=qH (by have:=Int.emod_nonneg j (show(1000000007:Int)≠0 by decide);have:=Int.emod_lt_of_pos j (show(0:Int)<1000000007 by decide);omega)
def OF:se (.int j) (.int 998244353) S=some (.int (j % 998244353),S):=vV (by decide)
def OE:se (.int j) (.int 2147483647) S=some (.int (j % 2147483647),S):=vV (by decide)
def OD:se (.int j) (.int 1000000007) S=some (.int (j % 1000000007),S):=vV (by decide)
def OC:se (.int j) (.int 1000003) S=some (.int (j % 1000003),S):=vV (by decide)
def L8:BV (.int j) (.int 16) S=some (.int (j / 16),S):=DH ⟨by decide,by decide +kernel⟩
theorem GI:Gj (.int 10) (.int 18) S=some (.int 1000000000000000000,S):=Lw (j:=10) (k:=18) ⟨by decide,by decide,by decide⟩
theorem L7:BV (.int j) (.int 1000000000000000000) S=some (.int (j / 1000000000000000000),S):=DH ⟨by decide,by decide +kernel⟩
theorem atU{ns:List Int}{k:Int}(h0:0<=k)(h1:k<(ns.length:Int)):∃v:Int,atI (ns.map U.int) k=some (.int v):=by
 have hk:k.toNat<ns.length:=by omega
 exact⟨ns[k.toNat],Ks h0 (by rw[Z0,Qr hk];rfl)⟩
end
def cP:Fn:=fnU 8 2 iA
theorem cg(ns:List Int)(T:Sto){a c m:Int}(ha:0<=a)(hc:0<=c)(hm:0<m)(hb:m.natAbs.log2<9000) :
  ∃f a' c',cP [.ref 1,.int m] (.lst (ns.map U.int)::pen a c::T)=some (.int f,.lst (ns.map U.int)::pen a' c'::T)/\0<=f/\f<m/\0<=a'/\0<=c':=by
 unfold cP;rw[Nn];have dm:∀{j:Int} {S:Sto},BV (.int j) (.int m) S=some (.int (j / m),S):=DH ⟨hm,hb⟩;have mm:∀{j:Int} {S:Sto},se (.int j) (.int m) S=some (.int (j % m),S):=vV hm;have fin:∀{a' c':Int},0<=a'->0<=c'->0<=c' % m/\c' % m<m/\0<=a'/\0<=c' / m:=fun h1 h2=>⟨Int.emod_nonneg _ (by omega),Int.emod_lt_of_pos _ hm,h1,Int.ediv_nonneg h2 (by omega)⟩;by_cases c0:c=0
 ·subst c0;have cell : ∃ z : Int, (cE (aL (cOp fLt (ah 2) (cCB gN (ae (cOp fIx (ah 0) (cC (U.int 0))) aB))))
              (bj 3 (cOp fIx (cOp fIx (ah 0) (cC (U.int 0))) (ah 2)))
              (cE
               (aL (cOp fGt (cCB gN (ae (cOp fIx (ah 0) (cC (U.int 0))) aB)) (cC (U.int 0))))
               (bj 3
                (cOp bI
                 (cOp se
                  (cOp fIx (cOp fIx (ah 0) (cC (U.int 0)))
                   (cOp se (cOp nW (ah 2) (cC (U.int 3)))
                    (cCB gN (ae (cOp fIx (ah 0) (cC (U.int 0))) aB))))
                  (cC (U.int 1000003)))
                 (cOp nW (cC (U.int 97)) (ah 2))))
               bb)) [some (.ref 1),some (.int m),some (.int a),some (.int 0),none,none,none,none] (O.lst (ns.map U.int)::.lst [.ref 0,.int (a+1),.int 0]::T)=some (.nx,[some (.ref 1),some (.int m),some (.int a),some (.int z),none,none,none,none],O.lst (ns.map U.int)::.lst [.ref 0,.int (a+1),.int 0]::T):=by
   by_cases h1:a<(ns.length:Int)
   ·obtain⟨z,hz⟩:=atU ha h1;exact⟨z,by rwa[hz,h1,QV]⟩
   ·by_cases h2:(0:Int)<(ns.length:Int)
    ·obtain⟨z,hz⟩:=atU (ns:=ns) (k:=a*3 % (ns.length:Int)) (Int.emod_nonneg _ (by omega)) (Int.emod_lt_of_pos _ h2);exact⟨z % 1000003+97*a,by rwa[h1,h2,OM,vV h2,hz,OC,LH,QV]⟩
    ·exact⟨0,by rwa[h1,h2,QV]⟩
  obtain⟨z,hz⟩:=cell;rwa[iA,pen,hz,OF,OE,OD,LJ,OK,OJ,OI,LG,LF,L8,GI];by_cases h3:(1000000000000000000:Int)<=z
  ·rwa[h3,GI,L7,mm,dm];exact⟨_,_,_,rfl,fin (by omega) (Int.ediv_nonneg (by omega) (by omega))⟩
  ·rwa[h3,mm,dm];refine⟨_,_,_,rfl,fin (by omega) ?_⟩;exact Int.add_nonneg (Int.ediv_nonneg (Int.add_nonneg (Int.mul_nonneg (Int.emod_nonneg _ (by decide)) (by decide)) (Int.emod_nonneg _ (by decide))) (by decide)) (by decide)
 ·rwa[iA,pen,c0,mm,dm];exact⟨_,_,_,rfl,fin ha hc⟩
def l9{m:Int}(h0:0<=m)(h:m<2^60):m.natAbs.log2<9000:=yQ h0 h
abbrev scr(ns:List Int):O:=.lst (ns.map U.int)
theorem MC{f g:Int}(g0:0<=g)(g1:g<999)(f0:0<=f)(f1:f<5):∃v:Int,atI [U.int 2,U.int 3,U.int 5,U.int 10,U.int (2+g)] f=some (.int v)/\2<=v/\v<=1000:=by
 have:f=0\/f=1\/f=2\/f=3\/f=4:=by omega
 rcases this with rfl|rfl|rfl|rfl|rfl
 ·exact⟨2,rfl,by omega,by omega⟩
 ·exact⟨3,rfl,by omega,by omega⟩
 ·exact⟨5,rfl,by omega,by omega⟩
 ·exact⟨10,rfl,by omega,by omega⟩
 ·exact⟨2+g,rfl,by omega,by omega⟩
def jm:Fn:=fnU 1 1 (jf cP)
theorem AH(ns:List Int)(T:Sto){a c:Int}(ha:0<=a)(hc:0<=c) :
  ∃n w a' c' G,jm [.ref 1] (scr ns::pen a c::T)=some (.tup [.int n,.int w],scr ns::pen a' c'::(T++G))/\1<=n/\n<=6/\2<=w/\w<=1000/\0<=a'/\0<=c':=by
 unfold jm;rw[uA];obtain⟨f1,a1,c1,h1,p1,q1,ha1,hc1⟩:=cg ns T (m:=6) ha hc (by decide) (by decide +kernel);obtain⟨f2,a2,c2,h2,p2,q2,ha2,hc2⟩:=cg ns T (m:=999) ha1 hc1 (by decide) (by decide +kernel);obtain⟨f3,a3,c3,h3,p3,q3,ha3,hc3⟩:=cg ns (T++[.lst [.int 2,.int 3,.int 5,.int 10,.int (2+f2)]]) (m:=5) ha2 hc2 (by decide) (by decide +kernel);obtain⟨v,hv,v0,v1⟩:=MC p2 q2 p3 q3;refine⟨1+f1,v,a3,c3,[.lst [.int 2,.int 3,.int 5,.int 10,.int (2+f2)]],?_,by omega,by omega,v0,v1,ha3,hc3⟩;rwa[jf,h1,h2,h3,hv]
inductive fH where
 |look (h b:Int)|put (b h:Int)|set (h v:Int)|plus (h g:Int)|leap (h k:Int)|wait
def fH.u:fH->U
 |.look h b=>.tup [.str "look",.int h,.int b]
 |.put b h=>.tup [.str "put",.int b,.int h]
 |.set h v=>.tup [.str "set",.int h,.int v]
 |.plus h g=>.tup [.str "plus",.int h,.int g]
 |.leap h k=>.tup [.str "leap",.int h,.int k]
 |.wait=>.tup [.str "wait"]
def fH.ok(n w:Int):fH->Prop
 |.look h b=>0<=h/\h<4/\0<=b/\b<n
 |.put b h=>0<=h/\h<4/\0<=b/\b<n
 |.set h v=>0<=h/\h<4/\0<=v/\v<w
 |.plus h g=>0<=h/\h<4/\0<=g/\g<4
 |.leap h k=>0<=h/\h<4/\1<=k/\k<=12
 |.wait=>True
def lG:Fn:=fnU 4 4 (bN cP)
theorem Bk(ns:List Int)(T:Sto){a c n w way hand:Int}(ha:0<=a)(hc:0<=c)(n0:1<=n)(n1:n<=6)(w0:2<=w)(w1:w<=1000)(y0:0<=way)(h0:0<=hand)(h1:hand<4) :
  ∃(d:fH) (a' c':Int) (G:Sto),lG [.ref 1,.tup [.int n,.int w],.int way,.int hand] (scr ns::pen a c::T)=some (d.u,scr ns::pen a' c'::(T++G))/\d.ok n w/\0<=a'/\0<=c':=by
 unfold lG;rw[Nr];by_cases c4:way<4
 ·obtain⟨f,a1,c1,e1,p1,q1,ha1,hc1⟩:=cg ns T (m:=n) ha hc (by omega) (l9 (by omega) (by omega));exact⟨.look hand f,a1,c1,[],by rwa[bN,c4,e1,fH.u,QN],⟨h0,h1,p1,q1⟩,ha1,hc1⟩
 by_cases c7:way<7
 ·obtain⟨f,a1,c1,e1,p1,q1,ha1,hc1⟩:=cg ns T (m:=n) ha hc (by omega) (l9 (by omega) (by omega));exact⟨.put f hand,a1,c1,[],by rwa[bN,c4,c7,e1,fH.u,QN],⟨h0,h1,p1,q1⟩,ha1,hc1⟩
 by_cases c9:way<9
 ·obtain⟨f,a1,c1,e1,p1,q1,ha1,hc1⟩:=cg ns T (m:=w) ha hc (by omega) (l9 (by omega) (by omega));exact⟨.set hand f,a1,c1,[],by rwa[bN,c4,c7,c9,e1,fH.u,QN],⟨h0,h1,p1,q1⟩,ha1,hc1⟩
 by_cases c11:way<11
 ·obtain⟨f,a1,c1,e1,p1,q1,ha1,hc1⟩:=cg ns T (m:=4) ha hc (by omega) (l9 (by omega) (by omega));exact⟨.plus hand f,a1,c1,[],by rwa[bN,c4,c7,c9,c11,e1,fH.u,QN],⟨h0,h1,p1,q1⟩,ha1,hc1⟩
 obtain⟨f,a1,c1,e1,p1,q1,ha1,hc1⟩:=cg ns (T++[.lst [.int 2,.int 12]]) (m:=2) ha hc (by decide) (by decide +kernel);have key:∃z:Int,atI [U.int 2,U.int 12] f=some (.int z)/\0<z/\z<=12:=by
  have:f=0\/f=1:=by omega
  rcases this with rfl|rfl
  ·exact⟨2,rfl,by omega,by omega⟩
  ·exact⟨12,rfl,by omega,by omega⟩
 obtain⟨z,hz,z0,z1⟩:=key;obtain⟨g,a2,c2,e2,p2,q2,ha2,hc2⟩:=cg ns (T++[.lst [.int 2,.int 12]]) (m:=z) ha1 hc1 z0 (l9 (by omega) (by omega));exact⟨.leap hand (1+g),a2,c2,[.lst [.int 2,.int 12]],by rwa[bN,c4,c7,c9,c11,e1,e2,hz,fH.u],⟨h0,h1,by omega,by omega⟩,ha2,hc2⟩
def vU(fd fs:Fn):Fn:=fnU 11 4 (gG cP lG fd fs)
def lM:decide (("wait":Str)="leap")=false:=by decide +kernel
def mQ:decide (("wait":Str)="try")=false:=by decide +kernel
def lL:decide (("wait":Str)="look")=false:=by decide +kernel
def mS:decide (("wait":Str)="put")=false:=by decide +kernel
def mR:decide (("wait":Str)="set")=false:=by decide +kernel
def lK:decide (("wait":Str)="plus")=false:=by decide +kernel
def lU:decide (("leap":Str)="wait")=false:=by decide +kernel
def nv:decide (("leap":Str)="try")=false:=by decide +kernel
def lW:decide (("leap":Str)="look")=false:=by decide +kernel
def nA:decide (("leap":Str)="put")=false:=by decide +kernel
def nz:decide (("leap":Str)="set")=false:=by decide +kernel
def lV:decide (("leap":Str)="plus")=false:=by decide +kernel
def mV:decide (("try":Str)="wait")=false:=by decide +kernel
def mZ:decide (("try":Str)="leap")=false:=by decide +kernel
def mX:decide (("try":Str)="look")=false:=by decide +kernel
def oZ:decide (("try":Str)="put")=false:=by decide +kernel
def oY:decide (("try":Str)="set")=false:=by decide +kernel
def mW:decide (("try":Str)="plus")=false:=by decide +kernel
def lR:decide (("look":Str)="wait")=false:=by decide +kernel
def lT:decide (("look":Str)="leap")=false:=by decide +kernel
def jP:decide (("look":Str)="try")=false:=by decide +kernel
def nu:decide (("look":Str)="put")=false:=by decide +kernel
def nr:decide (("look":Str)="set")=false:=by decide +kernel
def lS:decide (("look":Str)="plus")=false:=by decide +kernel
def ng:decide (("put":Str)="wait")=false:=by decide +kernel
def nj:decide (("put":Str)="leap")=false:=by decide +kernel
def kS:decide (("put":Str)="try")=false:=by decide +kernel
def ni:decide (("put":Str)="look")=false:=by decide +kernel
def o6:decide (("put":Str)="set")=false:=by decide +kernel
def nh:decide (("put":Str)="plus")=false:=by decide +kernel
def m6:decide (("set":Str)="wait")=false:=by decide +kernel
def m9:decide (("set":Str)="leap")=false:=by decide +kernel
def kR:decide (("set":Str)="try")=false:=by decide +kernel
def m8:decide (("set":Str)="look")=false:=by decide +kernel
def o5:decide (("set":Str)="put")=false:=by decide +kernel
def m7:decide (("set":Str)="plus")=false:=by decide +kernel
def lO:decide (("plus":Str)="wait")=false:=by decide +kernel
def lQ:decide (("plus":Str)="leap")=false:=by decide +kernel
def jO:decide (("plus":Str)="try")=false:=by decide +kernel
def lP:decide (("plus":Str)="look")=false:=by decide +kernel
def nq:decide (("plus":Str)="put")=false:=by decide +kernel
def nk:decide (("plus":Str)="set")=false:=by decide +kernel
theorem SNX:type_of% @lM/\type_of% @mQ/\type_of% @lL/\type_of% @mS/\type_of% @mR/\type_of% @lK/\type_of% @lU/\type_of% @nv/\type_of% @lW/\type_of% @nA/\type_of% @nz/\type_of% @lV/\type_of% @mV/\type_of% @mZ/\type_of% @mX/\type_of% @oZ/\type_of% @oY/\type_of% @mW/\type_of% @lR/\type_of% @lT/\type_of% @jP/\type_of% @nu/\type_of% @nr/\type_of% @lS/\type_of% @ng/\type_of% @nj/\type_of% @kS/\type_of% @ni/\type_of% @o6/\type_of% @nh/\type_of% @m6/\type_of% @m9/\type_of% @kR/\type_of% @m8/\type_of% @o5/\type_of% @m7/\type_of% @lO/\type_of% @lQ/\type_of% @jO/\type_of% @lP/\type_of% @nq/\type_of% @nk:=⟨@lM,@mQ,@lL,@mS,@mR,@lK,@lU,@nv,@lW,@nA,@nz,@lV,@mV,@mZ,@mX,@oZ,@oY,@mW,@lR,@lT,@jP,@nu,@nr,@lS,@ng,@nj,@kS,@ni,@o6,@nh,@m6,@m9,@kR,@m8,@o5,@m7,@lO,@lQ,@jO,@lP,@nq,@nk⟩
inductive DF(α:Type) where
 |pl (d:fH)|tr (a b:List α)
def DF.u{α:Type}(f:α->U):DF α->U
 |.pl d=>d.u
 |.tr a b=>.tup [.str "try",.tup (a.map f),.tup (b.map f)]
def Dl:Nat->Type
 |0=>DF Empty
 |j+1=>DF (Dl j)
def Dl.u:(j:Nat)->Dl j->U
 |0,d=>DF.u (fun x=>nomatch x) d
 |j+1,d=>DF.u (Dl.u j) d
def DF.ok{α:Type}(n w:Int)(k:List α->Prop):DF α->Prop
 |.pl d=>d.ok n w
 |.tr a b=>k a/\k b
def yO{α:Type}{l:List α}{k:Nat}{x:α}(h:l[k]?=some x):k<l.length:=(Q6.mp h).1
def bo{α:Type}{l r:List α}{k:Nat}{x:α}(h:l[k]?=some x):(l++r)[k]?=some x:=by rw[Qx (yO h)];exact h
section
variable{α:Type}{n w:Int}{f:α->U}{k:List α->Prop}{s:List α->Int}
def szF(s:List α->Int):List (DF α)->Int
 |[]=>0
 |.pl _::r=>1+szF s r
 |.tr a b::r=>1+s a+s b+szF s r
theorem pR(s:List α->Int):∀(x y:List (DF α)),szF s (x++y)=szF s x+szF s y
 |[],y=>by simp[szF]
 |.pl d::r,y=>by simp only[Qj,szF,pR s r y];omega
 |.tr a b::r,y=>by simp only[Qj,szF,pR s r y];omega
def HsT(fs:Fn)(f:α->U)(k:List α->Prop)(s:List α->Int):Prop:=∀(a:List α) (S:Sto),k a->fs [.tup (a.map f)] S=some (.int (s a),S)
def vT(fs:Fn):Fn:=fnU 3 1 (j3 fs)
theorem nC{fs:Fn}(Hs:HsT fs f k s)(x:U):∀(ds:List (DF α)) (many:Int) (r2:Option U) (S:Sto),(∀d∈ds,d.ok n w k)->
  ∃r2',d7 (fun _=>True) (gNm 2) (fR fs) (ds.map (DF.u f)) [some x,some (.int many),r2] S=some (.nx,[some x,some (.int (many+szF s ds)),r2'],S)
 |[],many,r2,S,_=>⟨r2,by simp only[szF,Int.add_zero,Qc];exact eD trivial⟩
 |d::r,many,r2,S,oa=>by
  have od:=oa d QY;cases d with
  |pl d=>
   obtain⟨r2',ih⟩:=nC Hs x r (many+1) (some d.u) S fun y hy=>oa y (QZ _ hy);have e:many+szF s (.pl d::r)=many+1+szF s r:=by simp only[szF];omega
   rw[e];refine⟨r2',(bM trivial rfl ?_).trans ih⟩;have h0:∃y rr,d.u=.tup (.str y::rr)/\decide (y=("try":Str))=false:=by
    cases d<;>first|exact⟨_,_,rfl,jP⟩|exact⟨_,_,rfl,kS⟩|exact⟨_,_,rfl,kR⟩|exact⟨_,_,rfl,jO⟩|exact⟨_,_,rfl,by decide +kernel⟩
   obtain⟨y,rr,e0,e1⟩:=h0;simp only[DF.u];rw[e0];rwa[fR,e1]
  |tr a b=>
   obtain⟨ka,kb⟩:=od;obtain⟨r2',ih⟩:=nC Hs x r (many+1+s a+s b) (some (DF.u f (.tr a b))) S fun y hy=>oa y (QZ _ hy);have e:many+szF s (.tr a b::r)=many+1+s a+s b+szF s r:=by simp only[szF];omega
   rw[e];refine⟨r2',(bM trivial rfl ?_).trans ih⟩;rwa[fR,DF.u,Hs a _ ka,Hs b _ kb,SNX]
theorem tL{fs:Fn}(Hs:HsT fs f k s)(ds:List (DF α))(S:Sto)(oa:∀d∈ds,d.ok n w k):vT fs [.tup (ds.map (DF.u f))] S=some (.int (szF s ds),S):=by
 unfold vT;rw[Kk];obtain⟨r2,e⟩:=nC Hs (.tup (ds.map (DF.u f))) ds 0 none S oa;rw[Int.zero_add]at e;rwa[j3,gO,iTp,e]
end
def uK:Nat->Fn
 |0=>vT fun _ _=>none
 |j+1=>vT (uK j)
def jQ:(j:Nat)->List (Dl j)->Int
 |0,ds=>szF (fun _=>0) ds
 |j+1,ds=>szF (jQ j) ds
section
variable{α:Type}{f:α->U}{k:List α->Prop}{s:List α->Int}
def HdT(n w t:Int)(fd:Fn)(f:α->U)(k:List α->Prop)(s:List α->Int):Prop:=∀(ns:List Int) (T:Sto) (a c room:Int),0<=a->0<=c->0<=room->room<=40->
 ∃(ds:List α) (a' c':Int) (G:Sto),fd [.ref 1,.tup [.int n,.int w],.int room,.int t] (scr ns::pen a c::T)=some (.tup (ds.map f),scr ns::pen a' c'::(T++G))/\k ds/\s ds<=room/\0<=s ds/\0<=a'/\0<=c'/\ds.length<=12
def jG(aC bC aI a9:Fn):CS:=
 (cE (qu (aL (cOp fGt (ah 5) (cC (.int 0)))) (qu (aL (cOp fLt (cCB gN (ae (ah 4) aB)) (cC (.int 12)))) (aL (cOp fLt (ah 7) (cC (.int 13)))))) (aT (bp (cBM bJ (ah 4) (ae (cCB bC (ae (ah 0) (ae (ah 1) (ae (ah 7) (ae (ah 8) aB))))) aB)))
  (bj 5 (cOp gM (ah 5) (cC (.int 1))))) (cE (qu (aL (cOp fGt (ah 5) (cC (.int 0)))) (qu (aL (cOp fLt (cCB gN (ae (ah 4) aB)) (cC (.int 12)))) (cOr (aL (cOp fEq (ah 7) (cC (.int 13)))) (aL (cOp fEq (ah 3) (cC (.int 0))))))) (aT (cE (qu (aL (cOp fGt (ah 5) (cC (.int 1)))) (qu (aL (cOp fLt (cCB gN (ae (ah 4) aB)) (cC (.int 11)))) (aL (cOp fGt (cCB aC (ae (ah 0) (ae (cC (.int 4)) aB))) (cC (.int 0)))))) (aT (bp (cBM bJ (ah 4) (ae (fY (ae (cC (.str "leap")) (ae (ah 8) (ae (cC (.int 1)) aB)))) aB)))
  (bj 5 (cOp gM (ah 5) (cC (.int 1))))) bb)
  (aT (bp (cBM bJ (ah 4) (ae (fY (ae (cC (.str "wait")) aB)) aB)))
  (bj 5 (cOp gM (ah 5) (cC (.int 1)))))) (cE (qu (aL (cOp fGt (ah 5) (cC (.int 0)))) (aL (cOp fLt (cCB gN (ae (ah 4) aB)) (cC (.int 12))))) (aT (bj 9 (cCB aI (ae (ah 0) (ae (ah 1) (ae (cCB aC (ae (ah 0) (ae (ah 5) aB))) (ae (cOp gM (ah 3) (cC (.int 1))) aB))))))
  (aT (bj 5 (cOp gM (cOp gM (ah 5) (cC (.int 1))) (cCB a9 (ae (ah 9) aB))))
  (aT (bj 10 (cCB aI (ae (ah 0) (ae (ah 1) (ae (cCB aC (ae (ah 0) (ae (cOp bI (ah 5) (cC (.int 1))) aB))) (ae (cOp gM (ah 3) (cC (.int 1))) aB))))))
  (aT (bj 5 (cOp gM (ah 5) (cCB a9 (ae (ah 10) aB))))
  (bp (cBM bJ (ah 4) (ae (fY (ae (cC (.str "try")) (ae (ah 9) (ae (ah 10) aB)))) aB))))))) bb)))
theorem Kr{f g h i:Fn}:eE f g h i=aT (bj 7 (cCB f (ae (ah 0) (ae (cC (.int 16)) aB)))) (aT (bj 8 (cCB f (ae (ah 0) (ae (cC (.int 4)) aB)))) (jG f g h i)):=rfl
theorem dY(ns:List Int)(T:Sto){n w room t:Int}{fd fs:Fn}(Hs:HsT fs f k s)(Hd:t≠0->HdT n w (t-1) fd f k s)(n0:1<=n)(n1:n<=6)(w0:2<=w)(w1:w<=1000)(rm:room<=40):∀(us:List U) (r6 r7 r8 r9 r10:Option U) (left:Int) (ds:List (DF α)) (G:Sto) {a c:Int},0<=a->0<=c->ds.length<=12->(∀d∈ds,d.ok n w k)->0<=left->szF s ds+left<=room->0<=szF s ds->
  ∃(ds':List (DF α)) (ρ:Rho) (a' c':Int) (G':Sto),d7 (fun _=>True) (gNm 6) (eE cP lG fd fs) us [some (.ref 1),some (.tup [.int n,.int w]),some (.int room),some (.int t),some (.ref (T.length+1+1)),some (.int left),r6,r7,r8,r9,r10] (scr ns::pen a c::(T++.lst (ds.map (DF.u f))::G))
   = some (.nx,some (.ref 1)::some (.tup [.int n,.int w])::some (.int room)::some (.int t)::some (.ref (T.length+1+1))::ρ,scr ns::pen a' c'::(T++.lst (ds'.map (DF.u f))::G'))/\ds'.length<=12/\(∀d∈ds',d.ok n w k)/\szF s ds'<=room/\0<=szF s ds'/\0<=a'/\0<=c'
 |[],r6,r7,r8,r9,r10,left,ds,G,a,c,ha,hc,hl,hd,l0,sz,s0=>⟨ds,_,a,c,G,by simp[d7];rfl,hl,hd,by omega,s0,ha,hc⟩
 |u::us,r6,r7,r8,r9,r10,left,ds,G,a,c,ha,hc,hl,hd,l0,sz,s0=>by
  obtain⟨f1,a1,c1,e1,p1,q1,ha1,hc1⟩:=cg ns (T++.lst (ds.map (DF.u f))::G) (m:=16) ha hc (by decide) (by decide +kernel);obtain⟨f2,a2,c2,e2,p2,q2,ha2,hc2⟩:=cg ns (T++.lst (ds.map (DF.u f))::G) (m:=4) ha1 hc1 (by decide) (by decide +kernel);have pre:eE cP lG fd fs [some (.ref 1),some (.tup [.int n,.int w]),some (.int room),some (.int t),some (.ref (T.length+1+1)),some (.int left),some u,r7,r8,r9,r10] (scr ns::pen a c::(T++.lst (ds.map (DF.u f))::G))
    = jG cP lG fd fs [some (.ref 1),some (.tup [.int n,.int w]),some (.int room),some (.int t),some (.ref (T.length+1+1)),some (.int left),some u,some (.int f1),some (.int f2),r9,r10] (scr ns::pen a2 c2::(T++.lst (ds.map (DF.u f))::G)):=by
   rw[Kr];rwa[e1,e2]
  by_cases hL:0<left;case neg=>
   obtain⟨ds',ρ,a',c',G',h,kk⟩:=dY ns T (room:=room) (t:=t) (fd:=fd) (fs:=fs) Hs Hd n0 n1 w0 w1 rm us (some u) (some (.int f1)) (some (.int f2)) r9 r10 left ds G ha2 hc2 hl hd l0 sz s0;exact⟨ds',ρ,a',c',G',(bM trivial rfl (pre.trans (by rwa[jG,hL]))).trans h,kk⟩
  by_cases hN:(ds.length:Int)<12;case neg=>
   obtain⟨ds',ρ,a',c',G',h,kk⟩:=dY ns T (room:=room) (t:=t) (fd:=fd) (fs:=fs) Hs Hd n0 n1 w0 w1 rm us (some u) (some (.int f1)) (some (.int f2)) r9 r10 left ds G ha2 hc2 hl hd l0 sz s0;exact⟨ds',ρ,a',c',G',(bM trivial rfl (pre.trans (by rwa[jG,hL,hN,QV]))).trans h,kk⟩
  have hlm:(ds.map (DF.u f)).length<LIM:=by unfold LIM;simp;omega
  have okd:∀{ds:List (DF α)} {d:DF α},(∀d∈ds,d.ok n w k)->d.ok n w k->∀x∈ds++[d],x.ok n w k:=fun h1 h2 x hx=>by
   rcases Qt.mp hx with z|z
   ·exact h1 x z
   ·simp at z;subst z;exact h2
  have s1:∀(x:List (DF α)) (d:fH),szF s (x++[.pl d])=szF s x+1:=fun x d=>by rw[pR];simp[szF]
  by_cases hW:f1<13
  ·obtain⟨d,a3,c3,G3,e3,od,ha3,hc3⟩:=Bk ns (T++.lst (ds.map (DF.u f))::G) ha2 hc2 n0 n1 w0 w1 p1 p2 q2;obtain⟨ds',ρ,a',c',G',h,kk⟩:=dY ns T (room:=room) (t:=t) (fd:=fd) (fs:=fs) Hs Hd n0 n1 w0 w1 rm us (some u) (some (.int f1)) (some (.int f2)) r9 r10 (left-1) (ds++[.pl d]) (G++G3) ha3 hc3 (by simp;omega) (okd hd (show DF.ok n w k (.pl d)from od)) (by omega) (by rw[s1];omega) (by rw[s1];omega);simp only[Qm,QF,Qc,DF.u]at h;exact⟨ds',ρ,a',c',G',(bM trivial rfl (pre.trans (by rwa[jG,e3,hL,hN,hW,eZ hlm,QV]))).trans h,kk⟩
  ·have wt:DF.u f (.pl .wait)=U.tup [.str "wait"]:=rfl;obtain⟨bE,hE⟩:∃b,decide (f1=13)=b:=⟨_,rfl⟩;obtain⟨bT,hT⟩:∃b,decide (t=0)=b:=⟨_,rfl⟩;by_cases hX:bE=false/\bT=false
   ·obtain⟨rfl,rfl⟩:=hX;have tz:t≠0:=of_decide_eq_false hT;obtain⟨f3,a3,c3,e3,p3,q3,ha3,hc3⟩:=cg ns (T++.lst (ds.map (DF.u f))::G) (m:=left) ha2 hc2 hL (l9 (by omega) (by omega));obtain⟨A,a4,c4,G4,e4,kA,sA,sA0,ha4,hc4,_⟩:=Hd tz ns (T++.lst (ds.map (DF.u f))::G) a3 c3 f3 ha3 hc3 p3 (by omega);obtain⟨f5,a5,c5,e5,p5,q5,ha5,hc5⟩:=cg ns (T++.lst (ds.map (DF.u f))::(G++G4)) (m:=left-1-s A+1) ha4 hc4 (by omega) (l9 (by omega) (by omega));obtain⟨B,a6,c6,G6,e6,kB,sB,sB0,ha6,hc6,_⟩:=Hd tz ns (T++.lst (ds.map (DF.u f))::(G++G4)) a5 c5 f5 ha5 hc5 p5 (by omega);have s2:szF s (ds++[.tr A B])=szF s ds+1+s A+s B:=by rw[pR];simp only[szF];omega
    obtain⟨ds',ρ,a',c',G',h,kk⟩:=dY ns T (room:=room) (t:=t) (fd:=fd) (fs:=fs) Hs Hd n0 n1 w0 w1 rm us (some u) (some (.int f1)) (some (.int f2)) (some (.tup (A.map f))) (some (.tup (B.map f))) (left-1-s A-s B) (ds++[.tr A B]) (G++(G4++G6)) ha6 hc6 (by simp;omega) (okd hd (show DF.ok n w k (.tr A B)from⟨kA,kB⟩)) (by omega) (by rw[s2];omega) (by rw[s2];omega);simp only[Qm,QF,Qc,DF.u]at h;simp only[QQ,Qj]at e4 e6;exact⟨ds',ρ,a',c',G',(bM trivial rfl (pre.trans (by rwa[jG,e3,e4,e5,e6,Hs A _ kA,Hs B _ kB,hL,hN,hW,hE,hT,eZ hlm,QV]))).trans h,kk⟩
   have hO:(bE||bT)=true:=by cases bE<;>cases bT<;>simp_all
   have hC:∀S':Sto,(cOr (aL (cOp fEq (ah 7) (cC (.int 13)))) (aL (cOp fEq (ah 3) (cC (.int 0))))) [some (.ref 1),some (.tup [.int n,.int w]),some (.int room),some (.int t),some (.ref (T.length+1+1)),some (.int left),some u,some (.int f1),some (.int f2),r9,r10] S'=some (true,S'):=fun S'=>by
    cases bE<;>cases bT<;>first|(exact absurd hO (by decide))|rwa[hE,hT]
   by_cases hM:1<left;case neg=>
    obtain⟨ds',ρ,a',c',G',h,kk⟩:=dY ns T (room:=room) (t:=t) (fd:=fd) (fs:=fs) Hs Hd n0 n1 w0 w1 rm us (some u) (some (.int f1)) (some (.int f2)) r9 r10 (left-1) (ds++[.pl .wait]) G ha2 hc2 (by simp;omega) (okd hd (show DF.ok n w k (.pl .wait)from trivial)) (by omega) (by rw[s1];omega) (by rw[s1];omega);simp only[Qm,QF,Qc]at h;refine⟨ds',ρ,a',c',G',(bM trivial rfl ?_).trans h,kk⟩;refine pre.trans ?_;rwa[jG,hC,hL,hN,hW,hM,wt,eZ hlm,QV]
   by_cases hK:(ds.length:Int)<11;case neg=>
    obtain⟨ds',ρ,a',c',G',h,kk⟩:=dY ns T (room:=room) (t:=t) (fd:=fd) (fs:=fs) Hs Hd n0 n1 w0 w1 rm us (some u) (some (.int f1)) (some (.int f2)) r9 r10 (left-1) (ds++[.pl .wait]) G ha2 hc2 (by simp;omega) (okd hd (show DF.ok n w k (.pl .wait)from trivial)) (by omega) (by rw[s1];omega) (by rw[s1];omega);simp only[Qm,QF,Qc]at h;refine⟨ds',ρ,a',c',G',(bM trivial rfl ?_).trans h,kk⟩;refine pre.trans ?_;rwa[jG,hC,hL,hN,hW,hM,hK,wt,eZ hlm,QV]
   obtain⟨f3,a3,c3,e3,p3,q3,ha3,hc3⟩:=cg ns (T++.lst (ds.map (DF.u f))::G) (m:=4) ha2 hc2 (by decide) (by decide +kernel);by_cases hZ:0<f3
   ·have lp:DF.u f (.pl (.leap f2 1))=U.tup [.str "leap",.int f2,.int 1]:=rfl;have hlm2:(ds.map (DF.u f)++[U.tup [.str "leap",.int f2,.int 1]]).length<LIM:=by unfold LIM;simp;omega
    obtain⟨ds',ρ,a',c',G',h,kk⟩:=dY ns T (room:=room) (t:=t) (fd:=fd) (fs:=fs) Hs Hd n0 n1 w0 w1 rm us (some u) (some (.int f1)) (some (.int f2)) r9 r10 (left-1-1) (ds++[.pl (.leap f2 1)]++[.pl .wait]) G ha3 hc3 (by simp;omega) (okd (okd hd (show DF.ok n w k (.pl (.leap f2 1))from⟨p2,q2,by omega,by omega⟩)) (show DF.ok n w k (.pl .wait)from trivial)) (by omega) (by rw[s1,s1];omega) (by rw[s1,s1];omega);simp only[Qm,QF,Qc]at h;refine⟨ds',ρ,a',c',G',(bM trivial rfl ?_).trans h,kk⟩;refine pre.trans ?_;rwa[jG,hC,e3,hL,hN,hW,hM,hK,hZ,lp,wt,eZ hlm,eZ hlm2,QV]
   ·obtain⟨ds',ρ,a',c',G',h,kk⟩:=dY ns T (room:=room) (t:=t) (fd:=fd) (fs:=fs) Hs Hd n0 n1 w0 w1 rm us (some u) (some (.int f1)) (some (.int f2)) r9 r10 (left-1) (ds++[.pl .wait]) G ha3 hc3 (by simp;omega) (okd hd (show DF.ok n w k (.pl .wait)from trivial)) (by omega) (by rw[s1];omega) (by rw[s1];omega);simp only[Qm,QF,Qc]at h;refine⟨ds',ρ,a',c',G',(bM trivial rfl ?_).trans h,kk⟩;refine pre.trans ?_;rwa[jG,hC,e3,hL,hN,hW,hM,hK,hZ,wt,eZ hlm,QV]
theorem mI{n w t:Int}{fd fs:Fn}(Hs:HsT fs f k s)(Hd:t≠0->HdT n w (t-1) fd f k s)(n0:1<=n)(n1:n<=6)(w0:2<=w)(w1:w<=1000):HdT n w t (vU fd fs) (DF.u f) (fun ds=>ds.length<=30/\∀d∈ds,DF.ok n w k d) (szF s):=by
 intro ns T a c room ha hc r0 r1;unfold vU;rw[Kl];have hm:Nl [.int 12,.int room]=fun S=>some (.int (if room<12 then room else 12),S):=rfl;have hk:0<=(if room<12 then room else 12)/\(if room<12 then room else 12)<=12:=by split<;>omega
 generalize (if room<12 then room else 12)=mm at hm hk;obtain⟨f1,a1,c1,e1,p1,q1,ha1,hc1⟩:=cg ns (T++[.lst []]) (m:=mm+1) ha hc (by omega) (l9 (by omega) (by omega));obtain⟨ds,ρ,a',c',G,h,k1,k2,k3,k4,k5,k6⟩:=dY ns T (room:=room) (t:=t) (fd:=fd) (fs:=fs) Hs Hd n0 n1 w0 w1 r1 (fV 0 f1.toNat) none none none none none room [] [] ha1 hc1 (by simp) (by simp) r0 (by simp[szF]) (by simp[szF]);refine⟨ds,a',c',.lst (ds.map (DF.u f))::G,?_,⟨by omega,k2⟩,k3,k4,k5,k6,k1⟩;have hr:-(2^62)<=f1/\f1<2^62:=by omega
 simp only[Qc]at h;rwa[gG,gO,ib,hm,e1,hr,h,if_true,and_self]
end
def mB:Nat->Fn
 |0=>vU (fun _ _=>none) fun _ _=>none
 |j+1=>vU (mB j) (uK j)
def OH{x:U}{S:Sto}:gE x .non S=some (.bl (!BM x),S):=rfl
def pU(p:Int×Int):U:=.tup [.int p.1,.int p.2]
theorem Gd{us vs:List U}{S:Sto}(h:us.length+vs.length<=100):bI (.tup us) (.tup vs) S=some (.tup (us++vs),S):=by
 unfold bI;first|rfl|(simp only;rw[if_pos (by unfold LIM;omega)])|simp_all
def qy(k:Nat)(S:Sto)(u v:U):Prop:=∃d,Dt S u d/\Dt S v d/\d.canLay0=true/\d.depth<=k
def Ag(k:Nat)(S:Sto)(us vs:List U):Prop:=∃ds,DtL S us ds/\DtL S vs ds/\PyData.canLayAll0 ds=true/\PyData.depthAll ds<=k
section
variable{k:Nat}{S:Sto}{u v:U}{us vs:List U}
def Ag.nil:Ag k S [] []:=⟨[],.nil,.nil,rfl,ZF _⟩
theorem qy.lst{l l':Nat}(h1:S[l]?=some (.lst us))(h2:S[l']?=some (.lst vs))(h:Ag k S us vs):qy (k+1) S (.ref l) (.ref l'):=by
 obtain⟨ds,a,b,c,e⟩:=h;refine⟨.list ds,.lst h1 a,.lst h2 b,by unfold PyData.canLay0;exact c,?_⟩;unfold PyData.depth;omega
theorem qy.eq(h:qy k S u v)(hk:k<=60):sR false u v S=some (.bl true,S):=by
 obtain⟨d,a,b,c,e⟩:=h;exact nX false (.inl ⟨d,d,a,b,⟨c,Qk e hk⟩,⟨c,Qk e hk⟩,(SeqAt.eqv_refl d c).symm⟩)
theorem qy.ne(h:qy k S u v)(hk:k<=60):sR true u v S=some (.bl false,S):=by
 obtain⟨d,a,b,c,e⟩:=h;exact nX true (.inl ⟨d,d,a,b,⟨c,Qk e hk⟩,⟨c,Qk e hk⟩,(SeqAt.eqv_refl d c).symm⟩)
end
end OQ
namespace OL
open PySem PySem.Spec PyProof.Rows L2 OG OP OQ
def top(i:Nat):Qg:=PySem.Challenge.pw_oneglance_k61_texts_judged.main.body.getD i (.Pass ⟨0,0,0,0⟩)
abbrev jS:Qg:=top 6
abbrev gZ:Qg:=gD (top 13) 0
abbrev gY:Qg:=gD (top 17) 0
abbrev gX:Qg:=gD (top 17) 1
abbrev fj:Qg:=gD (top 17) 2
abbrev gB:Qg:=gD (top 17) 3
abbrev dP:Qg:=gD (top 17) 4
abbrev dN:Qg:=gD (top 17) 5
abbrev dh:Qg:=gD (top 17) 6
abbrev dM:Qg:=gD (top 17) 7
abbrev cI:Qg:=gD (top 17) 8
abbrev jR:Qg:=top 18
abbrev fi:Qg:=top 19
abbrev gx:Qg:=top 20
abbrev kW:Qg:=top 21
abbrev kX:Qg:=top 23
abbrev jT:Qg:=top 24
abbrev iX:Qg:=top 25
abbrev jU:Qg:=top 27
abbrev e9:Qg:=top 28
abbrev gy:Qg:=top 29
abbrev iY:Qg:=top 30
abbrev gW:Qg:=top 31
abbrev iZ:Qg:=top 32
abbrev iW:Qg:=top 33
abbrev gU:Qg:=top 34
abbrev i6:Qg:=top 35
abbrev Er:Qg:=top 36
section
variable{P:QL}{w:Qu}{K:Q1}{mg:Str->Option Q2}{base:Heap}
theorem lZ:a7 ["world","word","box"] ["world","word"] (aG jS):=⟨rfl,rfl,rfl,by decide +kernel,rfl,by decide +kernel,by decide +kernel⟩
theorem uq{k:Nat}(d:Def K mg "bounds_of" jS ["world","word"])(B:Blt mg)(C_HAND:KA K mg "HAND" [0,3])(C_LEAP:KA K mg "LEAP" [1,12]):eM P w K mg base "bounds_of" (k+1) ["world","word"] (fnU 3 2 (bz )):=
 d.pure lZ fun f cdv A outer s H E hr=>(by
  have hu:=d8 hr;have nd:=lZ.nd;exact(ax (aS (i:=2) nd rfl (by trivial) (eR (ag (aE aq) (ag (bZ eU hR (fg hu (ak (wpv 0)) (aE aq) (fun _ _=>rfl) (fun _ _=>rfl)) (aE aq)) aD))))
   (ax (b6 (aW dz iO (ak (wpv 1)) (aM ay) (aK _)) (aH (aV (eR (ag (nH rfl C_HAND) (ag (ak (wpv 2)) aD))))) br)
   (ax (b6 (aW dz iO (ak (wpv 1)) (aM ay) (aK _)) (aH (aV (eR (ag (ak (wpv 2)) (ag (nH rfl C_HAND) aD))))) br)
   (ax (b6 (aW dz iO (ak (wpv 1)) (aM ay) (aK _)) (aH (aV (eR (ag (nH rfl C_HAND) (ag (eR (ag (aE aq) (ag (bZ eU hR (fg hu (ak (wpv 0)) (aE aq) (fun _ _=>rfl) (fun _ _=>rfl)) (aE aq)) aD))) aD))))) br)
   (ax (b6 (aW dz iO (ak (wpv 1)) (aM ay) (aK _)) (aH (aV (eR (ag (nH rfl C_HAND) (ag (nH rfl C_HAND) aD))))) br)
   (ax (b6 (aW dz iO (ak (wpv 1)) (aM ay) (aK _)) (aH (aV (eR (ag (nH rfl C_HAND) (ag (nH rfl C_LEAP) aD))))) br)
   (ax (b6 (aW dz iO (ak (wpv 1)) (aM ay) (aK _)) (aH (aV (eR aD))) br)
   (aH (aV (kq eN)))))))))))
def lX:a7 ["word"] ["word"] (aG jR):=⟨rfl,rfl,rfl,by decide +kernel,rfl,by decide +kernel,by decide +kernel⟩
theorem uo{k:Nat}(d:Def K mg "number_in" jR ["word"])(B:Blt mg)(C_MOST_FIGURES:∃t,mg "MOST_FIGURES"=some (.int (4) t))(C_FIGURES:∃t,mg "FIGURES"=some (.str "0123456789" t)):eM P w K mg base "number_in" (k+1) ["word"] (fnU 1 1 (iq )):=
 d.pure lX fun f cdv A outer s H E hr=>(by
  have hu:=d8 hr;have nd:=lX.nd;exact(ax (b6 (yr (CQ (aW dz iO (cD C5 CW rfl B.len PySem.boot_len (ag (ak (wpv 0)) aD)) (aE aq) (aK _)) (CQ (aW oF Am (cD C5 CW rfl B.len PySem.boot_len (ag (ak (wpv 0)) aD)) (aE (eB rfl C_MOST_FIGURES)) (aK _)) (yt (ko (iJ (cD (Cb rfl) Fc rfl B.all OG.Ce (ag (CV (Nc:=["sign"]) (tn:=["sign"]) (capN:=[]) (caps:=[]) rfl (IE (ak (wpv 0))) (fun _ _ _=>(eQ (cH (i:=0) (show(["sign"]:List Str).Nodup by decide +kernel) rfl (by trivial)))) (fun _ _ _=>(Mz (ak (wpv 0)) (aM (AD rfl C_FIGURES)) (by with_unfolding_all rfl))) rfl rfl (by decide +kernel) (by decide +kernel) trivial rfl .nil rfl rfl) aD)))))))) (aH (aV (kq eN))) br)
   (ax (b6 (yr (p7 (aW dz iO (My (ak (wpv 0)) (aE aq) (fun _ _=>rfl)) (aM ay) (aK _)) (o9 (aW BB KY (ak (wpv 0)) (aM ay) (aK _))))) (aH (aV (kq eN))) br)
   (aH (aV (eS JF Jx rfl B.int OG.vN (ag (ak (wpv 0)) aD)))))))
theorem jE:a7 ["self","world","words"] ["self","world","words"] (aG gY):=⟨rfl,rfl,rfl,by decide +kernel,rfl,by decide +kernel,by decide +kernel⟩
theorem ql{k:Nat}{cReader:Cl}(d:MkD K mg cReader.C "Reader" "Reader.__init__" gY ["self","world","words"])(B:Blt mg)(TReader:TC K cReader ["world","words","place","many"]):CMk P w K mg base cReader "Reader" (k+1) ["self","world","words"] (fnU 3 3 (fQ cReader)):=
 d.pure TReader jE fun f cdv A outer s H E hr=>(by
  have hu:=d8 hr;have nd:=jE.nd;exact(ax (i8 TReader.cl (TReader.na 0 rfl) (TReader.ix rfl) (ak (wpv 0)) (ak (wpv 1)))
   (ax (i8 TReader.cl (TReader.na 1 rfl) (TReader.ix rfl) (ak (wpv 0)) (ak (wpv 2)))
   (ax (i8 TReader.cl (TReader.na 2 rfl) (TReader.ix rfl) (ak (wpv 0)) (aE aq))
   (aH (i8 TReader.cl (TReader.na 3 rfl) (TReader.ix rfl) (ak (wpv 0)) (aE aq)))))))
def jD:a7 ["self"] ["self"] (aG gX):=⟨rfl,rfl,rfl,by decide +kernel,rfl,by decide +kernel,by decide +kernel⟩
theorem qk{k:Nat}{cReader:Cl}(d:MtD K cReader.C "word" "Reader.word" gX ["self"])(B:Blt mg)(TReader:TC K cReader ["world","words","place","many"]):ef P w K mg base cReader "word" (k+1) ["self"] (fnU 1 1 (fP cReader)):=
 d.pure jD fun f cdv A outer s H E hr=>(by
  have hu:=d8 hr;have nd:=jD.nd;exact(ax (b6 (aW gC oE (hJ TReader.cl (TReader.na 2 rfl) (TReader.ix rfl) (ak (wpv 0))) (cD ja i9 rfl B.len PySem.boot_len (ag (hJ TReader.cl (TReader.na 1 rfl) (TReader.ix rfl) (ak (wpv 0))) aD)) (aK _)) (aH (aV (fg hu (hJ TReader.cl (TReader.na 1 rfl) (TReader.ix rfl) (ak (wpv 0))) (hJ TReader.cl (TReader.na 2 rfl) (TReader.ix rfl) (ak (wpv 0))) (fun _ _=>rfl) (fun _ _=>rfl)))) br)
   (aH (aV (aM ay)))))
theorem eP:a7 ["self","fits"] ["self","fits"] (aG fj):=⟨rfl,rfl,rfl,by decide +kernel,rfl,by decide +kernel,by decide +kernel⟩
theorem oM{k:Nat}{cReader:Cl}(d:MtD K cReader.C "check" "Reader.check" fj ["self","fits"])(B:Blt mg):ef P w K mg base cReader "check" (k+1) ["self","fits"] (fnU 2 2 (fC )):=
 d.pure eP fun f cdv A outer s H E hr=>(by
  have hu:=d8 hr;have nd:=eP.nd;exact(aH (b6 (ko (iJ (ak (wpv 1)))) (aH Bc) br)))
def iV:a7 ["self"] ["self"] (aG gB):=⟨rfl,rfl,rfl,by decide +kernel,rfl,by decide +kernel,by decide +kernel⟩
theorem oK{k:Nat}{cReader:Cl}(d:MtD K cReader.C "go_on" "Reader.go_on" gB ["self"])(B:Blt mg)(TReader:TC K cReader ["world","words","place","many"]):ef P w K mg base cReader "go_on" (k+1) ["self"] (fnU 1 1 (gH cReader)):=
 d.pure iV fun f cdv A outer s H E hr=>(by
  have hu:=d8 hr;have nd:=iV.nd;exact(aH (i8 TReader.cl (TReader.na 2 rfl) (TReader.ix rfl) (ak (wpv 0)) (bZ bS bR (hJ TReader.cl (TReader.na 2 rfl) (TReader.ix rfl) (ak (wpv 0))) (aE aq)))))
theorem cw:a7 ["self","bound","number"] ["self","bound"] (aG cI):=⟨rfl,rfl,rfl,by decide +kernel,rfl,by decide +kernel,by decide +kernel⟩
theorem jA{k:Nat}{bY aA ao aw:Fn}{cReader:Cl}(d:MtD K cReader.C "read_number" "Reader.read_number" cI ["self","bound"])(B:Blt mg)(TReader:TC K cReader ["world","words","place","many"])(j7:eM P w K mg base "number_in" (k) ["word"] bY)(M_Reader_word:ef P w K mg base cReader "word" (k) ["self"] aA)(M_Reader_check:ef P w K mg base cReader "check" (k) ["self","fits"] ao)(M_Reader_go_on:ef P w K mg base cReader "go_on" (k) ["self"] aw):ef P w K mg base cReader "read_number" (k+1) ["self","bound"] (fnU 3 2 (cK bY aA ao aw cReader)):=
 d.pure cw fun f cdv A outer s H E hr=>(by
  have hu:=d8 hr;have nd:=cw.nd;exact(ax (aS (i:=2) nd rfl (by trivial) (aZ j7 hr rfl (ag (cY TReader.cl M_Reader_word hr (TReader.nm (by decide +kernel)) (ak (wpv 0))) aD)))
   (ax (a8 (dZ TReader.cl M_Reader_check hr (TReader.nm (by decide +kernel)) (ak (wpv 0)) (ag (nI (fM lg pf (ak (wpv 2)) (kq eN) (aK _)) (tQ (yv BC KZ BC KZ (fg hu (ak (wpv 1)) (aE aq) (fun _ _=>rfl) (fun _ _=>rfl)) (ak (wpv 2)) (fg hu (ak (wpv 1)) (aE aq) (fun _ _=>rfl) (fun _ _=>rfl))))) aD)))
   (ax (a8 (cY TReader.cl M_Reader_go_on hr (TReader.nm (by decide +kernel)) (ak (wpv 0))))
   (aH (aV (ak (wpv 2))))))))
theorem cQ:a7 ["self","tries_left","word","bounds","deed","bound"] ["self","tries_left"] (aG dh):=⟨rfl,rfl,rfl,by decide +kernel,rfl,by decide +kernel,by decide +kernel⟩
theorem dr{k:Nat}{bx aA aP ao aw aJ:Fn}{cReader:Cl}(d:MtD K cReader.C "read_deed" "Reader.read_deed" dh ["self","tries_left"])(B:Blt mg)(TReader:TC K cReader ["world","words","place","many"])(j8:eM P w K mg base "bounds_of" (k) ["world","word"] bx)(M_Reader_word:ef P w K mg base cReader "word" (k) ["self"] aA)(M_Reader_read_try:ef P w K mg base cReader "read_try" (k) ["self","tries_left"] aP)(M_Reader_check:ef P w K mg base cReader "check" (k) ["self","fits"] ao)(M_Reader_go_on:ef P w K mg base cReader "go_on" (k) ["self"] aw)(M_Reader_read_number:ef P w K mg base cReader "read_number" (k) ["self","bound"] aJ):ef P w K mg base cReader "read_deed" (k+1) ["self","tries_left"] (fnU 6 2 (bF bx aA aP ao aw aJ cReader)):=
 d.pure cQ fun f cdv A outer s H E hr=>(by
  have hu:=d8 hr;have nd:=cQ.nd;exact(ax (aS (i:=2) nd rfl (by trivial) (cY TReader.cl M_Reader_word hr (TReader.nm (by decide +kernel)) (ak (wpv 0))))
   (ax (b6 (aW dz iO (ak (wpv 2)) (aM ay) (aK _)) (aH (aV (dZ TReader.cl M_Reader_read_try hr (TReader.nm (by decide +kernel)) (ak (wpv 0)) (ag (ak (wpv 1)) aD)))) br)
   (ax (aS (i:=3) nd rfl (by trivial) (aZ j8 hr rfl (ag (hJ TReader.cl (TReader.na 0 rfl) (TReader.ix rfl) (ak (wpv 0))) (ag (ak (wpv 2)) aD))))
   (ax (a8 (dZ TReader.cl M_Reader_check hr (TReader.nm (by decide +kernel)) (ak (wpv 0)) (ag (fM lg pf (ak (wpv 3)) (kq eN) (aK _)) aD)))
   (ax (a8 (cY TReader.cl M_Reader_go_on hr (TReader.nm (by decide +kernel)) (ak (wpv 0))))
   (ax (aS (i:=4) nd rfl (by trivial) (dG (ag (ak (wpv 2)) aD)))
   (ax (iI PassesOwn.never rfl (me (ak (wpv 3))) (eQ (cH (i:=5) nd rfl (by trivial))) (aH (a8 (dq (ak (wpv 4)) (ag (dZ TReader.cl M_Reader_read_number hr (TReader.nm (by decide +kernel)) (ak (wpv 0)) (ag (ak (wpv 5)) aD)) aD)))))
   (aH (aV (eS ik tW rfl B.tuple OG.lD (ag (ak (wpv 4)) aD))))))))))))
theorem cZ:a7 ["self","tries_left","one","other"] ["self","tries_left"] (aG dM):=⟨rfl,rfl,rfl,by decide +kernel,rfl,by decide +kernel,by decide +kernel⟩
theorem dW{k:Nat}{ao aw aF:Fn}{cReader:Cl}(d:MtD K cReader.C "read_try" "Reader.read_try" dM ["self","tries_left"])(B:Blt mg)(TReader:TC K cReader ["world","words","place","many"])(M_Reader_check:ef P w K mg base cReader "check" (k) ["self","fits"] ao)(M_Reader_go_on:ef P w K mg base cReader "go_on" (k) ["self"] aw)(M_Reader_read_run:ef P w K mg base cReader "read_run" (k) ["self","tries_left"] aF):ef P w K mg base cReader "read_try" (k+1) ["self","tries_left"] (fnU 4 2 (cf ao aw aF cReader)):=
 d.pure cZ fun f cdv A outer s H E hr=>(by
  have hu:=d8 hr;have nd:=cZ.nd;exact(ax (a8 (dZ TReader.cl M_Reader_check hr (TReader.nm (by decide +kernel)) (ak (wpv 0)) (ag (fM oF Am (ak (wpv 1)) (aE aq) (aK _)) aD)))
   (ax (a8 (cY TReader.cl M_Reader_go_on hr (TReader.nm (by decide +kernel)) (ak (wpv 0))))
   (ax (aS (i:=2) nd rfl (by trivial) (dZ TReader.cl M_Reader_read_run hr (TReader.nm (by decide +kernel)) (ak (wpv 0)) (ag (bZ eU hR (ak (wpv 1)) (aE aq)) aD)))
   (ax (aS (i:=3) nd rfl (by trivial) (dZ TReader.cl M_Reader_read_run hr (TReader.nm (by decide +kernel)) (ak (wpv 0)) (ag (bZ eU hR (ak (wpv 1)) (aE aq)) aD)))
   (aH (aV (eR (ag (aM ay) (ag (ak (wpv 2)) (ag (ak (wpv 3)) aD)))))))))))
theorem dc:a7 ["self","tries_left","deeds"] ["self","tries_left"] (aG dN):=⟨rfl,rfl,rfl,by decide +kernel,rfl,by decide +kernel,by decide +kernel⟩
theorem dX{k:Nat}{ao aA aw aN:Fn}{cReader:Cl}{fuel:Nat}(d:MtD K cReader.C "read_run" "Reader.read_run" dN ["self","tries_left"])(B:Blt mg)(C_MOST_IN_TUPLE:∃t,mg "MOST_IN_TUPLE"=some (.int (12) t))(C_MOST_IN_ALL:∃t,mg "MOST_IN_ALL"=some (.int (40) t))(TReader:TC K cReader ["world","words","place","many"])(M_Reader_check:ef P w K mg base cReader "check" (k) ["self","fits"] ao)(M_Reader_word:ef P w K mg base cReader "word" (k) ["self"] aA)(M_Reader_go_on:ef P w K mg base cReader "go_on" (k) ["self"] aw)(M_Reader_read_deed:ef P w K mg base cReader "read_deed" (k) ["self","tries_left"] aN):ef P w K mg base cReader "read_run" (k+1) ["self","tries_left"] (fnU 3 2 (cM ao aA aw aN cReader fuel)):=
 d.pure dc fun f cdv A outer s H E hr=>(by
  have hu:=d8 hr;have nd:=dc.nd;exact(ax (a8 (dZ TReader.cl M_Reader_check hr (TReader.nm (by decide +kernel)) (ak (wpv 0)) (ag (fM dz iO (cY TReader.cl M_Reader_word hr (TReader.nm (by decide +kernel)) (ak (wpv 0))) (aM ay) (aK _)) aD)))
   (ax (a8 (cY TReader.cl M_Reader_go_on hr (TReader.nm (by decide +kernel)) (ak (wpv 0))))
   (ax (aS (i:=2) nd rfl (by trivial) (dG aD))
   (ax (Bb fuel PassesOwn.never (aW BB KY (cY TReader.cl M_Reader_word hr (TReader.nm (by decide +kernel)) (ak (wpv 0))) (aM ay) (aK _)) (ax (a8 (dZ TReader.cl M_Reader_check hr (TReader.nm (by decide +kernel)) (ak (wpv 0)) (ag (nI (fM gC oE (cD ja i9 rfl B.len PySem.boot_len (ag (ak (wpv 2)) aD)) (aE (eB rfl C_MOST_IN_TUPLE)) (aK _)) (tQ (fM gC oE (hJ TReader.cl (TReader.na 3 rfl) (TReader.ix rfl) (ak (wpv 0))) (aE (eB rfl C_MOST_IN_ALL)) (aK _)))) aD)))
   (ax (i8 TReader.cl (TReader.na 3 rfl) (TReader.ix rfl) (ak (wpv 0)) (bZ bS bR (hJ TReader.cl (TReader.na 3 rfl) (TReader.ix rfl) (ak (wpv 0))) (aE aq)))
   (aH (a8 (dq (ak (wpv 2)) (ag (dZ TReader.cl M_Reader_read_deed hr (TReader.nm (by decide +kernel)) (ak (wpv 0)) (ag (ak (wpv 1)) aD)) aD)))))))
   (ax (a8 (cY TReader.cl M_Reader_go_on hr (TReader.nm (by decide +kernel)) (ak (wpv 0))))
   (aH (aV (eS ik tW rfl B.tuple OG.lD (ag (ak (wpv 2)) aD))))))))))
theorem de:a7 ["self","dealing"] ["self"] (aG dP):=⟨rfl,rfl,rfl,by decide +kernel,rfl,by decide +kernel,by decide +kernel⟩
theorem lq{k:Nat}{aF ao:Fn}{cReader:Cl}(d:MtD K cReader.C "read_all" "Reader.read_all" dP ["self"])(B:Blt mg)(C_MOST_TRIES:∃t,mg "MOST_TRIES"=some (.int (3) t))(TReader:TC K cReader ["world","words","place","many"])(M_Reader_read_run:ef P w K mg base cReader "read_run" (k) ["self","tries_left"] aF)(M_Reader_check:ef P w K mg base cReader "check" (k) ["self","fits"] ao):ef P w K mg base cReader "read_all" (k+1) ["self"] (fnU 2 1 (cN aF ao cReader)):=
 d.pure de fun f cdv A outer s H E hr=>(by
  have hu:=d8 hr;have nd:=de.nd;exact(ax (aS (i:=1) nd rfl (by trivial) (dZ TReader.cl M_Reader_read_run hr (TReader.nm (by decide +kernel)) (ak (wpv 0)) (ag (aE (eB rfl C_MOST_TRIES)) aD)))
   (ax (a8 (dZ TReader.cl M_Reader_check hr (TReader.nm (by decide +kernel)) (ak (wpv 0)) (ag (fM dz iO (hJ TReader.cl (TReader.na 2 rfl) (TReader.ix rfl) (ak (wpv 0))) (cD ja i9 rfl B.len PySem.boot_len (ag (hJ TReader.cl (TReader.na 1 rfl) (TReader.ix rfl) (ak (wpv 0))) aD)) (aK _)) aD)))
   (aH (aV (ak (wpv 1)))))))
theorem eO:a7 ["world","text"] ["world","text"] (aG fi):=⟨rfl,rfl,rfl,by decide +kernel,rfl,by decide +kernel,by decide +kernel⟩
theorem oH{k:Nat}{aX bt:Fn}{cReader:Cl}(d:Def K mg "read_dealing" fi ["world","text"])(B:Blt mg)(TReader:TC K cReader ["world","words","place","many"])(M_Reader_read_all:ef P w K mg base cReader "read_all" (k+1) ["self"] aX)(M_Reader:CMk P w K mg base cReader "Reader" k ["self","world","words"] bt):eM P w K mg base "read_dealing" (k+1+1) ["world","text"] (fnU 2 2 (fB aX bt cReader)):=
 d.pure eO fun f cdv A outer s H E hr=>(by
  have hu:=d8 hr;have nd:=eO.nd;exact(aH (aV (cY TReader.cl M_Reader_read_all hr (TReader.nm (by decide +kernel)) (CU M_Reader hr rfl (ag (ak (wpv 0)) (ag (tP (ak (wpv 1)) (ag (aM ay) aD)) aD)))))))
theorem nD:a7 ["dealing","words","deed","part"] ["dealing"] (aG kW):=⟨rfl,rfl,rfl,by decide +kernel,rfl,by decide +kernel,by decide +kernel⟩
theorem ju{k:Nat}{b9:Fn}(d:Def K mg "words_of" kW ["dealing"])(B:Blt mg)(lH:eM P w K mg base "words_of" (k) ["dealing"] b9):eM P w K mg base "words_of" (k+1) ["dealing"] (fnU 4 1 (lA b9)):=
 d.pure nD fun f cdv A outer s H E hr=>(by
  have hu:=d8 hr;have nd:=nD.nd;exact(ax (aS (i:=1) nd rfl (by trivial) (dG (ag (aM ay) aD)))
   (ax (iI PassesOwn.never rfl (me (ak (wpv 0))) (eQ (cH (i:=2) nd rfl (by trivial))) (ax (a8 (dq (ak (wpv 1)) (ag (fg hu (ak (wpv 2)) (aE aq) (fun _ _=>rfl) (fun _ _=>rfl)) aD)))
   (aH (iI PassesOwn.never rfl (me (sQ (ak (wpv 2)) (cT (aE aq)) fe)) (eQ (cH (i:=3) nd rfl (by trivial))) (aH (b6 (aW dz iO (fg hu (ak (wpv 2)) (aE aq) (fun _ _=>rfl) (fun _ _=>rfl)) (aM ay) (aK _)) (aH (a8 (pZ (ak (wpv 1)) (ag (aZ lH hr rfl (ag (ak (wpv 3)) aD)) aD)))) (aH (a8 (dq (ak (wpv 1)) (ag (eS dI tY rfl B.str OG.iD (ag (ak (wpv 3)) aD)) aD))))))))))
   (ax (a8 (dq (ak (wpv 1)) (ag (aM ay) aD)))
   (aH (aV (ak (wpv 1))))))))
def iT:a7 ["dealing"] ["dealing"] (aG gx):=⟨rfl,rfl,rfl,by decide +kernel,rfl,by decide +kernel,by decide +kernel⟩
theorem oJ{k:Nat}{b9:Fn}(d:Def K mg "dealing_text" gx ["dealing"])(B:Blt mg)(lH:eM P w K mg base "words_of" (k) ["dealing"] b9):eM P w K mg base "dealing_text" (k+1) ["dealing"] (fnU 1 1 (gF b9)):=
 d.pure iT fun f cdv A outer s H E hr=>(by
  have hu:=d8 hr;have nd:=iT.nd;exact(aH (aV (vj (aM ay) (ag (aZ lH hr rfl (ag (ak (wpv 0)) aD)) aD)))))
theorem l6:a7 ["pen","many","at","cell","one","two","three","found"] ["pen","many"] (aG jT):=⟨rfl,rfl,rfl,by decide +kernel,rfl,by decide +kernel,by decide +kernel⟩
theorem ur{k:Nat}(d:Def K mg "_law_take" jT ["pen","many"])(B:Blt mg):eM P w K mg base "_law_take" (k+1) ["pen","many"] (fnU 8 2 (iA )):=
 d.pure l6 fun f cdv A outer s H E hr=>(by
  have hu:=d8 hr;have nd:=l6.nd;exact(ax (b6 (aW dz iO (fg hu (ak (wpv 0)) (aE aq) (fun _ _=>rfl) (fun _ _=>rfl)) (aE aq) (aK _)) (ax (aS (i:=2) nd rfl (by trivial) (fg hu (ak (wpv 0)) (aE aq) (fun _ _=>rfl) (fun _ _=>rfl)))
   (ax (js hu (ak (wpv 0)) (aE aq) (bZ bS bR (ak (wpv 2)) (aE aq)))
   (ax (aS (i:=3) nd rfl (by trivial) (aE aq))
   (ax (b6 (aW gC oE (ak (wpv 2)) (cD ja i9 rfl B.len PySem.boot_len (ag (fg hu (ak (wpv 0)) (aE aq) (fun _ _=>rfl) (fun _ _=>rfl)) aD)) (aK _)) (aH (aS (i:=3) nd rfl (by trivial) (fg hu (fg hu (ak (wpv 0)) (aE aq) (fun _ _=>rfl) (fun _ _=>rfl)) (ak (wpv 2)) (fun _ _=>rfl) (fun _ _=>rfl)))) (aH (b6 (aW oF Am (cD ja i9 rfl B.len PySem.boot_len (ag (fg hu (ak (wpv 0)) (aE aq) (fun _ _=>rfl) (fun _ _=>rfl)) aD)) (aE aq) (aK _)) (aH (aS (i:=3) nd rfl (by trivial) (bZ bS bR (bZ nK tZ (fg hu (fg hu (ak (wpv 0)) (aE aq) (fun _ _=>rfl) (fun _ _=>rfl)) (bZ nK tZ (bZ ky rp (ak (wpv 2)) (aE aq)) (cD ja i9 rfl B.len PySem.boot_len (ag (fg hu (ak (wpv 0)) (aE aq) (fun _ _=>rfl) (fun _ _=>rfl)) aD))) (fun _ _=>rfl) (fun _ _=>rfl)) (aE aq)) (bZ ky rp (aE aq) (ak (wpv 2)))))) br)))
   (ax (aS (i:=4) nd rfl (by trivial) (bZ nK tZ (bZ ky rp (bZ bS bR (bZ bS bR (bZ nK tZ (ak (wpv 3)) (aE aq)) (bZ ky rp (aE aq) (ak (wpv 2)))) (aE aq)) (aE aq)) (aE aq)))
   (ax (aS (i:=5) nd rfl (by trivial) (bZ nK tZ (bZ bS bR (bZ bS bR (bZ ky rp (ak (wpv 4)) (ak (wpv 4))) (bZ ky rp (aE aq) (ak (wpv 2)))) (aE aq)) (aE aq)))
   (ax (aS (i:=6) nd rfl (by trivial) (bZ nK tZ (bZ bS bR (bZ ky rp (ak (wpv 5)) (ak (wpv 5))) (ak (wpv 4))) (aE aq)))
   (ax (js hu (ak (wpv 0)) (aE aq) (bZ bS bR (bZ p9 Fb (bZ bS bR (bZ ky rp (ak (wpv 5)) (aE aq)) (ak (wpv 6))) (aE aq)) (aE aq)))
   (aH (b6 (aW MM O9 (ak (wpv 3)) (bZ CY Js (aE aq) (aE aq)) (aK _)) (aH (js hu (ak (wpv 0)) (aE aq) (bZ p9 Fb (ak (wpv 3)) (bZ CY Js (aE aq) (aE aq))))) br)))))))))) br)
   (ax (aS (i:=7) nd rfl (by trivial) (bZ nK tZ (fg hu (ak (wpv 0)) (aE aq) (fun _ _=>rfl) (fun _ _=>rfl)) (ak (wpv 1))))
   (ax (js hu (ak (wpv 0)) (aE aq) (bZ p9 Fb (fg hu (ak (wpv 0)) (aE aq) (fun _ _=>rfl) (fun _ _=>rfl)) (ak (wpv 1))))
   (aH (aV (ak (wpv 7))))))))
def ki:a7 ["pen"] ["pen"] (aG iX):=⟨rfl,rfl,rfl,by decide +kernel,rfl,by decide +kernel,by decide +kernel⟩
theorem rW{k:Nat}{aC:Fn}(d:Def K mg "_law_world" iX ["pen"])(B:Blt mg)(aQ:eM P w K mg base "_law_take" (k) ["pen","many"] aC):eM P w K mg base "_law_world" (k+1) ["pen"] (fnU 1 1 (jf aC)):=
 d.pure ki fun f cdv A outer s H E hr=>(by
  have hu:=d8 hr;have nd:=ki.nd;exact(aH (aV (eR (ag (bZ bS bR (aE aq) (aZ aQ hr rfl (ag (ak (wpv 0)) (ag (aE aq) aD)))) (ag (fg hu (dG (ag (aE aq) (ag (aE aq) (ag (aE aq) (ag (aE aq) (ag (bZ bS bR (aE aq) (aZ aQ hr rfl (ag (ak (wpv 0)) (ag (aE aq) aD)))) aD)))))) (aZ aQ hr rfl (ag (ak (wpv 0)) (ag (aE aq) aD))) (fun _ _=>rfl) (fun _ _=>rfl)) aD))))))
theorem ma:a7 ["dealing","many","deed"] ["dealing"] (aG jU):=⟨rfl,rfl,rfl,by decide +kernel,rfl,by decide +kernel,by decide +kernel⟩
theorem ic{k:Nat}{a9:Fn}(d:Def K mg "_law_size" jU ["dealing"])(B:Blt mg)(f6:eM P w K mg base "_law_size" (k) ["dealing"] a9):eM P w K mg base "_law_size" (k+1) ["dealing"] (fnU 3 1 (j3 a9)):=
 d.pure ma fun f cdv A outer s H E hr=>(by
  have hu:=d8 hr;have nd:=ma.nd;exact(ax (aS (i:=1) nd rfl (by trivial) (aE aq))
   (ax (iI PassesOwn.never rfl (me (ak (wpv 0))) (eQ (cH (i:=2) nd rfl (by trivial))) (ax (aS (i:=1) nd rfl (by trivial) (bZ bS bR (ak (wpv 1)) (aE aq)))
   (aH (b6 (aW dz iO (fg hu (ak (wpv 2)) (aE aq) (fun _ _=>rfl) (fun _ _=>rfl)) (aM ay) (aK _)) (aH (aS (i:=1) nd rfl (by trivial) (bZ bS bR (bZ bS bR (ak (wpv 1)) (aZ f6 hr rfl (ag (fg hu (ak (wpv 2)) (aE aq) (fun _ _=>rfl) (fun _ _=>rfl)) aD))) (aZ f6 hr rfl (ag (fg hu (ak (wpv 2)) (aE aq) (fun _ _=>rfl) (fun _ _=>rfl)) aD))))) br))))
   (aH (aV (ak (wpv 1)))))))
theorem f9:a7 ["pen","world","way","hand"] ["pen","world","way","hand"] (aG e9):=⟨rfl,rfl,rfl,by decide +kernel,rfl,by decide +kernel,by decide +kernel⟩
theorem lj{k:Nat}{aC:Fn}(d:Def K mg "_law_plain_deed" e9 ["pen","world","way","hand"])(B:Blt mg)(aQ:eM P w K mg base "_law_take" (k) ["pen","many"] aC):eM P w K mg base "_law_plain_deed" (k+1) ["pen","world","way","hand"] (fnU 4 4 (bN aC)):=
 d.pure f9 fun f cdv A outer s H E hr=>(by
  have hu:=d8 hr;have nd:=f9.nd;exact(ax (b6 (aW gC oE (ak (wpv 2)) (aE aq) (aK _)) (aH (aV (eR (ag (aM ay) (ag (ak (wpv 3)) (ag (aZ aQ hr rfl (ag (ak (wpv 0)) (ag (fg hu (ak (wpv 1)) (aE aq) (fun _ _=>rfl) (fun _ _=>rfl)) aD))) aD)))))) br)
   (ax (b6 (aW gC oE (ak (wpv 2)) (aE aq) (aK _)) (aH (aV (eR (ag (aM ay) (ag (aZ aQ hr rfl (ag (ak (wpv 0)) (ag (fg hu (ak (wpv 1)) (aE aq) (fun _ _=>rfl) (fun _ _=>rfl)) aD))) (ag (ak (wpv 3)) aD)))))) br)
   (ax (b6 (aW gC oE (ak (wpv 2)) (aE aq) (aK _)) (aH (aV (eR (ag (aM ay) (ag (ak (wpv 3)) (ag (aZ aQ hr rfl (ag (ak (wpv 0)) (ag (fg hu (ak (wpv 1)) (aE aq) (fun _ _=>rfl) (fun _ _=>rfl)) aD))) aD)))))) br)
   (ax (b6 (aW gC oE (ak (wpv 2)) (aE aq) (aK _)) (aH (aV (eR (ag (aM ay) (ag (ak (wpv 3)) (ag (aZ aQ hr rfl (ag (ak (wpv 0)) (ag (aE aq) aD))) aD)))))) br)
   (aH (aV (eR (ag (aM ay) (ag (ak (wpv 3)) (ag (bZ bS bR (aE aq) (aZ aQ hr rfl (ag (ak (wpv 0)) (ag (fg hu (dG (ag (aE aq) (ag (aE aq) aD))) (aZ aQ hr rfl (ag (ak (wpv 0)) (ag (aE aq) aD))) (fun _ _=>rfl) (fun _ _=>rfl)) aD)))) aD)))))))))))
theorem iU:a7 ["pen","world","room","tries","deeds","left","k","way","hand","one","other"] ["pen","world","room","tries"] (aG gy):=⟨rfl,rfl,rfl,by decide +kernel,rfl,by decide +kernel,by decide +kernel⟩
theorem fq{k:Nat}{aC bC aI a9:Fn}(d:Def K mg "_law_dealing" gy ["pen","world","room","tries"])(B:Blt mg)(aQ:eM P w K mg base "_law_take" (k) ["pen","many"] aC)(lI:eM P w K mg base "_law_plain_deed" (k) ["pen","world","way","hand"] bC)(fE:eM P w K mg base "_law_dealing" (k) ["pen","world","room","tries"] aI)(f6:eM P w K mg base "_law_size" (k) ["dealing"] a9):eM P w K mg base "_law_dealing" (k+1) ["pen","world","room","tries"] (fnU 11 4 (gG aC bC aI a9)):=
 d.pure iU fun f cdv A outer s H E hr=>(by
  have hu:=d8 hr;have nd:=iU.nd;exact(ax (aS (i:=4) nd rfl (by trivial) (dG aD))
   (ax (aS (i:=5) nd rfl (by trivial) (ak (wpv 2)))
   (ax (iI PassesOwn.never rfl (nG rfl B.range (ag (aZ aQ hr rfl (ag (ak (wpv 0)) (ag (bZ bS bR (cD (zR rfl) MJ rfl B.min OG.Cd (ag (aE aq) (ag (ak (wpv 2)) aD))) (aE aq)) aD))) aD)) (eQ (cH (i:=6) nd rfl (by trivial))) (ax (aS (i:=7) nd rfl (by trivial) (aZ aQ hr rfl (ag (ak (wpv 0)) (ag (aE aq) aD))))
   (ax (aS (i:=8) nd rfl (by trivial) (aZ aQ hr rfl (ag (ak (wpv 0)) (ag (aE aq) aD))))
   (aH (b6 (yr (p7 (aW oF Am (ak (wpv 5)) (aE aq) (aK _)) (p7 (aW gC oE (cD ja i9 rfl B.len PySem.boot_len (ag (ak (wpv 4)) aD)) (aE aq) (aK _)) (o9 (aW gC oE (ak (wpv 7)) (aE aq) (aK _)))))) (ax (a8 (dq (ak (wpv 4)) (ag (aZ lI hr rfl (ag (ak (wpv 0)) (ag (ak (wpv 1)) (ag (ak (wpv 7)) (ag (ak (wpv 8)) aD))))) aD)))
   (aH (aS (i:=5) nd rfl (by trivial) (bZ eU hR (ak (wpv 5)) (aE aq))))) (aH (b6 (yr (p7 (aW oF Am (ak (wpv 5)) (aE aq) (aK _)) (p7 (aW gC oE (cD ja i9 rfl B.len PySem.boot_len (ag (ak (wpv 4)) aD)) (aE aq) (aK _)) (o9 (yr (CQ (aW dz iO (ak (wpv 7)) (aE aq) (aK _)) (yt (aW dz iO (ak (wpv 3)) (aE aq) (aK _))))))))) (ax (b6 (yr (p7 (aW oF Am (ak (wpv 5)) (aE aq) (aK _)) (p7 (aW gC oE (cD ja i9 rfl B.len PySem.boot_len (ag (ak (wpv 4)) aD)) (aE aq) (aK _)) (o9 (aW oF Am (aZ aQ hr rfl (ag (ak (wpv 0)) (ag (aE aq) aD))) (aE aq) (aK _)))))) (ax (a8 (dq (ak (wpv 4)) (ag (eR (ag (aM ay) (ag (ak (wpv 8)) (ag (aE aq) aD)))) aD)))
   (aH (aS (i:=5) nd rfl (by trivial) (bZ eU hR (ak (wpv 5)) (aE aq))))) br)
   (ax (a8 (dq (ak (wpv 4)) (ag (eR (ag (aM ay) aD)) aD)))
   (aH (aS (i:=5) nd rfl (by trivial) (bZ eU hR (ak (wpv 5)) (aE aq)))))) (aH (b6 (yr (p7 (aW oF Am (ak (wpv 5)) (aE aq) (aK _)) (o9 (aW gC oE (cD ja i9 rfl B.len PySem.boot_len (ag (ak (wpv 4)) aD)) (aE aq) (aK _))))) (ax (aS (i:=9) nd rfl (by trivial) (aZ fE hr rfl (ag (ak (wpv 0)) (ag (ak (wpv 1)) (ag (aZ aQ hr rfl (ag (ak (wpv 0)) (ag (ak (wpv 5)) aD))) (ag (bZ eU hR (ak (wpv 3)) (aE aq)) aD))))))
   (ax (aS (i:=5) nd rfl (by trivial) (bZ eU hR (bZ eU hR (ak (wpv 5)) (aE aq)) (aZ f6 hr rfl (ag (ak (wpv 9)) aD))))
   (ax (aS (i:=10) nd rfl (by trivial) (aZ fE hr rfl (ag (ak (wpv 0)) (ag (ak (wpv 1)) (ag (aZ aQ hr rfl (ag (ak (wpv 0)) (ag (bZ bS bR (ak (wpv 5)) (aE aq)) aD))) (ag (bZ eU hR (ak (wpv 3)) (aE aq)) aD))))))
   (ax (aS (i:=5) nd rfl (by trivial) (bZ eU hR (ak (wpv 5)) (aZ f6 hr rfl (ag (ak (wpv 10)) aD))))
   (aH (a8 (dq (ak (wpv 4)) (ag (eR (ag (aM ay) (ag (ak (wpv 9)) (ag (ak (wpv 10)) aD)))) aD)))))))) br)))))))))
   (aH (aV (eS ik tW rfl B.tuple OG.lD (ag (ak (wpv 4)) aD))))))))
def dF(cReader:Cl):CR:=
 (xIf (wV (aL (ah 1))) (xv (ae (jx cReader 2 (ah 0)) aB)) xNo)
def nZ{cReader:Cl}{a0 a1:U}{S:Sto}:fnX 2 2 (dF cReader) [a0,a1] S=(dF cReader) [some a0,some a1] S:=rfl
theorem oB{k:Nat}{cReader:Cl}{CT:Addr}{CG CA CR CS CM fI:Addr}(d:MtD K cReader.C "check" "Reader.check" fj ["self","fits"])(B:Blt mg)(V:Co K mg CT CG CA CR CS CM fI)(TReader:TC K cReader ["world","words","place","many"])(Z:XNt P w K mg base CT CG k):dC CT P w K mg base cReader "check" (k+1+1) ["self","fits"] (fnX 2 2 (dF cReader)):=
 d.pureR eP fun f cdv A outer s H E hr=>(by
  have hu:=d8 hr;have nd:=eP.nd;exact(eC (Iq (ko (iJ (ak (wpv 1)))) (eC (A1 Z hr rfl V.gt (ag (hJ TReader.cl (TReader.na 2 rfl) (TReader.ix rfl) (ak (wpv 0))) aD))) Ip)))
def bQ(bY aA ao aw:Fn)(x_Reader_check:FnR)(cReader:Cl):CR:=
 (uP (bj 2 (cCB bY (ae (bc cReader aA (ah 0) aB) aB)))
  (gu cReader x_Reader_check (ah 0) (ae (gI (cOp gE (ah 2) (cC .non)) (ji fLe fLe (cOp fIx (ah 1) (cC (.int 0))) (ah 2) (cOp fIx (ah 1) (cC (.int 1))))) aB)))
theorem jb{bY aA ao aw:Fn}{x_Reader_check:FnR}{cReader:Cl}{a0 a1:U}{S:Sto}:fnX 3 2 (bQ bY aA ao aw x_Reader_check cReader) [a0,a1] S=(bQ bY aA ao aw x_Reader_check cReader) [some a0,some a1,none] S:=rfl
theorem jy{k:Nat}{bY aA ao aw:Fn}{x_Reader_check:FnR}{cReader:Cl}{CT:Addr}{CG CA CR CS CM fI:Addr}(d:MtD K cReader.C "read_number" "Reader.read_number" cI ["self","bound"])(B:Blt mg)(V:Co K mg CT CG CA CR CS CM fI)(TReader:TC K cReader ["world","words","place","many"])(j7:eM P w K mg base "number_in" (k) ["word"] bY)(M_Reader_word:ef P w K mg base cReader "word" (k) ["self"] aA)(M_Reader_check:ef P w K mg base cReader "check" (k) ["self","fits"] ao)(M_Reader_go_on:ef P w K mg base cReader "go_on" (k) ["self"] aw)(R_Reader_check:dC CT P w K mg base cReader "check" (k) ["self","fits"] x_Reader_check):dC CT P w K mg base cReader "read_number" (k+1) ["self","bound"] (fnX 3 2 (bQ bY aA ao aw x_Reader_check cReader)):=
 d.pureR cw fun f cdv A outer s H E hr=>(by
  have hu:=d8 hr;have nd:=cw.nd;exact(jF (aS (i:=2) nd rfl (by trivial) (aZ j7 hr rfl (ag (cY TReader.cl M_Reader_word hr (TReader.nm (by decide +kernel)) (ak (wpv 0))) aD)))
   (eC (i7 (fJ TReader.cl R_Reader_check hr k9 (TReader.nm (by decide +kernel)) (ak (wpv 0)) (ag (nI (fM lg pf (ak (wpv 2)) (kq eN) (aK _)) (tQ (yv BC KZ BC KZ (fg hu (ak (wpv 1)) (aE aq) (fun _ _=>rfl) (fun _ _=>rfl)) (ak (wpv 2)) (fg hu (ak (wpv 1)) (aE aq) (fun _ _=>rfl) (fun _ _=>rfl))))) aD))))))
def bw(bx aA aP ao aw aJ:Fn)(x_Reader_read_try x_Reader_check x_Reader_read_number:FnR)(cReader:Cl):CR:=
 (uP (bj 2 (bc cReader aA (ah 0) aB))
  (uO (cE (aL (cOp fEq (ah 2) (cC (.str "try")))) (cm (bc cReader aP (ah 0) (ae (ah 1) aB))) bb) (xIf (aL (cOp fEq (ah 2) (cC (.str "try")))) (gu cReader x_Reader_read_try (ah 0) (ae (ah 1) aB)) xNo)
  (uP (bj 3 (cCB bx (ae (jx cReader 0 (ah 0)) (ae (ah 2) aB))))
  (uO (bp (bc cReader ao (ah 0) (ae (cOp gE (ah 3) (cC .non)) aB))) (gu cReader x_Reader_check (ah 0) (ae (cOp gE (ah 3) (cC .non)) aB))
  (uP (bp (bc cReader aw (ah 0) aB))
  (uP (bj 4 (b7 (ae (ah 2) aB)))
  (Cc (iTp (ah 3)) (gNm 5) (bq bx aA aP ao aw aJ cReader) (DM (ah 4) (gu cReader x_Reader_read_number (ah 0) (ae (ah 5) aB))))))))))
theorem eF{bx aA aP ao aw aJ:Fn}{x_Reader_read_try x_Reader_check x_Reader_read_number:FnR}{cReader:Cl}{a0 a1:U}{S:Sto}:fnX 6 2 (bw bx aA aP ao aw aJ x_Reader_read_try x_Reader_check x_Reader_read_number cReader) [a0,a1] S=(bw bx aA aP ao aw aJ x_Reader_read_try x_Reader_check x_Reader_read_number cReader) [some a0,some a1,none,none,none,none] S:=rfl
theorem dj{k:Nat}{bx aA aP ao aw aJ:Fn}{x_Reader_read_try x_Reader_check x_Reader_read_number:FnR}{cReader:Cl}{CT:Addr}{CG CA CR CS CM fI:Addr}(d:MtD K cReader.C "read_deed" "Reader.read_deed" dh ["self","tries_left"])(B:Blt mg)(V:Co K mg CT CG CA CR CS CM fI)(TReader:TC K cReader ["world","words","place","many"])(j8:eM P w K mg base "bounds_of" (k) ["world","word"] bx)(M_Reader_word:ef P w K mg base cReader "word" (k) ["self"] aA)(M_Reader_read_try:ef P w K mg base cReader "read_try" (k) ["self","tries_left"] aP)(M_Reader_check:ef P w K mg base cReader "check" (k) ["self","fits"] ao)(M_Reader_go_on:ef P w K mg base cReader "go_on" (k) ["self"] aw)(M_Reader_read_number:ef P w K mg base cReader "read_number" (k) ["self","bound"] aJ)(R_Reader_read_try:dC CT P w K mg base cReader "read_try" (k) ["self","tries_left"] x_Reader_read_try)(R_Reader_check:dC CT P w K mg base cReader "check" (k) ["self","fits"] x_Reader_check)(R_Reader_read_number:dC CT P w K mg base cReader "read_number" (k) ["self","bound"] x_Reader_read_number):dC CT P w K mg base cReader "read_deed" (k+1) ["self","tries_left"] (fnX 6 2 (bw bx aA aP ao aw aJ x_Reader_read_try x_Reader_check x_Reader_read_number cReader)):=
 d.pureR cQ fun f cdv A outer s H E hr=>(by
  have hu:=d8 hr;have nd:=cQ.nd;exact(jF (aS (i:=2) nd rfl (by trivial) (cY TReader.cl M_Reader_word hr (TReader.nm (by decide +kernel)) (ak (wpv 0))))
   (nF (b6 (aW dz iO (ak (wpv 2)) (aM ay) (aK _)) (aH (aV (dZ TReader.cl M_Reader_read_try hr (TReader.nm (by decide +kernel)) (ak (wpv 0)) (ag (ak (wpv 1)) aD)))) br) (Iq (aW dz iO (ak (wpv 2)) (aM ay) (aK _)) (eC (CL (fJ TReader.cl R_Reader_read_try hr k9 (TReader.nm (by decide +kernel)) (ak (wpv 0)) (ag (ak (wpv 1)) aD)))) Ip)
   (jF (aS (i:=3) nd rfl (by trivial) (aZ j8 hr rfl (ag (hJ TReader.cl (TReader.na 0 rfl) (TReader.ix rfl) (ak (wpv 0))) (ag (ak (wpv 2)) aD))))
   (nF (a8 (dZ TReader.cl M_Reader_check hr (TReader.nm (by decide +kernel)) (ak (wpv 0)) (ag (fM lg pf (ak (wpv 3)) (kq eN) (aK _)) aD))) (i7 (fJ TReader.cl R_Reader_check hr k9 (TReader.nm (by decide +kernel)) (ak (wpv 0)) (ag (fM lg pf (ak (wpv 3)) (kq eN) (aK _)) aD)))
   (jF (a8 (cY TReader.cl M_Reader_go_on hr (TReader.nm (by decide +kernel)) (ak (wpv 0))))
   (jF (aS (i:=4) nd rfl (by trivial) (dG (ag (ak (wpv 2)) aD)))
   (eC (Ir PassesOwn.leaving rfl (me (ak (wpv 3))) (eQ (cH (i:=5) nd rfl (by trivial))) (aH (a8 (dq (ak (wpv 4)) (ag (dZ TReader.cl M_Reader_read_number hr (TReader.nm (by decide +kernel)) (ak (wpv 0)) (ag (ak (wpv 5)) aD)) aD)))) (eC (i7 (CN (ak (wpv 4)) (yl (fJ TReader.cl R_Reader_read_number hr k9 (TReader.nm (by decide +kernel)) (ak (wpv 0)) (ag (ak (wpv 5)) aD)))))))))))))))
def bD(ao aw aF:Fn)(x_Reader_check x_Reader_read_run:FnR)(cReader:Cl):CR:=
 (uO (bp (bc cReader ao (ah 0) (ae (cOp fGt (ah 1) (cC (.int 0))) aB))) (gu cReader x_Reader_check (ah 0) (ae (cOp fGt (ah 1) (cC (.int 0))) aB))
  (uP (bp (bc cReader aw (ah 0) aB))
  (uO (bj 2 (bc cReader aF (ah 0) (ae (cOp gM (ah 1) (cC (.int 1))) aB))) (gu cReader x_Reader_read_run (ah 0) (ae (cOp gM (ah 1) (cC (.int 1))) aB))
  (gu cReader x_Reader_read_run (ah 0) (ae (cOp gM (ah 1) (cC (.int 1))) aB)))))
theorem eV{ao aw aF:Fn}{x_Reader_check x_Reader_read_run:FnR}{cReader:Cl}{a0 a1:U}{S:Sto}:fnX 4 2 (bD ao aw aF x_Reader_check x_Reader_read_run cReader) [a0,a1] S=(bD ao aw aF x_Reader_check x_Reader_read_run cReader) [some a0,some a1,none,none] S:=rfl
theorem dQ{k:Nat}{ao aw aF:Fn}{x_Reader_check x_Reader_read_run:FnR}{cReader:Cl}{CT:Addr}{CG CA CR CS CM fI:Addr}(d:MtD K cReader.C "read_try" "Reader.read_try" dM ["self","tries_left"])(B:Blt mg)(V:Co K mg CT CG CA CR CS CM fI)(TReader:TC K cReader ["world","words","place","many"])(M_Reader_check:ef P w K mg base cReader "check" (k) ["self","fits"] ao)(M_Reader_go_on:ef P w K mg base cReader "go_on" (k) ["self"] aw)(M_Reader_read_run:ef P w K mg base cReader "read_run" (k) ["self","tries_left"] aF)(R_Reader_check:dC CT P w K mg base cReader "check" (k) ["self","fits"] x_Reader_check)(R_Reader_read_run:dC CT P w K mg base cReader "read_run" (k) ["self","tries_left"] x_Reader_read_run):dC CT P w K mg base cReader "read_try" (k+1) ["self","tries_left"] (fnX 4 2 (bD ao aw aF x_Reader_check x_Reader_read_run cReader)):=
 d.pureR cZ fun f cdv A outer s H E hr=>(by
  have hu:=d8 hr;have nd:=cZ.nd;exact(nF (a8 (dZ TReader.cl M_Reader_check hr (TReader.nm (by decide +kernel)) (ak (wpv 0)) (ag (fM oF Am (ak (wpv 1)) (aE aq) (aK _)) aD))) (i7 (fJ TReader.cl R_Reader_check hr k9 (TReader.nm (by decide +kernel)) (ak (wpv 0)) (ag (fM oF Am (ak (wpv 1)) (aE aq) (aK _)) aD)))
   (jF (a8 (cY TReader.cl M_Reader_go_on hr (TReader.nm (by decide +kernel)) (ak (wpv 0))))
   (nF (aS (i:=2) nd rfl (by trivial) (dZ TReader.cl M_Reader_read_run hr (TReader.nm (by decide +kernel)) (ak (wpv 0)) (ag (bZ eU hR (ak (wpv 1)) (aE aq)) aD))) (yi (i:=2) nd rfl (by trivial) (fJ TReader.cl R_Reader_read_run hr k9 (TReader.nm (by decide +kernel)) (ak (wpv 0)) (ag (bZ eU hR (ak (wpv 1)) (aE aq)) aD)))
   (eC (yi (i:=3) nd rfl (by trivial) (fJ TReader.cl R_Reader_read_run hr k9 (TReader.nm (by decide +kernel)) (ak (wpv 0)) (ag (bZ eU hR (ak (wpv 1)) (aE aq)) aD))))))))
def bW(ao aA aw aN:Fn)(x_Reader_check x_Reader_read_deed:FnR)(cReader:Cl)(fuel:Nat):CR:=
 (uO (bp (bc cReader ao (ah 0) (ae (cOp fEq (bc cReader aA (ah 0) aB) (cC (.str "("))) aB))) (gu cReader x_Reader_check (ah 0) (ae (cOp fEq (bc cReader aA (ah 0) aB) (cC (.str "("))) aB))
  (uP (bp (bc cReader aw (ah 0) aB))
  (uP (bj 2 (b7 aB))
  (iS (aL (cOp fNe (bc cReader aA (ah 0) aB) (cC (.str ")")))) (bA ao aA aw aN cReader fuel) (uO (bp (bc cReader ao (ah 0) (ae (gI (cOp fLt (cCB gN (ae (ah 2) aB)) (cC (.int 12))) (cOp fLt (jx cReader 3 (ah 0)) (cC (.int 40)))) aB))) (gu cReader x_Reader_check (ah 0) (ae (gI (cOp fLt (cCB gN (ae (ah 2) aB)) (cC (.int 12))) (cOp fLt (jx cReader 3 (ah 0)) (cC (.int 40)))) aB))
  (uP (lB cReader 3 (ah 0) (cOp bI (jx cReader 3 (ah 0)) (cC (.int 1))))
  (DM (ah 2) (gu cReader x_Reader_read_deed (ah 0) (ae (ah 1) aB))))) fuel))))
theorem gj{ao aA aw aN:Fn}{x_Reader_check x_Reader_read_deed:FnR}{cReader:Cl}{fuel:Nat}{a0 a1:U}{S:Sto}:fnX 3 2 (bW ao aA aw aN x_Reader_check x_Reader_read_deed cReader fuel) [a0,a1] S=(bW ao aA aw aN x_Reader_check x_Reader_read_deed cReader fuel) [some a0,some a1,none] S:=rfl
theorem dR{k:Nat}{ao aA aw aN:Fn}{x_Reader_check x_Reader_read_deed:FnR}{cReader:Cl}{fuel:Nat}{CT:Addr}{CG CA CR CS CM fI:Addr}(d:MtD K cReader.C "read_run" "Reader.read_run" dN ["self","tries_left"])(B:Blt mg)(V:Co K mg CT CG CA CR CS CM fI)(C_MOST_IN_TUPLE:∃t,mg "MOST_IN_TUPLE"=some (.int (12) t))(C_MOST_IN_ALL:∃t,mg "MOST_IN_ALL"=some (.int (40) t))(TReader:TC K cReader ["world","words","place","many"])(M_Reader_check:ef P w K mg base cReader "check" (k) ["self","fits"] ao)(M_Reader_word:ef P w K mg base cReader "word" (k) ["self"] aA)(M_Reader_go_on:ef P w K mg base cReader "go_on" (k) ["self"] aw)(M_Reader_read_deed:ef P w K mg base cReader "read_deed" (k) ["self","tries_left"] aN)(R_Reader_check:dC CT P w K mg base cReader "check" (k) ["self","fits"] x_Reader_check)(R_Reader_read_deed:dC CT P w K mg base cReader "read_deed" (k) ["self","tries_left"] x_Reader_read_deed):dC CT P w K mg base cReader "read_run" (k+1) ["self","tries_left"] (fnX 3 2 (bW ao aA aw aN x_Reader_check x_Reader_read_deed cReader fuel)):=
 d.pureR dc fun f cdv A outer s H E hr=>(by
  have hu:=d8 hr;have nd:=dc.nd;exact(nF (a8 (dZ TReader.cl M_Reader_check hr (TReader.nm (by decide +kernel)) (ak (wpv 0)) (ag (fM dz iO (cY TReader.cl M_Reader_word hr (TReader.nm (by decide +kernel)) (ak (wpv 0))) (aM ay) (aK _)) aD))) (i7 (fJ TReader.cl R_Reader_check hr k9 (TReader.nm (by decide +kernel)) (ak (wpv 0)) (ag (fM dz iO (cY TReader.cl M_Reader_word hr (TReader.nm (by decide +kernel)) (ak (wpv 0))) (aM ay) (aK _)) aD)))
   (jF (a8 (cY TReader.cl M_Reader_go_on hr (TReader.nm (by decide +kernel)) (ak (wpv 0))))
   (jF (aS (i:=2) nd rfl (by trivial) (dG aD))
   (eC (A0 fuel PassesOwn.leaving (aW BB KY (cY TReader.cl M_Reader_word hr (TReader.nm (by decide +kernel)) (ak (wpv 0))) (aM ay) (aK _)) (ax (a8 (dZ TReader.cl M_Reader_check hr (TReader.nm (by decide +kernel)) (ak (wpv 0)) (ag (nI (fM gC oE (cD ja i9 rfl B.len PySem.boot_len (ag (ak (wpv 2)) aD)) (aE (eB rfl C_MOST_IN_TUPLE)) (aK _)) (tQ (fM gC oE (hJ TReader.cl (TReader.na 3 rfl) (TReader.ix rfl) (ak (wpv 0))) (aE (eB rfl C_MOST_IN_ALL)) (aK _)))) aD)))
   (ax (i8 TReader.cl (TReader.na 3 rfl) (TReader.ix rfl) (ak (wpv 0)) (bZ bS bR (hJ TReader.cl (TReader.na 3 rfl) (TReader.ix rfl) (ak (wpv 0))) (aE aq)))
   (aH (a8 (dq (ak (wpv 2)) (ag (dZ TReader.cl M_Reader_read_deed hr (TReader.nm (by decide +kernel)) (ak (wpv 0)) (ag (ak (wpv 1)) aD)) aD)))))) (nF (a8 (dZ TReader.cl M_Reader_check hr (TReader.nm (by decide +kernel)) (ak (wpv 0)) (ag (nI (fM gC oE (cD ja i9 rfl B.len PySem.boot_len (ag (ak (wpv 2)) aD)) (aE (eB rfl C_MOST_IN_TUPLE)) (aK _)) (tQ (fM gC oE (hJ TReader.cl (TReader.na 3 rfl) (TReader.ix rfl) (ak (wpv 0))) (aE (eB rfl C_MOST_IN_ALL)) (aK _)))) aD))) (i7 (fJ TReader.cl R_Reader_check hr k9 (TReader.nm (by decide +kernel)) (ak (wpv 0)) (ag (nI (fM gC oE (cD ja i9 rfl B.len PySem.boot_len (ag (ak (wpv 2)) aD)) (aE (eB rfl C_MOST_IN_TUPLE)) (aK _)) (tQ (fM gC oE (hJ TReader.cl (TReader.na 3 rfl) (TReader.ix rfl) (ak (wpv 0))) (aE (eB rfl C_MOST_IN_ALL)) (aK _)))) aD)))
   (jF (i8 TReader.cl (TReader.na 3 rfl) (TReader.ix rfl) (ak (wpv 0)) (bZ bS bR (hJ TReader.cl (TReader.na 3 rfl) (TReader.ix rfl) (ak (wpv 0))) (aE aq)))
   (eC (i7 (CN (ak (wpv 2)) (yl (fJ TReader.cl R_Reader_read_deed hr k9 (TReader.nm (by decide +kernel)) (ak (wpv 0)) (ag (ak (wpv 1)) aD))))))))))))))
def bX(aF ao:Fn)(x_Reader_read_run x_Reader_check:FnR)(cReader:Cl):CR:=
 (uO (bj 1 (bc cReader aF (ah 0) (ae (cC (.int 3)) aB))) (gu cReader x_Reader_read_run (ah 0) (ae (cC (.int 3)) aB))
  (gu cReader x_Reader_check (ah 0) (ae (cOp fEq (jx cReader 2 (ah 0)) (cCB gN (ae (jx cReader 1 (ah 0)) aB))) aB)))
theorem gk{aF ao:Fn}{x_Reader_read_run x_Reader_check:FnR}{cReader:Cl}{a0:U}{S:Sto}:fnX 2 1 (bX aF ao x_Reader_read_run x_Reader_check cReader) [a0] S=(bX aF ao x_Reader_read_run x_Reader_check cReader) [some a0,none] S:=rfl
theorem k8{k:Nat}{aF ao:Fn}{x_Reader_read_run x_Reader_check:FnR}{cReader:Cl}{CT:Addr}{CG CA CR CS CM fI:Addr}(d:MtD K cReader.C "read_all" "Reader.read_all" dP ["self"])(B:Blt mg)(V:Co K mg CT CG CA CR CS CM fI)(C_MOST_TRIES:∃t,mg "MOST_TRIES"=some (.int (3) t))(TReader:TC K cReader ["world","words","place","many"])(M_Reader_read_run:ef P w K mg base cReader "read_run" (k) ["self","tries_left"] aF)(M_Reader_check:ef P w K mg base cReader "check" (k) ["self","fits"] ao)(R_Reader_read_run:dC CT P w K mg base cReader "read_run" (k) ["self","tries_left"] x_Reader_read_run)(R_Reader_check:dC CT P w K mg base cReader "check" (k) ["self","fits"] x_Reader_check):dC CT P w K mg base cReader "read_all" (k+1) ["self"] (fnX 2 1 (bX aF ao x_Reader_read_run x_Reader_check cReader)):=
 d.pureR de fun f cdv A outer s H E hr=>(by
  have hu:=d8 hr;have nd:=de.nd;exact(nF (aS (i:=1) nd rfl (by trivial) (dZ TReader.cl M_Reader_read_run hr (TReader.nm (by decide +kernel)) (ak (wpv 0)) (ag (aE (eB rfl C_MOST_TRIES)) aD))) (yi (i:=1) nd rfl (by trivial) (fJ TReader.cl R_Reader_read_run hr k9 (TReader.nm (by decide +kernel)) (ak (wpv 0)) (ag (aE (eB rfl C_MOST_TRIES)) aD)))
   (eC (i7 (fJ TReader.cl R_Reader_check hr k9 (TReader.nm (by decide +kernel)) (ak (wpv 0)) (ag (fM dz iO (hJ TReader.cl (TReader.na 2 rfl) (TReader.ix rfl) (ak (wpv 0))) (cD ja i9 rfl B.len PySem.boot_len (ag (hJ TReader.cl (TReader.na 1 rfl) (TReader.ix rfl) (ak (wpv 0))) aD)) (aK _)) aD))))))
def dE(aX bt:Fn)(x_Reader_read_all:FnR)(cReader:Cl):CR:=
 (gu cReader x_Reader_read_all (cCB (qp cReader bt) (ae (ah 0) (ae (cBS fN (ah 1) (ae (cC (.str " ")) aB)) aB))) aB)
theorem nY{aX bt:Fn}{x_Reader_read_all:FnR}{cReader:Cl}{a0 a1:U}{S:Sto}:fnX 2 2 (dE aX bt x_Reader_read_all cReader) [a0,a1] S=(dE aX bt x_Reader_read_all cReader) [some a0,some a1] S:=rfl
theorem oA{k:Nat}{aX bt:Fn}{x_Reader_read_all:FnR}{cReader:Cl}{CT:Addr}{CG CA CR CS CM fI:Addr}(d:Def K mg "read_dealing" fi ["world","text"])(B:Blt mg)(V:Co K mg CT CG CA CR CS CM fI)(TReader:TC K cReader ["world","words","place","many"])(M_Reader_read_all:ef P w K mg base cReader "read_all" (k+1) ["self"] aX)(R_Reader_read_all:dC CT P w K mg base cReader "read_all" (k+1) ["self"] x_Reader_read_all)(M_Reader:CMk P w K mg base cReader "Reader" k ["self","world","words"] bt):Le CT P w K mg base "read_dealing" (k+1+1) ["world","text"] (fnX 2 2 (dE aX bt x_Reader_read_all cReader)):=
 DfD.pureX d eO fun f cdv A outer s H E hr=>(by
  have hu:=d8 hr;have nd:=eO.nd;exact(eC (CL (A7 TReader.cl R_Reader_read_all hr k9 (TReader.nm (by decide +kernel)) (CU M_Reader hr rfl (ag (ak (wpv 0)) (ag (tP (ak (wpv 1)) (ag (aM ay) aD)) aD)))))))
theorem kj:a7 ["dealing","found","deed"] ["dealing"] (aG iY):=⟨rfl,rfl,rfl,by decide +kernel,rfl,by decide +kernel,by decide +kernel⟩
theorem fF{k:Nat}{aR:Fn}(d:Def K mg "_law_words" iY ["dealing"])(B:Blt mg)(eL:eM P w K mg base "_law_words" (k) ["dealing"] aR):eM P w K mg base "_law_words" (k+1) ["dealing"] (fnU 3 1 (jg aR)):=
 d.pure kj fun f cdv A outer s H E hr=>(by
  have hu:=d8 hr;have nd:=kj.nd;exact(ax (aS (i:=1) nd rfl (by trivial) (dG (ag (aM ay) aD)))
   (ax (iI PassesOwn.never rfl (me (ak (wpv 0))) (eQ (cH (i:=2) nd rfl (by trivial))) (aH (b6 (aW dz iO (fg hu (ak (wpv 2)) (aE aq) (fun _ _=>rfl) (fun _ _=>rfl)) (aM ay) (aK _)) (aH (aS (i:=1) nd rfl (by trivial) (bZ bS bR (bZ bS bR (bZ bS bR (ak (wpv 1)) (dG (ag (aM ay) aD))) (aZ eL hr rfl (ag (fg hu (ak (wpv 2)) (aE aq) (fun _ _=>rfl) (fun _ _=>rfl)) aD))) (aZ eL hr rfl (ag (fg hu (ak (wpv 2)) (aE aq) (fun _ _=>rfl) (fun _ _=>rfl)) aD))))) (aH (aS (i:=1) nd rfl (by trivial) (bZ bS bR (bZ bS bR (ak (wpv 1)) (dG (ag (fg hu (ak (wpv 2)) (aE aq) (fun _ _=>rfl) (fun _ _=>rfl)) aD))) (CV (Nc:=["number"]) (tn:=["number"]) (capN:=[]) (caps:=[]) rfl (me (sQ (ak (wpv 2)) (cT (aE aq)) fe)) (fun _ _ _=>(eQ (cH (i:=0) (show(["number"]:List Str).Nodup by decide +kernel) rfl (by trivial)))) (fun _ _ _=>(eS dI tY rfl B.str OG.iD (ag (ak (wpv 0)) aD))) rfl rfl (by decide +kernel) (by decide +kernel) trivial rfl .nil rfl rfl)))))))
   (aH (aV (bZ bS bR (ak (wpv 1)) (dG (ag (aM ay) aD))))))))
theorem jC:a7 ["word","low","high","number"] ["word","low","high"] (aG gW):=⟨rfl,rfl,rfl,by decide +kernel,rfl,by decide +kernel,by decide +kernel⟩
def bV:CS:=
 (cE (aL (cOp fEq (ah 0) (cCB mj (ae (ah 3) aB)))) (cm (cC (.bl true))) bb)
def iC:CS:=
 (aT (gO (h9 (ae (ah 1) (ae (cOp bI (ah 2) (cC (.int 1))) aB))) (gNm 3) (bV ))
  (cm (cC (.bl false))))
theorem qj{k:Nat}(d:Def K mg "_law_number" gW ["word","low","high"])(B:Blt mg):eM P w K mg base "_law_number" (k+1) ["word","low","high"] (fnU 4 3 (iC )):=
 d.pure jC fun f cdv A outer s H E hr=>(by
  have hu:=d8 hr;have nd:=jC.nd;exact(ax (iI PassesOwn.never rfl (rh rfl B.range (ag (ak (wpv 1)) (ag (bZ bS bR (ak (wpv 2)) (aE aq)) aD))) (eQ (cH (i:=3) nd rfl (by trivial))) (aH (b6 (aW dz iO (ak (wpv 0)) (eS dI tY rfl B.str OG.iD (ag (ak (wpv 3)) aD)) (aK _)) (aH (aV (w6 iG))) br)))
   (aH (aV (w6 iG)))))
theorem km:a7 ["world","now","word","due","sort","bounds","parts"] ["world","now","word"] (aG iZ):=⟨rfl,rfl,rfl,by decide +kernel,rfl,by decide +kernel,by decide +kernel⟩
def eJ(fO:Fn):CS:=
 (aT (bj 3 (cOp fIx (ah 1) (cC (.str "due"))))
  (aT (cE (aL (cOp (sR false) (ah 3) (b7 aB))) (cm (cC (.bl false))) bb)
  (aT (bj 4 (cBM BS (ah 3) aB))
  (aT (cE (aL (cOp fEq (ah 4) (cC (.str "part")))) (aT (bp (cBM bJ (cOp fIx (ah 1) (cC (.str "many"))) (ae (cC (.int 0)) aB)))
  (aT (bp (cBM bJ (ah 3) (ae (cC (.str "deed")) aB)))
  (cm (cOp fEq (ah 2) (cC (.str "(")))))) bb)
  (aT (cE (aL (cOp fNe (ah 4) (cC (.str "deed")))) (aT (bj 5 (cOp fIx (lC [((cC (.str "hand")),(fY (ae (cC (.int 0)) (ae (cC (.int 3)) aB)))),((cC (.str "box")),(fY (ae (cC (.int 0)) (ae (cOp gM (cOp fIx (ah 0) (cC (.int 0))) (cC (.int 1))) aB)))),((cC (.str "number")),(fY (ae (cC (.int 0)) (ae (cOp gM (cOp fIx (ah 0) (cC (.int 1))) (cC (.int 1))) aB)))),((cC (.str "leap")),(fY (ae (cC (.int 1)) (ae (cC (.int 12)) aB))))]) (ah 4)))
  (cm (cCB fO (ae (ah 2) (ae (cOp fIx (ah 5) (cC (.int 0))) (ae (cOp fIx (ah 5) (cC (.int 1))) aB)))))) bb)
  (aT (cE (aL (cOp fEq (ah 2) (cC (.str ")")))) (aT (bp (cBM BS (cOp fIx (ah 1) (cC (.str "many"))) aB))
  (cm (cC (.bl true)))) bb)
  (aT (cE (cOr (aL (cOp fEq (cOp fIx (cOp fIx (ah 1) (cC (.str "many"))) (w9 (cC (.int 1)))) (cC (.int 12)))) (aL (cOp fEq (cOp fIx (ah 1) (cC (.str "all"))) (cC (.int 40))))) (cm (cC (.bl false))) bb)
  (aT (iL (cOp fIx (ah 1) (cC (.str "many"))) (w9 (cC (.int 1))) (cOp bI (cOp fIx (cOp fIx (ah 1) (cC (.str "many"))) (w9 (cC (.int 1)))) (cC (.int 1))))
  (aT (iL (ah 1) (cC (.str "all")) (cOp bI (cOp fIx (ah 1) (cC (.str "all"))) (cC (.int 1))))
  (aT (bp (cBM bJ (ah 3) (ae (cC (.str "deed")) aB)))
  (aT (cE (aL (cOp fEq (ah 2) (cC (.str "try")))) (aT (bp (cBM cL (ah 3) (ae (b7 (ae (cC (.str "part")) (ae (cC (.str "part")) aB))) aB)))
  (cm (cOp fLt (cCB gN (ae (cOp fIx (ah 1) (cC (.str "many"))) aB)) (cC (.int 4))))) bb)
  (aT (bj 6 (lC [((cC (.str "look")),(b7 (ae (cC (.str "box")) (ae (cC (.str "hand")) aB)))),((cC (.str "put")),(b7 (ae (cC (.str "hand")) (ae (cC (.str "box")) aB)))),((cC (.str "set")),(b7 (ae (cC (.str "number")) (ae (cC (.str "hand")) aB)))),((cC (.str "plus")),(b7 (ae (cC (.str "hand")) (ae (cC (.str "hand")) aB)))),((cC (.str "leap")),(b7 (ae (cC (.str "leap")) (ae (cC (.str "hand")) aB)))),((cC (.str "wait")),(b7 aB))]))
  (aT (bp (cBM cL (ah 3) (ae (qt (ah 6) (ah 2) (b7 aB)) aB)))
  (cm (cOp (fIn false) (ah 2) (ah 6))))))))))))))))
theorem rX{k:Nat}{fO:Fn}(d:Def K mg "_law_takes" iZ ["world","now","word"])(B:Blt mg)(qC:eM P w K mg base "_law_number" (k) ["word","low","high"] fO):eM P w K mg base "_law_takes" (k+1) ["world","now","word"] (fnU 7 3 (eJ fO)):=
 d.pure km fun f cdv A outer s H E hr=>(by
  have hu:=d8 hr;have nd:=km.nd;exact(ax (aS (i:=3) nd rfl (by trivial) (fg hu (ak (wpv 1)) (aM ay) (fun _ _=>rfl) (fun _ _=>rfl)))
   (ax (b6 (aW (C0 hr.units) E9 (ak (wpv 3)) (dG aD) (aK _)) (aH (aV (w6 iG))) br)
   (ax (aS (i:=4) nd rfl (by trivial) (IG (ak (wpv 3))))
   (ax (b6 (aW dz iO (ak (wpv 4)) (aM ay) (aK _)) (ax (a8 (dq (fg hu (ak (wpv 1)) (aM ay) (fun _ _=>rfl) (fun _ _=>rfl)) (ag (aE aq) aD)))
   (ax (a8 (dq (ak (wpv 3)) (ag (aM ay) aD)))
   (aH (aV (fM dz iO (ak (wpv 2)) (aM ay) (aK _)))))) br)
   (ax (b6 (aW BB KY (ak (wpv 4)) (aM ay) (aK _)) (ax (aS (i:=5) nd rfl (by trivial) (fg hu (yu (fb (aM ay) (eR (ag (aE aq) (ag (aE aq) aD))) (fb (aM ay) (eR (ag (aE aq) (ag (bZ eU hR (fg hu (ak (wpv 0)) (aE aq) (fun _ _=>rfl) (fun _ _=>rfl)) (aE aq)) aD))) (fb (aM ay) (eR (ag (aE aq) (ag (bZ eU hR (fg hu (ak (wpv 0)) (aE aq) (fun _ _=>rfl) (fun _ _=>rfl)) (aE aq)) aD))) (fb (aM ay) (eR (ag (aE aq) (ag (aE aq) aD))) yq)))) rfl rfl (by simp) (by exact Qd rfl) (by exact Qd rfl)) (ak (wpv 4)) (fun _ _=>rfl) (fun _ _=>rfl)))
   (aH (aV (aZ qC hr rfl (ag (ak (wpv 2)) (ag (fg hu (ak (wpv 5)) (aE aq) (fun _ _=>rfl) (fun _ _=>rfl)) (ag (fg hu (ak (wpv 5)) (aE aq) (fun _ _=>rfl) (fun _ _=>rfl)) aD))))))) br)
   (ax (b6 (aW dz iO (ak (wpv 2)) (aM ay) (aK _)) (ax (a8 (IG (fg hu (ak (wpv 1)) (aM ay) (fun _ _=>rfl) (fun _ _=>rfl))))
   (aH (aV (w6 iG)))) br)
   (ax (b6 (yr (CQ (aW dz iO (fg hu (fg hu (ak (wpv 1)) (aM ay) (fun _ _=>rfl) (fun _ _=>rfl)) (EC (aE aq)) (fun _ _=>rfl) (fun _ _=>rfl)) (aE aq) (aK _)) (yt (aW dz iO (fg hu (ak (wpv 1)) (aM ay) (fun _ _=>rfl) (fun _ _=>rfl)) (aE aq) (aK _))))) (aH (aV (w6 iG))) br)
   (ax (js hu (fg hu (ak (wpv 1)) (aM ay) (fun _ _=>rfl) (fun _ _=>rfl)) (EC (aE aq)) (bZ bS bR (fg hu (fg hu (ak (wpv 1)) (aM ay) (fun _ _=>rfl) (fun _ _=>rfl)) (EC (aE aq)) (fun _ _=>rfl) (fun _ _=>rfl)) (aE aq)))
   (ax (js hu (ak (wpv 1)) (aM ay) (bZ bS bR (fg hu (ak (wpv 1)) (aM ay) (fun _ _=>rfl) (fun _ _=>rfl)) (aE aq)))
   (ax (a8 (dq (ak (wpv 3)) (ag (aM ay) aD)))
   (ax (b6 (aW dz iO (ak (wpv 2)) (aM ay) (aK _)) (ax (a8 (pZ (ak (wpv 3)) (ag (dG (ag (aM ay) (ag (aM ay) aD))) aD)))
   (aH (aV (fM gC oE (cD ja i9 rfl B.len PySem.boot_len (ag (fg hu (ak (wpv 1)) (aM ay) (fun _ _=>rfl) (fun _ _=>rfl)) aD)) (aE aq) (aK _))))) br)
   (ax (aS (i:=6) nd rfl (by trivial) (yu (fb (aM ay) (dG (ag (aM ay) (ag (aM ay) aD))) (fb (aM ay) (dG (ag (aM ay) (ag (aM ay) aD))) (fb (aM ay) (dG (ag (aM ay) (ag (aM ay) aD))) (fb (aM ay) (dG (ag (aM ay) (ag (aM ay) aD))) (fb (aM ay) (dG (ag (aM ay) (ag (aM ay) aD))) (fb (aM ay) (dG aD) yq)))))) rfl rfl (by simp) (by exact Qd rfl) (by exact Qd rfl)))
   (ax (a8 (pZ (ak (wpv 3)) (ag (IM hu (ak (wpv 6)) (ak (wpv 2)) (dG aD) ⟨rfl,rfl,rfl,rfl⟩) aD)))
   (aH (aV (O7 hu (ak (wpv 2)) (ak (wpv 6)) (by with_unfolding_all rfl))))))))))))))))))
theorem kh:a7 ["world","words","now","at","word"] ["world","words"] (aG iW):=⟨rfl,rfl,rfl,by decide +kernel,rfl,by decide +kernel,by decide +kernel⟩
def bP(eI:Fn):CS:=
 (cE (wV (aL (cCB eI (ae (ah 0) (ae (ah 2) (ae (ah 4) aB)))))) (cm (ah 3)) bb)
def je(eI:Fn):CS:=
 (aT (bj 2 (lC [((cC (.str "due")),(b7 (ae (cC (.str "part")) aB))),((cC (.str "many")),(b7 aB)),((cC (.str "all")),(cC (.int 0)))]))
  (aT (gO (wL (ah 1)) (gTp [3,4]) (bP eI))
  (aT (cE (aL (cOp (sR false) (cOp fIx (ah 2) (cC (.str "due"))) (b7 aB))) (cm (cC .non)) bb)
  (cm (cCB gN (ae (ah 1) aB))))))
theorem rV{k:Nat}{eI:Fn}(d:Def K mg "_law_wrong" iW ["world","words"])(B:Blt mg)(sP:eM P w K mg base "_law_takes" (k) ["world","now","word"] eI):eM P w K mg base "_law_wrong" (k+1) ["world","words"] (fnU 5 2 (je eI)):=
 d.pure kh fun f cdv A outer s H E hr=>(by
  have hu:=d8 hr;have nd:=kh.nd;exact(ax (aS (i:=2) nd rfl (by trivial) (yu (fb (aM ay) (dG (ag (aM ay) aD)) (fb (aM ay) (dG aD) (fb (aM ay) (aE aq) yq))) rfl rfl (by simp) (by exact Qd rfl) (by exact Qd rfl)))
   (ax (iI PassesOwn.never rfl (EA rfl B.enumerate (ak (wpv 1))) (IF rfl (vi (cH (i:=3) nd rfl (by trivial)) (vi (cH (i:=4) nd rfl (by trivial)) EB))) (aH (b6 (ko (iJ (aZ sP hr rfl (ag (ak (wpv 0)) (ag (ak (wpv 2)) (ag (ak (wpv 4)) aD)))))) (aH (aV (ak (wpv 3)))) br)))
   (ax (b6 (aW (C0 hr.units) E9 (fg hu (ak (wpv 2)) (aM ay) (fun _ _=>rfl) (fun _ _=>rfl)) (dG aD) (aK _)) (aH (aV (kq eN))) br)
   (aH (aV (cD ja i9 rfl B.len PySem.boot_len (ag (ak (wpv 1)) aD))))))))
theorem jB:a7 ["pen","world","words","odd","at","word","way","turned"] ["pen","world","words"] (aG gU):=⟨rfl,rfl,rfl,by decide +kernel,rfl,by decide +kernel,by decide +kernel⟩
def iB(aC:Fn):CS:=
 (aT (bj 3 (b7 (ae (cC (.str "(")) (ae (cC (.str ")")) (ae (cC (.str "try")) (ae (cC (.str "look")) (ae (cC (.str "put")) (ae (cC (.str "set")) (ae (cC (.str "plus")) (ae (cC (.str "leap")) aB))))))))))
  (aT (bj 3 (cOp bI (ah 3) (b7 (ae (cC (.str "wait")) (ae (cC (.str "0")) (ae (cC (.str "1")) (ae (cC (.str "3")) (ae (cC (.str "4")) (ae (cC (.str "12")) (ae (cC (.str "13")) (ae (cC (.str "")) (ae (cC (.str "x")) (ae (cC (.str "Look")) aB)))))))))))))
  (aT (bj 3 (cOp bI (ah 3) (b7 (ae (cCB mj (ae (cOp fIx (ah 1) (cC (.int 0))) aB)) (ae (cCB mj (ae (cOp gM (cOp fIx (ah 1) (cC (.int 0))) (cC (.int 1))) aB)) (ae (cCB mj (ae (cOp fIx (ah 1) (cC (.int 1))) aB)) aB))))))
  (aT (bj 3 (cOp bI (ah 3) (b7 (ae (cCB mj (ae (cOp gM (cOp fIx (ah 1) (cC (.int 1))) (cC (.int 1))) aB)) (ae (cC (.str "00")) (ae (cC (.str "01")) (ae (cC (.str "-1")) (ae (cC (.str "+1")) (ae (cC (.str "1_0")) (ae (cC (.str "1\n")) aB))))))))))
  (aT (bj 3 (cOp bI (ah 3) (b7 (ae (cC (.str "\t1")) (ae (cC (.str "wait\n")) (ae (cC (.str "((")) (ae (cC (.str "1000")) (ae (cC (.str "10000")) (ae (cOp wQ (cC (.str "9")) (cC (.int 40))) (ae (cC (.str "waits")) (ae (cC (.str "( )")) (ae (cC (.str "1.")) (ae (cC (.str "None")) aB)))))))))))))
  (aT (bj 4 (cCB aC (ae (ah 0) (ae (cCB gN (ae (ah 2) aB)) aB))))
  (aT (bj 5 (cOp fIx (ah 3) (cCB aC (ae (ah 0) (ae (cC (.int 38)) aB)))))
  (aT (bj 6 (cCB aC (ae (ah 0) (ae (cC (.int 7)) aB))))
  (aT (cE (aL (cOp fLt (ah 6) (cC (.int 2)))) (cm (cOp bI (cOp bI (cSl (ah 2) none (some (ah 4))) (b7 (ae (ah 5) aB))) (cSl (ah 2) (some (cOp bI (ah 4) (cC (.int 1)))) none))) bb)
  (aT (cE (aL (cOp fEq (ah 6) (cC (.int 2)))) (cm (cOp bI (cOp bI (cSl (ah 2) none (some (ah 4))) (b7 (ae (ah 5) aB))) (cSl (ah 2) (some (ah 4)) none))) bb)
  (aT (cE (aL (cOp fEq (ah 6) (cC (.int 3)))) (cm (cOp bI (cOp bI (cSl (ah 2) none (some (ah 4))) (cSl (ah 2) (some (ah 4)) (some (cOp bI (ah 4) (cC (.int 1)))))) (cSl (ah 2) (some (ah 4)) none))) bb)
  (aT (cE (aL (cOp fEq (ah 6) (cC (.int 4)))) (cm (cOp bI (cSl (ah 2) none (some (ah 4))) (cSl (ah 2) (some (cOp bI (ah 4) (cC (.int 1)))) none))) bb)
  (aT (cE (aL (cOp fEq (ah 6) (cC (.int 5)))) (aT (bj 7 (cOp bI (cSl (ah 2) (some (cOp bI (ah 4) (cC (.int 1)))) (some (cOp bI (ah 4) (cC (.int 2))))) (cSl (ah 2) (some (ah 4)) (some (cOp bI (ah 4) (cC (.int 1)))))))
  (cm (cOp bI (cOp bI (cSl (ah 2) none (some (ah 4))) (ah 7)) (cSl (ah 2) (some (cOp bI (ah 4) (cC (.int 2)))) none)))) bb)
  (cm (cOp fIx (b7 (ae (cSl (ah 2) none (some (ah 4))) (ae (cOp bI (ah 2) (b7 (ae (ah 5) aB))) aB))) (cCB aC (ae (ah 0) (ae (cC (.int 2)) aB))))))))))))))))))
theorem qi{k:Nat}{aC:Fn}(d:Def K mg "_law_spoilt" gU ["pen","world","words"])(B:Blt mg)(aQ:eM P w K mg base "_law_take" (k) ["pen","many"] aC):eM P w K mg base "_law_spoilt" (k+1) ["pen","world","words"] (fnU 8 3 (iB aC)):=
 d.pure jB fun f cdv A outer s H E hr=>(by
  have hu:=d8 hr;have nd:=jB.nd;exact(ax (aS (i:=3) nd rfl (by trivial) (dG (ag (aM ay) (ag (aM ay) (ag (aM ay) (ag (aM ay) (ag (aM ay) (ag (aM ay) (ag (aM ay) (ag (aM ay) aD))))))))))
   (ax (aS (i:=3) nd rfl (by trivial) (bZ bS bR (ak (wpv 3)) (dG (ag (aM ay) (ag (aM ay) (ag (aM ay) (ag (aM ay) (ag (aM ay) (ag (aM ay) (ag (aM ay) (ag (aM ay) (ag (aM ay) (ag (aM ay) aD)))))))))))))
   (ax (aS (i:=3) nd rfl (by trivial) (bZ bS bR (ak (wpv 3)) (dG (ag (eS dI tY rfl B.str OG.iD (ag (fg hu (ak (wpv 1)) (aE aq) (fun _ _=>rfl) (fun _ _=>rfl)) aD)) (ag (eS dI tY rfl B.str OG.iD (ag (bZ eU hR (fg hu (ak (wpv 1)) (aE aq) (fun _ _=>rfl) (fun _ _=>rfl)) (aE aq)) aD)) (ag (eS dI tY rfl B.str OG.iD (ag (fg hu (ak (wpv 1)) (aE aq) (fun _ _=>rfl) (fun _ _=>rfl)) aD)) aD))))))
   (ax (aS (i:=3) nd rfl (by trivial) (bZ bS bR (ak (wpv 3)) (dG (ag (eS dI tY rfl B.str OG.iD (ag (bZ eU hR (fg hu (ak (wpv 1)) (aE aq) (fun _ _=>rfl) (fun _ _=>rfl)) (aE aq)) aD)) (ag (aM ay) (ag (aM ay) (ag (aM ay) (ag (aM ay) (ag (aM ay) (ag (aM ay) aD))))))))))
   (ax (aS (i:=3) nd rfl (by trivial) (bZ bS bR (ak (wpv 3)) (dG (ag (aM ay) (ag (aM ay) (ag (aM ay) (ag (aM ay) (ag (aM ay) (ag (bZ Ff Jt (aM ay) (aE aq)) (ag (aM ay) (ag (aM ay) (ag (aM ay) (ag (aM ay) aD)))))))))))))
   (ax (aS (i:=4) nd rfl (by trivial) (aZ aQ hr rfl (ag (ak (wpv 0)) (ag (cD ja i9 rfl B.len PySem.boot_len (ag (ak (wpv 2)) aD)) aD))))
   (ax (aS (i:=5) nd rfl (by trivial) (fg hu (ak (wpv 3)) (aZ aQ hr rfl (ag (ak (wpv 0)) (ag (aE aq) aD))) (fun _ _=>rfl) (fun _ _=>rfl)))
   (ax (aS (i:=6) nd rfl (by trivial) (aZ aQ hr rfl (ag (ak (wpv 0)) (ag (aE aq) aD))))
   (ax (b6 (aW gC oE (ak (wpv 6)) (aE aq) (aK _)) (aH (aV (bZ bS bR (bZ bS bR (sQ (ak (wpv 2)) fe (cT (ak (wpv 4)))) (dG (ag (ak (wpv 5)) aD))) (sQ (ak (wpv 2)) (cT (bZ bS bR (ak (wpv 4)) (aE aq))) fe)))) br)
   (ax (b6 (aW dz iO (ak (wpv 6)) (aE aq) (aK _)) (aH (aV (bZ bS bR (bZ bS bR (sQ (ak (wpv 2)) fe (cT (ak (wpv 4)))) (dG (ag (ak (wpv 5)) aD))) (sQ (ak (wpv 2)) (cT (ak (wpv 4))) fe)))) br)
   (ax (b6 (aW dz iO (ak (wpv 6)) (aE aq) (aK _)) (aH (aV (bZ bS bR (bZ bS bR (sQ (ak (wpv 2)) fe (cT (ak (wpv 4)))) (sQ (ak (wpv 2)) (cT (ak (wpv 4))) (cT (bZ bS bR (ak (wpv 4)) (aE aq))))) (sQ (ak (wpv 2)) (cT (ak (wpv 4))) fe)))) br)
   (ax (b6 (aW dz iO (ak (wpv 6)) (aE aq) (aK _)) (aH (aV (bZ bS bR (sQ (ak (wpv 2)) fe (cT (ak (wpv 4)))) (sQ (ak (wpv 2)) (cT (bZ bS bR (ak (wpv 4)) (aE aq))) fe)))) br)
   (ax (b6 (aW dz iO (ak (wpv 6)) (aE aq) (aK _)) (ax (aS (i:=7) nd rfl (by trivial) (bZ bS bR (sQ (ak (wpv 2)) (cT (bZ bS bR (ak (wpv 4)) (aE aq))) (cT (bZ bS bR (ak (wpv 4)) (aE aq)))) (sQ (ak (wpv 2)) (cT (ak (wpv 4))) (cT (bZ bS bR (ak (wpv 4)) (aE aq))))))
   (aH (aV (bZ bS bR (bZ bS bR (sQ (ak (wpv 2)) fe (cT (ak (wpv 4)))) (ak (wpv 7))) (sQ (ak (wpv 2)) (cT (bZ bS bR (ak (wpv 4)) (aE aq))) fe))))) br)
   (aH (aV (fg hu (dG (ag (sQ (ak (wpv 2)) fe (cT (ak (wpv 4)))) (ag (bZ bS bR (ak (wpv 2)) (dG (ag (ak (wpv 5)) aD))) aD))) (aZ aQ hr rfl (ag (ak (wpv 0)) (ag (aE aq) aD))) (fun _ _=>rfl) (fun _ _=>rfl))))))))))))))))))
theorem kn:a7 ["world","text","due","found","at","alone_so","e"] ["world","text"] (aG i6):=⟨rfl,rfl,rfl,by decide +kernel,rfl,by decide +kernel,by decide +kernel⟩
def jh(gh fz fA:Fn)(x_read_dealing:FnR)(CT:Addr):CS:=
 (aT (bj 2 (cCB gh (ae (ah 0) (ae (cBS fN (ah 1) (ae (cC (.str " ")) aB)) aB))))
  (aT (bj 3 (cC .non))
  (aT (bj 4 (cC .non))
  (aT (bj 5 (cC (.bl false)))
  (aT (Ga CT 6 (bj 3 (cCB fz (ae (ah 0) (ae (ah 1) aB)))) (vW x_read_dealing (ae (ah 0) (ae (ah 1) aB)))
  (aT (bj 5 (gI (qE CT true (ah 6)) (uG (qE CT false (ah 6)))))
  (cE (aL (qE CT true (ah 6))) (bj 4 (cAt CT (ah 6))) bb)))
  (aT (cE (aL (cOp FZ (ah 2) (cC .non))) (aT (cE (cOr (aL (cOp gE (ah 4) (cC .non))) (cOr (aL (ah 5)) (aL (cOp FZ (ah 3) (cC .non))))) (cm (cC (.bl false))) bb)
  (cm (cOp fEq (cCB fA (ae (ah 3) aB)) (ah 1)))) bb)
  (aT (cE (cOr (wV (aL (ah 5))) (cOr (wV (aL (K7 .int (ah 4)))) (aL (K7 .bool (ah 4))))) (cm (cC (.bl false))) bb)
  (cm (cOp fEq (ah 4) (ah 2))))))))))
theorem rY{k:Nat}{gh fz fA:Fn}{x_read_dealing:FnR}{CT:Addr}{CG CA CR CS CM fI:Addr}(d:Def K mg "_law_right" i6 ["world","text"])(B:Blt mg)(V:Co K mg CT CG CA CR CS CM fI)(sN:eM P w K mg base "_law_wrong" k ["world","words"] gh)(oP:eM P w K mg base "read_dealing" k ["world","text"] fz)(oQ:eM P w K mg base "dealing_text" k ["dealing"] fA)(X_read_dealing:Le CT P w K mg base "read_dealing" k ["world","text"] x_read_dealing):eM P w K mg base "_law_right" (k+1) ["world","text"] (fnU 7 2 (jh gh fz fA x_read_dealing CT)):=
 d.pure kn fun f cdv A outer s H E hr=>(by
  have hu:=d8 hr;have nd:=kn.nd;exact(ax (aS (i:=2) nd rfl (by trivial) (aZ sN hr rfl (ag (ak (wpv 0)) (ag (tP (ak (wpv 1)) (ag (aM ay) aD)) aD))))
   (ax (aS (i:=3) nd rfl (by trivial) (kq eN))
   (ax (aS (i:=4) nd rfl (by trivial) (kq eN))
   (ax (aS (i:=5) nd rfl (by trivial) (w6 iG))
   (ax (Ez (fun _ _ h=>h) rfl rfl nd rfl rfl rfl V.gg V.ex (aH (aS (i:=3) nd rfl (by trivial) (aZ oP hr rfl (ag (ak (wpv 0)) (ag (ak (wpv 1)) aD))))) (Io (Es (fun _ _ h=>h) X_read_dealing hr rfl (ag (ak (wpv 0)) (ag (ak (wpv 1)) aD)))) (fun ea=>(ax (aS (i:=5) nd rfl (by trivial) (nI (IJ V.xf V.va (ak (wpv 6)) (xB rfl V.gv rfl) rfl B.isinstance) (tQ (IH (II V.xf V.oa (ak (wpv 6)) (jr rfl V.ga) (jr rfl V.gr) (jr rfl V.gs) (jr rfl V.gm) rfl B.isinstance)))))
   (aH (b6 (iJ (IK V.xf V.tt (ak (wpv 6)) (jr rfl V.gt) rfl B.isinstance)) (aH (aS (i:=4) nd rfl (by trivial) (O8 V.xf (ak (wpv 6))))) br)))))
   (ax (b6 (aW CZ Jw (ak (wpv 2)) (kq eN) (aK _)) (ax (b6 (yr (CQ (aW lg pf (ak (wpv 4)) (kq eN) (aK _)) (CQ (iJ (ak (wpv 5))) (yt (aW CZ Jw (ak (wpv 3)) (kq eN) (aK _)))))) (aH (aV (w6 iG))) br)
   (aH (aV (fM dz iO (aZ oQ hr rfl (ag (ak (wpv 3)) aD)) (ak (wpv 1)) (aK _))))) br)
   (ax (b6 (yr (CQ (ko (iJ (ak (wpv 5)))) (CQ (ko (iJ (IL (T:=.int) (by intro z;cases z) (ak (wpv 4)) (xB rfl B.int OG.vN) rfl B.isinstance))) (yt (iJ (IL (T:=.bool) (by intro z;cases z) (ak (wpv 4)) (xB rfl B.bool OG.z6) rfl B.isinstance)))))) (aH (aV (w6 iG))) br)
   (aH (aV (fM dz iO (ak (wpv 4)) (ak (wpv 2)) (aK _))))))))))))
theorem CK:a7 ["script","pen","world","turn","words","plain","nest","k","many","three","dealing"] ["script"] (aG Er):=⟨rfl,rfl,rfl,by decide +kernel,rfl,by decide +kernel,by decide +kernel⟩
def oh(bB ba aR aI aC bh:Fn):CS:=
 (aT (bj 4 (cCB ba (ae (ah 1) (ae (ah 2) (ae (cCB aR (ae (cCB aI (ae (ah 1) (ae (ah 2) (ae (cC (.int 12)) (ae (cC (.int 3)) aB))))) aB)) aB)))))
  (aT (cE (qu (aL (cOp (sR true) (ah 4) (b7 aB))) (aL (cOp fEq (cCB aC (ae (ah 1) (ae (cC (.int 3)) aB))) (cC (.int 0))))) (bj 4 (cCB ba (ae (ah 1) (ae (ah 2) (ae (ah 4) aB))))) bb)
  (cE (wV (aL (cCB bh (ae (ah 2) (ae (cBS kG (cC (.str " ")) (ae (ah 4) aB)) aB))))) (cm (cC (.bl false))) bb)))
def og(bB ba aR aI aC bh:Fn):CS:=
 (aT (cE (wV (aL (cCB bh (ae (ah 2) (ae (cBS kG (cC (.str " ")) (ae (cCB aR (ae (ah 6) aB)) aB)) aB))))) (cm (cC (.bl false))) bb)
  (bj 6 (fY (ae (fY (ae (cC (.str "try")) (ae (ah 6) (ae (cOp iM (ah 5) (cCB aC (ae (ah 1) (ae (cC (.int 3)) aB)))) aB)))) aB))))
def Aa(bB ba aR aI aC bh:Fn):CS:=
 (cE (wV (aL (cCB bh (ae (ah 2) (ae (cBS kG (cC (.str " ")) (ae (cCB aR (ae (ah 10) aB)) aB)) aB))))) (cm (cC (.bl false))) bb)
def n9(bB ba aR aI aC bh:Fn):CS:=
 (aT (bj 9 (fY (ae (fY (ae (cC (.str "try")) (ae (cOp iM (ah 5) (cC (.int 12))) (ae (cOp iM (ah 5) (ah 8)) aB)))) (ae (fY (ae (cC (.str "try")) (ae (cOp iM (ah 5) (cCB aC (ae (ah 1) (ae (cC (.int 3)) aB)))) (ae (cOp iM (ah 5) (cC (.int 10))) aB)))) aB))))
  (gO (iTp (b7 (ae (cOp iM (ah 5) (ah 8)) (ae (ah 9) (ae (cOp bI (ah 9) (cOp iM (ah 5) (cCB aC (ae (ah 1) (ae (cC (.int 4)) aB))))) aB))))) (gNm 10) (Aa bB ba aR aI aC bh)))
def zU(bB ba aR aI aC bh:Fn):CS:=
 (aT (bj 2 (cCB bB (ae (ah 1) aB)))
  (aT (gO (ib (ae (cC (.int 6)) aB)) (gNm 3) (oh bB ba aR aI aC bh))
  (aT (bj 5 (fY (ae (fY (ae (cC (.str "wait")) aB)) aB)))
  (aT (bj 6 (ah 5))
  (aT (gO (ib (ae (cC (.int 5)) aB)) (gNm 7) (og bB ba aR aI aC bh))
  (aT (gO (h9 (ae (cC (.int 11)) (ae (cC (.int 14)) aB))) (gNm 8) (n9 bB ba aR aI aC bh))
  (cm (cC (.bl true)))))))))
theorem Nk{k:Nat}{bB ba aR aI aC bh:Fn}{fa:Addr}{fd:Z8}(F:Fun K "law" "law" Er fa fd)(B:Blt mg)(wY:Has P w K mg base "_law_pen" (k) ["script"] (CJ K))(sO:eM P w K mg base "_law_world" (k) ["pen"] bB)(kK:eM P w K mg base "_law_spoilt" (k) ["pen","world","words"] ba)(eL:eM P w K mg base "_law_words" (k) ["dealing"] aR)(fE:eM P w K mg base "_law_dealing" (k) ["pen","world","room","tries"] aI)(aQ:eM P w K mg base "_law_take" (k) ["pen","many"] aC)(jq:eM P w K mg base "_law_right" (k) ["world","text"] bh)
  (ok:∀(ns:List Int) (a c:Int),0<=a->0<=c->∃ρ' S',zU bB ba aR aI aC bh [none,some (.ref 1),none,none,none,none,none,none,none,none,none] [.lst (ns.map U.int),.lst [.ref 0,.int a,.int c]]=some (.rt (.bl true),ρ',S')):j9 P w K mg base CX0 (k+1) fa fd ["script"] (AU K):=by
 refine Fun.okW F CK (fun vs H Q E h=>(by obtain⟨a,ns,rfl,_⟩:=h;rfl)) fun cdv A outer s H vs Q E hr h=>?_;obtain⟨a,ns,rfl,hS,hlen,q⟩:=h;have hu:=d8 hr;have nd:=CK.nd;refine⟨_,iQ (u:=tS K (zU bB ba aR aI aC bh)) (sW (i:=1) nd rfl (by trivial) (Cv wY hr rfl (bK (wpv 0) fU))) (ax (aS (i:=2) nd rfl (by trivial) (aZ sO hr rfl (ag (ak (wpv 1)) aD)))
   (ax (iI PassesOwn.never rfl (nG rfl B.range (ag (aE aq) aD)) (eQ (cH (i:=3) nd rfl (by trivial))) (ax (aS (i:=4) nd rfl (by trivial) (aZ kK hr rfl (ag (ak (wpv 1)) (ag (ak (wpv 2)) (ag (aZ eL hr rfl (ag (aZ fE hr rfl (ag (ak (wpv 1)) (ag (ak (wpv 2)) (ag (aE aq) (ag (aE aq) aD))))) aD)) aD)))))
   (ax (b6 (yr (p7 (aW (JA hr.units) E9 (ak (wpv 4)) (dG aD) (aK _)) (o9 (aW dz iO (aZ aQ hr rfl (ag (ak (wpv 1)) (ag (aE aq) aD))) (aE aq) (aK _))))) (aH (aS (i:=4) nd rfl (by trivial) (aZ kK hr rfl (ag (ak (wpv 1)) (ag (ak (wpv 2)) (ag (ak (wpv 4)) aD)))))) br)
   (aH (b6 (ko (iJ (aZ jq hr rfl (ag (ak (wpv 2)) (ag (vj (aM ay) (ag (ak (wpv 4)) aD)) aD))))) (aH (aV (w6 iG))) br)))))
   (ax (aS (i:=5) nd rfl (by trivial) (eR (ag (eR (ag (aM ay) aD)) aD)))
   (ax (aS (i:=6) nd rfl (by trivial) (ak (wpv 5)))
   (ax (iI PassesOwn.never rfl (nG rfl B.range (ag (aE aq) aD)) (eQ (cH (i:=7) nd rfl (by trivial))) (ax (b6 (ko (iJ (aZ jq hr rfl (ag (ak (wpv 2)) (ag (vj (aM ay) (ag (aZ eL hr rfl (ag (ak (wpv 6)) aD)) aD)) aD))))) (aH (aV (w6 iG))) br)
   (aH (aS (i:=6) nd rfl (by trivial) (eR (ag (eR (ag (aM ay) (ag (ak (wpv 6)) (ag (bZ nL nJ (ak (wpv 5)) (aZ aQ hr rfl (ag (ak (wpv 1)) (ag (aE aq) aD)))) aD)))) aD))))))
   (ax (iI PassesOwn.never rfl (rh rfl B.range (ag (aE aq) (ag (aE aq) aD))) (eQ (cH (i:=8) nd rfl (by trivial))) (ax (aS (i:=9) nd rfl (by trivial) (eR (ag (eR (ag (aM ay) (ag (bZ nL nJ (ak (wpv 5)) (aE aq)) (ag (bZ nL nJ (ak (wpv 5)) (ak (wpv 8))) aD)))) (ag (eR (ag (aM ay) (ag (bZ nL nJ (ak (wpv 5)) (aZ aQ hr rfl (ag (ak (wpv 1)) (ag (aE aq) aD)))) (ag (bZ nL nJ (ak (wpv 5)) (aE aq)) aD)))) aD))))
   (aH (iI PassesOwn.never rfl (me (dG (ag (bZ nL nJ (ak (wpv 5)) (ak (wpv 8))) (ag (ak (wpv 9)) (ag (bZ bS bR (ak (wpv 9)) (bZ nL nJ (ak (wpv 5)) (aZ aQ hr rfl (ag (ak (wpv 1)) (ag (aE aq) aD))))) aD))))) (eQ (cH (i:=10) nd rfl (by trivial))) (aH (b6 (ko (iJ (aZ jq hr rfl (ag (ak (wpv 2)) (ag (vj (aM ay) (ag (aZ eL hr rfl (ag (ak (wpv 10)) aD)) aD)) aD))))) (aH (aV (w6 iG))) br))))))
   (aH (aV (w6 iG))))))))),?_⟩
 refine⟨_,rfl,a,ns,rfl,hS,fun p xs H1 s1 P1 n1=>?_⟩;exact FF P1 ok q
end
end OL
namespace OQ
open PySem PySem.Spec PyProof.Rows L2 OG OP
inductive Ev where
 |beg (a:Int)|look (a b x:Int)|put (a b x:Int)|fin (d:Bool) (a:Int)
structure Att where
 en:Option Bool
 lk:List (Int×Int)
 nd:List (Int×Int)
 ps:List (Int×Int)
 bf:List Int
abbrev St:=List (Int×Att)
theorem KO{κ α:Type}[DecidableEq κ]{ps:List (κ×α)}{k:κ}{v:α}(h:iN ps k=some v):(k,v)∈ps:=by
 unfold iN at h;obtain⟨p,hp,rfl⟩:=ZV.mp h;have:=List.find?_some hp;have e:p.1=k:=by simpa using this
 subst e;exact List.mem_of_find?_eq_some hp
section
variable{S G:Sto}{x:List Int}
theorem kH{α:Type}{ok:Sto->Prop}{gg:CG}{ce:CE}{S:Sto}{f:α->U}{v:α->U}{Rel:Rho->Prop}(hok:∀ys G,ok (S++(.lst ys::G))) :
  ∀(xs:List α) (ys:List U) (G:Sto) (ρ:Rho),Rel ρ->ys.length+xs.length<=9999->
  (∀x∈xs,∀ys G ρ,Rel ρ->∃ρ0,Rel ρ0/\gg (f x) ρ (S++(.lst ys::G))=some (ρ0,S++(.lst ys::G))/\ce ρ0 (S++(.lst ys::G))=some (v x,S++(.lst ys::G)))->
  mz ok gg ce S.length (xs.map f) ρ (S++(.lst ys::G))=some (S++(.lst (ys++xs.map v)::G))
 |[],ys,G,ρ,_,_,_=>by simp only[Qc,QN];exact B7 (hok ys G)
 |x::xs,ys,G,ρ,hr,hl,hb=>by
  rw[Q5]at hl;obtain⟨ρ0,r0,h1,h2⟩:=hb x QY ys G ρ hr;have h:=kH hok xs (ys++[v x]) G ρ0 r0 (by simp;omega) (fun x hx=>hb x (QZ _ hx));rw[QF];refine(zO (hok ys G) h1 h2 (by rw[ga0];rfl) (by unfold LIM;omega)).trans ?_;rw[gs0];simp only[List.set_cons_zero];rw[h];simp only[QF,QQ,Qj,Qi]
end
def bL{ca cb:CS}{ρ ρ':Rho}{S S':Sto}(h:ca ρ S=some (.nx,ρ',S')):aT ca cb ρ S=cb ρ' S':=by rw[GG,h,Q3,Cq]
def dA(n:Int):Str:=Str.ofString (toString n)
def zC(m:Nat):List Nat:=(Nat.toDigits 10 m).map Char.toNat
theorem jc:∀m:Nat,m<1001->(zC m).length<=4/\(zC m).length≠0/\(∀c∈zC m,48<=c/\c<=57)/\((zC m).head?=some 48->zC m=[48]):=by decide +kernel
theorem hU{n:Int}(n0:0<=n):(dA n).cps.toList=zC n.toNat:=by
 have:=PySem.W.KIN.signs_num n.toNat;rw[show((n.toNat:Nat):Int)=n from by omega]at this;exact this
def Kd:∀c:Nat,c<58->48<=c->Txt.contains (Str.ofString "0123456789") ⟨#[c]⟩=true:=by decide +kernel
def iP:Str.ofString "0"=⟨#[48]⟩:=by decide +kernel
theorem fh(z:Str):z.length=z.cps.toList.length:=by
 show z.cps.size=_;simp
theorem pS{a b:Str}(h:a.cps.toList=b.cps.toList):a=b:=by
 cases a;cases b;exact congrArg Str.mk (Array.ext' h)
def iF:Fn:=fnU 1 1 iq
theorem yH{n:Int}(n0:0<=n)(n1:n<1001)(S:Sto):∃G,iF [.str (dA n)] S=some (.int n,S++G):=by
 obtain⟨d1,d2,d3,d4⟩:=jc n.toNat (by omega);have ec:=hU n0;rw[<-ec]at d1 d2 d3 d4;have rd:PySem.intText? (dA n)=some n:=PySem.W.KIN.num_reads n0 (by omega);obtain⟨z,hz⟩:∃z,z=dA n:=⟨_,rfl⟩;rw[<-hz]at d1 d2 d3 d4 rd ⊢;have lz:z.length=z.cps.toList.length:=fh z;have asc:z.cps.all (· < 128)=true:=by
  rw[Array.all_eq_true'];intro c hc;have:=d3 c (by simpa using hc);exact decide_eq_true (by omega)
 have sg:∀y∈signs z,Txt.contains (Str.ofString "0123456789") y=true:=fun y hy=>by
  obtain⟨i,hi⟩:=List.mem_iff_getElem?.mp hy;cases hc:z.cps[i]? with
  |none=>
   rw[ZT (by rw[signs_length];exact Array.getElem?_eq_none_iff.mp hc)]at hi;cases hi
  |some c=>
   rw[signs_get hc]at hi;cases hi;have:=d3 c (by rw[Array.mem_toList_iff];exact Array.mem_of_getElem? hc);exact Kd c (by omega) this.1
 have e1:=kH (S:=S) (ok:=fun _=>True) (gg:=gNm 0) (ce:=cOp zu (ah 0) (cC (.str "0123456789"))) (f:=U.str) (v:=fun y:Str=>U.bl true) (Rel:=fun ρ=>∃r0,ρ=[r0]) (fun _ _=>trivial) (signs z) [] [] [none] ⟨_,rfl⟩ (by rw[signs_length,Z7];omega) (fun y hy ys G ρ hρ=>by
  obtain⟨r0,rfl⟩:=hρ;refine⟨[some (.str y)],⟨_,rfl⟩,rfl,?_⟩;have h1:∀S':Sto,zu (.str y) (.str "0123456789") S'=some (.bl true,S'):=fun S'=>by
   unfold zu;exact congrArg (fun b=>some (U.bl b,S')) (sg y hy)
  rwa[h1])
 simp only[Qi]at e1;have hi:ah 0 [some (.str z)] S=some (.str z,S):=rfl;have hcomp:oO (Gi (ah 0)) (gNm 0) (cOp zu (ah 0) (cC (.str "0123456789"))) 1 [] [some (.str z)] S=some (.ref S.length,S++[.lst ((signs z).map fun _=>.bl true)]):=by
  unfold oO Gi;rw[hi,Q3];simp only[asc,if_true,Q3,A4,Q9,Qc,QN,e1]
 have hall:F0 [.ref S.length] (S++[.lst ((signs z).map fun _=>.bl true)])=some (.bl true,S++[.lst ((signs z).map fun _=>.bl true)]):=by
  have em:((signs z).map fun _=>U.bl true)=((signs z).map fun _=>true).map U.bl:=by rw[List.map_map];rfl
  have ea:(((signs z).map fun _=>true).all id)=true:=by simp
  simp only[F0,ga0,List.getElem?_cons_zero,em,qw,Q3,ea]
 have hlen:∀S':Sto,sh [.str z] S'=some (.int z.length,S'):=fun S'=>by
  unfold sh;simp only;rw[if_pos (by omega)]
 have t1:decide ((z.length:Int)=0)=false:=decide_eq_false (by omega);have t2:decide ((z.length:Int)>4)=false:=decide_eq_false (by omega);obtain⟨c,hc⟩:∃c,z.cps[0]?=some c:=⟨_,Array.getElem?_eq_getElem (by rw[<-Array.length_toList];omega)⟩;have hix:∀S':Sto,Df (.str z) (.int 0) S'=some (.str ⟨#[c]⟩,S'):=fun S'=>by
  unfold Df;simp only;rw[if_pos ⟨by omega,by omega,by omega⟩,show((0:Int)).toNat=0 from rfl,hc];rfl
 have hint:∀S':Sto,uw [.str z] S'=some (.int n,S'):=fun S'=>by
  unfold uw;simp only;rw[if_pos (by omega),rd];rfl
 refine⟨[.lst ((signs z).map fun _=>.bl true)],?_⟩;unfold iF;rw[uA];unfold iq;by_cases c48:c=48
 ·have hz0:z.cps.toList=[48]:=d4 (by rw[List.head?_eq_getElem?,Array.getElem?_toList,hc,c48]);have ez:z=Str.ofString "0":=by
   rw[iP];exact pS hz0
  have k1:decide ((⟨#[c]⟩:Str)=(Str.ofString "0"))=true:=decide_eq_true (by rw[iP,c48]);have k2:decide (z=(Str.ofString "0"))=true:=decide_eq_true ez;rwa[hlen,t1,t2,hcomp,hall,hix,k1,k2,hint]
 ·have k1:decide ((⟨#[c]⟩:Str)=(Str.ofString "0"))=false:=decide_eq_false (by rw[iP];intro h;injection h with h;injection h with h;injection h with h;exact c48 h);rwa[hlen,t1,t2,hcomp,hall,hix,k1,hint]
def jn:List (List Nat)->List Nat
 |[]=>[]
 |[x]=>x
 |x::y::r=>x++32::jn (y::r)
theorem Ae:∀{x y A B:List Nat},32∉x->32∉y->x++32::A=y++32::B->x=y/\A=B
 |[],[],A,B,_,_,h=>by
  injection h with _ h;exact⟨rfl,h⟩
 |[],c::y,A,B,_,hy,h=>by
  injection h with h _;exact absurd (by rw[h];exact QY) hy
 |c::x,[],A,B,hx,_,h=>by
  injection h with h _;exact absurd (by rw[<-h];exact QY) hx
 |c::x,d::y,A,B,hx,hy,h=>by
  injection h with h1 h2;obtain⟨e1,e2⟩:=Ae (fun z=>hx (QZ _ z)) (fun z=>hy (QZ _ z)) h2;exact⟨by rw[h1,e1],e2⟩
theorem Dc:∀{xs ys:List (List Nat)},xs≠[]->ys≠[]->(∀x∈xs,32∉x)->(∀y∈ys,32∉y)->jn xs=jn ys->xs=ys
 |[],_,h,_,_,_,_=>absurd rfl h
 |_,[],_,h,_,_,_=>absurd rfl h
 |[x],[y],_,_,_,_,h=>by
  have:x=y:=h;rw[this]
 |[x],y::y2::r,_,_,hx,_,h=>by
  have h':x=y++32::jn (y2::r):=h;exact absurd (by rw[h'];simp) (hx x QY)
 |x::x2::r,[y],_,_,_,hy,h=>by
  have h':x++32::jn (x2::r)=y:=h;exact absurd (by rw[<-h'];simp) (hy y QY)
 |x::x2::r,y::y2::s,_,_,hx,hy,h=>by
  have h':x++32::jn (x2::r)=y++32::jn (y2::s):=h;obtain⟨e1,e2⟩:=Ae (hx x QY) (hy y QY) h';rw[e1,Dc (Qh _ _) (Qh _ _) (fun z hz=>hx z (QZ _ hz)) (fun z hz=>hy z (QZ _ hz)) e2]
theorem qe:∀ws:List Str,(Str.join ⟨#[32]⟩ ws).cps.toList=jn (ws.map fun y=>y.cps.toList)
 |[]=>rfl
 |[x]=>rfl
 |x::y::r=>by
  show(x++⟨#[32]⟩++Str.join ⟨#[32]⟩ (y::r)).cps.toList=x.cps.toList++32::jn ((y::r).map fun y=>y.cps.toList);rw[<-qe (y::r),Str.cps_append,Str.cps_append,Array.toList_append,Array.toList_append,QQ];rfl
theorem u7(x y:Str):Txt.split x y≠[]:=by
 unfold Txt.split;split
 ·exact Qh _ _
 ·split
  ·exact Qh _ _
  ·rw[StrLaws.partsBetween_eq];obtain⟨p,r,e⟩:=StrLaws.partsFrom_ne x y.length 0 (Builtin.Str.occurrences x y 0 x.length (x.length+1));rw[e];exact Qh _ _
theorem wm{ws:List Str}(h:ws≠[])(hs:∀y∈ws,32∉y.cps.toList):Txt.split (Str.join ⟨#[32]⟩ ws) ⟨#[32]⟩=ws:=by
 have e:=StrLaws.join_split (Str.join ⟨#[32]⟩ ws) ⟨#[32]⟩;have e2:=congrArg (fun z:Str=>z.cps.toList) e;simp only[qe]at e2;have e3:=Dc (by intro z;exact u7 _ _ (ZD.mp z)) (by intro z;exact h (ZD.mp z)) (fun x hx=>by
  obtain⟨y,hy,rfl⟩:=List.mem_map.mp hx;exact StrLaws.split_free _ 32 y hy) (fun x hx=>by
  obtain⟨y,hy,rfl⟩:=List.mem_map.mp hx;exact hs y hy) e2
 exact(List.map_inj_right fun a b=>pS).mp e3
def fH.w:fH->Str
 |.look _ _=>"look"
 |.put _ _=>"put"
 |.set _ _=>"set"
 |.plus _ _=>"plus"
 |.leap _ _=>"leap"
 |.wait=>"wait"
def fH.ns:fH->List Int
 |.look h b=>[h,b]
 |.put b h=>[b,h]
 |.set h v=>[h,v]
 |.plus h g=>[h,g]
 |.leap h k=>[h,k]
 |.wait=>[]
def sj(d:fH):d.u=.tup (.str d.w::d.ns.map U.int):=by cases d<;>rfl
def mH(d:fH):d.ns.length<=2:=by cases d<;>simp[fH.ns]
theorem jv{n w:Int}{d:fH}(n1:n<=6)(w1:w<=1000)(ok:d.ok n w):∀x∈d.ns,0<=x/\x<1000:=by
 cases d<;>simp only[fH.ns,fH.ok,Qz,Qo,or_false,false_implies,implies_true]at ok ⊢<;>(intro x hx;rcases hx with rfl|rfl<;>omega)
def Fs:decide ((Str.ofString "look")=(Str.ofString "try"))=false:=by decide +kernel
def JI:decide ((Str.ofString "put")=(Str.ofString "try"))=false:=by decide +kernel
def JH:decide ((Str.ofString "set")=(Str.ofString "try"))=false:=by decide +kernel
def Fq:decide ((Str.ofString "plus")=(Str.ofString "try"))=false:=by decide +kernel
def Ft:decide ((Str.ofString "leap")=(Str.ofString "try"))=false:=by decide +kernel
def Fp:decide ((Str.ofString "wait")=(Str.ofString "try"))=false:=by decide +kernel
theorem kf(d:fH):decide (d.w=(Str.ofString "try"))=false:=match d with
 |.look _ _=>Fs
 |.put _ _=>JI
 |.set _ _=>JH
 |.plus _ _=>Fq
 |.leap _ _=>Ft
 |.wait=>Fp
def vJ(d:fH)(S:Sto):fSl d.u (some 1) none S=some (.tup (d.ns.map U.int),S):=by cases d<;>rfl
section
variable{α:Type}{n w:Int}{f:α->U}{k:List α->Prop}{wd:List α->List Str}
def wdF(wd:List α->List Str):List (DF α)->List Str
 |[]=>[]
 |.pl d::r=>d.w::(d.ns.map dA++wdF wd r)
 |.tr a b::r=>"try"::(wd a++(wd b++wdF wd r))
def wdL(wd:List α->List Str)(ds:List (DF α)):List Str:=("(":Str)::(wdF wd ds++[(")":Str)])
def HvT(fw:Fn)(f:α->U)(k:List α->Prop)(wd:List α->List Str):Prop:=∀(a:List α) (S:Sto),k a->(wd a).length<=5000->∃l G,fw [.tup (a.map f)] S=some (.ref l,S++G)/\(S++G)[l]?=some (.lst ((wd a).map U.str))
theorem tK{x:Int}(h:0<=x/\x<1000)(S:Sto):mj [.int x] S=some (.str (dA x),S):=by
 have hl:x.natAbs.log2<1920:=by
  refine ZC (Nat.log2_le_self _) ?_;omega
 unfold mj;simp only;rw[if_pos hl];rfl
theorem rl{fw:Fn}{S:Sto}{D:Option U}{y:Str}{rr:List U}(hy:decide (y=(Str.ofString "try"))=false):∀(xs:List Int) (us:List U) (G:Sto) (r3:Option U),(∀x∈xs,0<=x/\x<1000)->us.length+xs.length<=9000->
  ∃r3',d7 (fun _=>True) (gNm 3) (cy fw) (xs.map U.int) [D,some (.ref S.length),some (.tup (.str y::rr)),r3] (S++(.lst us::G))=some (.nx,[D,some (.ref S.length),some (.tup (.str y::rr)),r3'],S++(.lst (us++(xs.map dA).map U.str)::G))
 |[],us,G,r3,_,_=>⟨r3,by simp only[Qc,QN];exact eD trivial⟩
 |x::xs,us,G,r3,hx,hl=>by
  rw[Q5]at hl;obtain⟨r3',ih⟩:=rl hy xs (us++[.str (dA x)]) G (some (.int x)) (fun z hz=>hx z (QZ _ hz)) (by simp;omega);have hL:us.length<LIM:=by unfold LIM;omega
  have e1:∀S',mj [.int x] S'=some (.str (dA x),S'):=tK (hx x QY);refine⟨r3',(bM trivial rfl (ρ1:=[D,some (.ref S.length),some (.tup (.str y::rr)),some (.int x)]) (S1:=S++(.lst (us++[.str (dA x)])::G)) ?_).trans ?_⟩
  ·rwa[cy,hy,e1,eZ hL]
  ·rw[ih,QF,QF,QQ];rfl
theorem xO{fw:Fn}{S:Sto}{D:Option U}(Hw:HvT fw f k wd)(n1:n<=6)(w1:w<=1000):∀(ds:List (DF α)) (us:List U) (G:Sto) (r2 r3:Option U),(∀d∈ds,d.ok n w k)->us.length+(wdF wd ds).length<=5000->
  ∃r2' r3' G',d7 (fun _=>True) (gNm 2) (eK fw) (ds.map (DF.u f)) [D,some (.ref S.length),r2,r3] (S++(.lst us::G))=some (.nx,[D,some (.ref S.length),r2',r3'],S++(.lst (us++(wdF wd ds).map U.str)::G'))
 |[],us,G,r2,r3,_,_=>⟨r2,r3,G,by simp only[Qc,wdF,QN];exact eD trivial⟩
 |.pl d::ds,us,G,r2,r3,oa,hl=>by
  have od:d.ok n w:=oa _ QY;simp only[wdF,Q5,QJ,QV]at hl;have hL:us.length<LIM:=by unfold LIM;omega
  obtain⟨q3,e2⟩:=rl (fw:=fw) (S:=S) (D:=D) (y:=d.w) (rr:=d.ns.map U.int) (kf d) d.ns (us++[.str d.w]) G r3 (jv n1 w1 od) (by simp;omega);obtain⟨r2',r3',G',ih⟩:=xO Hw n1 w1 ds (us++[.str d.w]++(d.ns.map dA).map U.str) G (some d.u) q3 (fun z hz=>oa z (QZ _ hz)) (by simp;omega);have hcut:∀S',cSl (ah 2) (some (cC (.int 1))) none [D,some (.ref S.length),some d.u,r3] S'=some (.tup (d.ns.map U.int),S'):=fun S'=>by
   have hv:ah 2 [D,some (.ref S.length),some d.u,r3] S'=some (d.u,S'):=rfl;simp only[cSl,kI,hv,cC,Q3,vJ]
  have hfor:gO (iTp (cSl (ah 2) (some (cC (.int 1))) none)) (gNm 3) (cy fw) [D,some (.ref S.length),some d.u,r3] (S++(.lst (us++[.str d.w])::G))=some (.nx,[D,some (.ref S.length),some d.u,q3],S++(.lst (us++[.str d.w]++(d.ns.map dA).map U.str)::G)):=by
   unfold gO iTp;rw[hcut,Q3];simp only[Q3];rw[sj];exact e2
  refine⟨r2',r3',G',(bM trivial rfl (ρ1:=[D,some (.ref S.length),some d.u,q3]) (S1:=S++(.lst (us++[.str d.w]++(d.ns.map dA).map U.str)::G)) ?_).trans ?_⟩
  ·show eK fw [D,some (.ref S.length),some d.u,r3] _=_;unfold eK;rw[bL (ρ':=[D,some (.ref S.length),some d.u,r3]) (S':=S++(.lst (us++[.str d.w])::G)) (by rw[sj];rwa[eZ hL])];exact hfor
  ·rw[ih];simp only[wdF,QF,Qm,QQ,Qj,Qi]
 |.tr a b::ds,us,G,r2,r3,oa,hl=>by
  obtain⟨ka,kb⟩:k a/\k b:=oa _ QY;simp only[wdF,Q5,QJ]at hl;have hL:us.length<LIM:=by unfold LIM;omega
  obtain⟨l1,G1,e1,g1⟩:=Hw a (S++(.lst (us++[.str "try"])::G)) ka (by omega);rw[QQ,Qj]at e1 g1;obtain⟨va,hva⟩:∃va,va=us++[.str "try"]++(wd a).map U.str:=⟨_,rfl⟩;have lva:va.length=us.length+1+(wd a).length:=by rw[hva];simp;omega
  have x1:cL (.ref S.length) [.ref l1] (S++(.lst (us++[.str "try"])::(G++G1)))=some (.non,S++(.lst va::(G++G1))):=by
   have hb:(us++[U.str "try"]).length+((wd a).map U.str).length<=LIM:=by unfold LIM;simp;omega
   simp only[cL,ga0,List.getElem?_cons_zero,g1];rw[if_pos hb,gs0,List.set_cons_zero,hva]
  obtain⟨l2,G2,e2,g2⟩:=Hw b (S++(.lst va::(G++G1))) kb (by omega);rw[QQ,Qj,QQ]at e2 g2;obtain⟨vb,hvb⟩:∃vb,vb=va++(wd b).map U.str:=⟨_,rfl⟩;have x2:cL (.ref S.length) [.ref l2] (S++(.lst va::(G++(G1++G2))))=some (.non,S++(.lst vb::(G++(G1++G2)))):=by
   have hb:va.length+((wd b).map U.str).length<=LIM:=by unfold LIM;simp;omega
   simp only[cL,ga0,List.getElem?_cons_zero,g2];rw[if_pos hb,gs0,List.set_cons_zero,hvb]
  obtain⟨r2',r3',G',ih⟩:=xO Hw n1 w1 ds vb (G++(G1++G2)) (some (DF.u f (.tr a b))) (some (.tup (b.map f))) (fun z hz=>oa z (QZ _ hz)) (by rw[hvb];simp;omega);obtain⟨ua,hua⟩:∃ua,ua=U.tup (a.map f):=⟨_,rfl⟩;obtain⟨ub,hub⟩:∃ub,ub=U.tup (b.map f):=⟨_,rfl⟩;have ed:DF.u f (.tr a b)=.tup [.str "try",ua,ub]:=by rw[hua,hub];rfl
  rw[<-hua]at e1;rw[<-hub]at e2 ih;rw[ed]at ih;have hcut:∀S',cSl (ah 2) (some (cC (.int 1))) none [D,some (.ref S.length),some (.tup [.str "try",ua,ub]),r3] S'=some (.tup [ua,ub],S'):=fun S'=>rfl;have b1:cy fw [D,some (.ref S.length),some (.tup [.str "try",ua,ub]),some ua] (S++(.lst (us++[.str "try"])::G))=some (.nx,[D,some (.ref S.length),some (.tup [.str "try",ua,ub]),some ua],S++(.lst va::(G++G1))):=by
   rwa[cy,e1,x1]
  have b2:cy fw [D,some (.ref S.length),some (.tup [.str "try",ua,ub]),some ub] (S++(.lst va::(G++G1)))=some (.nx,[D,some (.ref S.length),some (.tup [.str "try",ua,ub]),some ub],S++(.lst vb::(G++(G1++G2)))):=by
   rwa[cy,e2,x2]
  have hfor:gO (iTp (cSl (ah 2) (some (cC (.int 1))) none)) (gNm 3) (cy fw) [D,some (.ref S.length),some (.tup [.str "try",ua,ub]),r3] (S++(.lst (us++[.str "try"])::G))=some (.nx,[D,some (.ref S.length),some (.tup [.str "try",ua,ub]),some ub],S++(.lst vb::(G++(G1++G2)))):=by
   unfold gO iTp;rw[hcut,Q3];simp only[Q3];exact(bM trivial rfl b1).trans ((bM trivial rfl b2).trans (eD trivial))
  refine⟨r2',r3',G',(bM trivial rfl (ρ1:=[D,some (.ref S.length),some (.tup [.str "try",ua,ub]),some ub]) (S1:=S++(.lst vb::(G++(G1++G2)))) ?_).trans ?_⟩
  ·rw[ed];unfold eK;rw[bL (ρ':=[D,some (.ref S.length),some (.tup [.str "try",ua,ub]),r3]) (S':=S++(.lst (us++[.str "try"])::G)) (by rwa[eZ hL])];exact hfor
  ·rw[ih,hvb,hva];simp only[wdF,QF,Qm,QQ,Qj,Qi]
def qA(fw:Fn):Fn:=fnU 4 1 (lA fw)
theorem pI{fw:Fn}(Hw:HvT fw f k wd)(n1:n<=6)(w1:w<=1000):HvT (qA fw) (DF.u f) (fun ds=>∀d∈ds,DF.ok n w k d) (wdL wd):=fun ds S oa hl=>by
 have hl':(wdF wd ds).length+2<=5000:=by unfold wdL at hl;simp at hl;omega
 obtain⟨r2,r3,G,e⟩:=xO (S:=S) (D:=some (.tup (ds.map (DF.u f)))) Hw n1 w1 ds [.str "("] [] none none oa (by simp;omega);refine⟨S.length,.lst ((wdL wd ds).map U.str)::G,?_,by rw[ga0];rfl⟩;unfold qA;rw[Nu];have hL:([U.str "("]++(wdF wd ds).map U.str).length<LIM:=by unfold LIM;simp;omega
 have em:(wdL wd ds).map U.str=[U.str "("]++(wdF wd ds).map U.str++[.str ")"]:=by unfold wdL;rw[QF,Qm];rfl
 have hfor:gO (iTp (ah 0)) (gNm 2) (eK fw) [some (.tup (ds.map (DF.u f))),some (.ref S.length),none,none] (S++[.lst [.str "("]])=some (.nx,[some (.tup (ds.map (DF.u f))),some (.ref S.length),r2,r3],S++(.lst ([U.str "("]++(wdF wd ds).map U.str)::G)):=e;unfold lA;rw[em];obtain⟨us,hus⟩:∃us,us=[U.str "("]++(wdF wd ds).map U.str:=⟨_,rfl⟩;rw[<-hus]at hL hfor ⊢;rw[bL (ρ':=[some (.tup (ds.map (DF.u f))),some (.ref S.length),none,none]) (S':=S++[.lst [.str "("]]) (by obtain⟨x,hx⟩:∃x,x=U.tup (ds.map (DF.u f)):=⟨_,rfl⟩;rw[<-hx];rwa[]),bL hfor];obtain⟨x,hx⟩:∃x,x=U.tup (ds.map (DF.u f)):=⟨_,rfl⟩;rw[<-hx];rwa[eZ hL]
end
def OkM(n w:Int):(j:Nat)->List (Dl j)->Prop
 |0,ds=>ds.length<=12/\∀d∈ds,DF.ok n w (fun _=>False) d
 |j+1,ds=>ds.length<=12/\∀d∈ds,DF.ok n w (OkM n w j) d
section
variable{n w:Int}
theorem pW:∀J j:Nat,j<=J->HsT (uK J) (Dl.u j) (OkM n w j) (jQ j)
 |0,0,_=>fun a S ka=>tL (n:=n) (w:=w) (k:=fun _=>False) (fun _ _ z=>z.elim) a S ka.2
 |J+1,0,_=>fun a S ka=>tL (n:=n) (w:=w) (k:=fun _=>False) (fun _ _ z=>z.elim) a S ka.2
 |J+1,j+1,h=>fun a S ka=>tL (n:=n) (w:=w) (pW J j (by omega)) a S ka.2
theorem HdT.twelve{α:Type}{t:Int}{fd:Fn}{f:α->U}{q:α->Prop}{s:List α->Int}(h:HdT n w t fd f (fun ds=>ds.length<=30/\∀d∈ds,q d) s):HdT n w t fd f (fun ds=>ds.length<=12/\∀d∈ds,q d) s:=fun ns T a c room ha hc r0 r1=>by
 obtain⟨ds,a',c',G,e,k1,k2,k3,k4,k5,k6⟩:=h ns T a c room ha hc r0 r1;exact⟨ds,a',c',G,e,⟨k6,k1.2⟩,k2,k3,k4,k5,k6⟩
theorem vK(n0:1<=n)(n1:n<=6)(w0:2<=w)(w1:w<=1000):∀(J j t:Nat),t<=j->j<=J->HdT n w t (mB J) (Dl.u j) (OkM n w j) (jQ j)
 |0,0,0,_,_=>(mI (k:=fun _=>False) (fun _ _ z=>z.elim) (fun z=>absurd rfl z) n0 n1 w0 w1).twelve
 |J+1,0,0,_,_=>(mI (k:=fun _=>False) (fun _ _ z=>z.elim) (fun z=>absurd rfl z) n0 n1 w0 w1).twelve
 |J+1,j+1,0,_,h=>(mI (pW J j (by omega)) (fun z=>absurd rfl z) n0 n1 w0 w1).twelve
 | J+1,j+1,t+1,h,h'=>(mI (pW J j (by omega)) (fun _=>by
   have e:((t+1:Nat):Int)-1=(t:Int):=by omega
   rw[e];exact vK n0 n1 w0 w1 J j t (by omega) (by omega)) n0 n1 w0 w1).twelve
end
section
variable{α:Type}{n w:Int}{f:α->U}{k:List α->Prop}{wd:List α->List Str}
theorem jd{S:Sto}{l m:Nat}{a b:List U}(h1:S[l]?=some (.lst a))(h2:S[m]?=some (.lst b))(h:a.length+b.length<=9000):bI (.ref l) (.ref m) S=some (.ref S.length,S++[.lst (a++b)]):=by
 have hz:a.length+b.length<=LIM:=by unfold LIM;omega
 simp only[bI,qq,h1,h2];rw[if_pos hz]
theorem uj{fw:Fn}{D:Option U}(Hw:HvT fw f k wd)(n1:n<=6)(w1:w<=1000):∀(ds:List (DF α)) (us:List U) (T:Sto) (l:Nat) (r2:Option U),T[l]?=some (.lst us)->(∀d∈ds,d.ok n w k)->us.length+(wdF wd ds).length<=5000->
  ∃l' G r2',d7 (fun _=>True) (gNm 2) (cX fw) (ds.map (DF.u f)) [D,some (.ref l),r2] T=some (.nx,[D,some (.ref l'),r2'],T++G)/\(T++G)[l']?=some (.lst (us++(wdF wd ds).map U.str))
 |[],us,T,l,r2,h,_,_=>⟨l,[],r2,by rw[QN];exact eD trivial,by rw[QN];simp only[wdF,Qc,QN];exact h⟩
 |.pl d::ds,us,T,l,r2,h,oa,hl=>by
  have od:d.ok n w:=oa _ QY;simp only[wdF,Q5,QJ,QV]at hl;have c1:=jd (S:=T++[.lst [.str d.w]]) (l:=l) (m:=T.length) (bo h) (by rw[ga0];rfl) (by simp;omega);obtain⟨T2,hT2⟩:∃T2,T2=T++[.lst [.str d.w]]++[.lst (us++[.str d.w])]:=⟨_,rfl⟩;rw[<-hT2]at c1;have l1:(T++[O.lst [.str d.w]]).length=T.length+1:=by rw[QJ];rfl
  rw[l1]at c1;have e1:=kH (S:=T2) (ok:=fun _=>True) (gg:=gNm 0) (ce:=cCB mj (ae (ah 0) aB)) (f:=U.int) (v:=fun x:Int=>U.str (dA x)) (Rel:=fun ρ=>∃r0,ρ=[r0]) (fun _ _=>trivial) d.ns [] [] [none] ⟨_,rfl⟩ (by have:=mH d;simp;omega) (fun x hx ys G ρ hρ=>by
   obtain⟨r0,rfl⟩:=hρ;refine⟨[some (.int x)],⟨_,rfl⟩,rfl,?_⟩;have h1:∀S',mj [.int x] S'=some (.str (dA x),S'):=tK (jv n1 w1 od x hx);rwa[h1])
  simp only[Qi]at e1;have hcut:cSl (ah 2) (some (cC (.int 1))) none [D,some (.ref l),some d.u] T2=some (.tup (d.ns.map U.int),T2):=by
   have hv:ah 2 [D,some (.ref l),some d.u] T2=some (d.u,T2):=rfl;simp only[cSl,kI,hv,cC,Q3,vJ]
  have hcomp:oO (iTp (cSl (ah 2) (some (cC (.int 1))) none)) (gNm 0) (cCB mj (ae (ah 0) aB)) 1 [] [D,some (.ref l),some d.u] T2=some (.ref T2.length,T2++[.lst (d.ns.map fun x=>.str (dA x))]):=by
   unfold oO iTp;rw[hcut,Q3];simp only[Q3,A4,Q9,Qc,QN,e1]
  have g2:(T2++[O.lst (d.ns.map fun x=>.str (dA x))])[T.length+1]?=some (.lst (us++[.str d.w])):=bo (by rw[hT2,<-l1,ga0];rfl);have c2:=jd (S:=T2++[.lst (d.ns.map fun x=>.str (dA x))]) (l:=T.length+1) (m:=T2.length) g2 (by rw[ga0];rfl) (by have:=mH d;simp;omega);obtain⟨T4,hT4⟩:∃T4,T4=T2++[.lst (d.ns.map fun x=>.str (dA x))]++[.lst (us++[.str d.w]++d.ns.map fun x=>.str (dA x))]:=⟨_,rfl⟩;rw[<-hT4]at c2;obtain⟨l',G,r2',ih,g'⟩:=uj Hw n1 w1 ds (us++[.str d.w]++d.ns.map fun x=>.str (dA x)) T4 _ (some d.u) (by rw[hT4,ga0];rfl) (fun z hz=>oa z (QZ _ hz)) (by simp;omega);have e4:T4++G=T++([.lst [.str d.w],.lst (us++[.str d.w]),.lst (d.ns.map fun x=>.str (dA x)),.lst (us++[.str d.w]++d.ns.map fun x=>.str (dA x))]++G):=by rw[hT4,hT2];simp only[QQ,Qj,Qi]
  rw[e4]at ih g';refine⟨l',_,r2',(bM trivial rfl (ρ1:=[D,some (.ref (T2++[O.lst (d.ns.map fun x=>.str (dA x))]).length),some d.u]) (S1:=T4) ?_).trans ih,?_⟩
  ·show cX fw [D,some (.ref l),some d.u] _=_;have ht:aL (cOp fEq (cOp fIx (ah 2) (cC (.int 0))) (cC (.str "try"))) [D,some (.ref l),some d.u] T=some (false,T):=by
    rw[sj];have:=kf d;rwa[this]
   have hh:cOp fIx (ah 2) (cC (.int 0)) [D,some (.ref l),some d.u] T=some (.str d.w,T):=by
    rw[sj];rwa[]
   obtain⟨du,hdu⟩:∃du,du=d.u:=⟨_,rfl⟩;obtain⟨nm,hnm⟩:∃nm,nm=O.lst (d.ns.map fun x=>.str (dA x)):=⟨_,rfl⟩;rw[<-hdu]at ht hh hcomp ⊢;rw[<-hnm]at hcomp c2 ⊢;unfold cX;rw[sV,ht,Q3,xp,xn,GL,GL,show ah 1 [D,some (.ref l),some du] T=some (.ref l,T)from rfl,Q3,As,GR,ke,hh,Q3,jM,sT,Q3,jL,Q3,Cs,Q3,Ar,c1,Q3,As,hcomp,Q3,Ar,c2,Q3,qG];rfl
  ·rw[g'];simp only[wdF,QF,Qm,List.map_map,QQ,Qj,Qi];rfl
 |.tr a b::ds,us,T,l,r2,h,oa,hl=>by
  obtain⟨ka,kb⟩:k a/\k b:=oa _ QY;simp only[wdF,Q5,QJ]at hl;have c1:=jd (S:=T++[.lst [.str "try"]]) (l:=l) (m:=T.length) (bo h) (by rw[ga0];rfl) (by simp;omega);obtain⟨T2,hT2⟩:∃T2,T2=T++[.lst [.str "try"]]++[.lst (us++[.str "try"])]:=⟨_,rfl⟩;rw[<-hT2]at c1;have l1:(T++[O.lst [.str "try"]]).length=T.length+1:=by rw[QJ];rfl
  rw[l1]at c1;have g2:T2[T.length+1]?=some (.lst (us++[.str "try"])):=by rw[hT2,<-l1,ga0];rfl
  obtain⟨la,G1,e1,g1⟩:=Hw a T2 ka (by omega);have c2:=jd (S:=T2++G1) (l:=T.length+1) (m:=la) (bo g2) g1 (by simp;omega);obtain⟨T3,hT3⟩:∃T3,T3=T2++G1:=⟨_,rfl⟩;rw[<-hT3]at e1 c2;obtain⟨T4,hT4⟩:∃T4,T4=T3++[.lst (us++[.str "try"]++(wd a).map U.str)]:=⟨_,rfl⟩;rw[<-hT4]at c2;have g4:T4[T3.length]?=some (.lst (us++[.str "try"]++(wd a).map U.str)):=by rw[hT4,ga0];rfl
  obtain⟨lb,G2,e2,g3⟩:=Hw b T4 kb (by omega);have c3:=jd (S:=T4++G2) (l:=T3.length) (m:=lb) (bo g4) g3 (by simp;omega);obtain⟨T5,hT5⟩:∃T5,T5=T4++G2:=⟨_,rfl⟩;rw[<-hT5]at e2 c3;obtain⟨T6,hT6⟩:∃T6,T6=T5++[.lst (us++[.str "try"]++(wd a).map U.str++(wd b).map U.str)]:=⟨_,rfl⟩;rw[<-hT6]at c3;obtain⟨l',G,r2',ih,g'⟩:=uj Hw n1 w1 ds (us++[.str "try"]++(wd a).map U.str++(wd b).map U.str) T6 T5.length (some (DF.u f (.tr a b))) (by rw[hT6,ga0];rfl) (fun z hz=>oa z (QZ _ hz)) (by simp;omega);obtain⟨ua,hua⟩:∃ua,ua=U.tup (a.map f):=⟨_,rfl⟩;obtain⟨ub,hub⟩:∃ub,ub=U.tup (b.map f):=⟨_,rfl⟩;have ed:DF.u f (.tr a b)=.tup [.str "try",ua,ub]:=by rw[hua,hub];rfl
  rw[<-hua]at e1;rw[<-hub]at e2;have e4:T6++G=T++([.lst [.str "try"],.lst (us++[.str "try"])]++G1++[.lst (us++[.str "try"]++(wd a).map U.str)]++G2++[.lst (us++[.str "try"]++(wd a).map U.str++(wd b).map U.str)]++G):=by rw[hT6,hT5,hT4,hT3,hT2];simp only[QQ,Qj,Qi]
  rw[e4]at ih g';refine⟨l',_,r2',(bM trivial rfl (ρ1:=[D,some (.ref T5.length),some (DF.u f (.tr a b))]) (S1:=T6) ?_).trans ih,?_⟩
  ·rw[ed];rwa[cX,c1,e1,c2,e2,c3]
  ·rw[g'];simp only[wdF,QF,Qm,QQ,Qj,Qi]
def mJ(fw:Fn):Fn:=fnU 3 1 (jg fw)
theorem nM{fw:Fn}(Hw:HvT fw f k wd)(n1:n<=6)(w1:w<=1000):HvT (mJ fw) (DF.u f) (fun ds=>∀d∈ds,DF.ok n w k d) (wdL wd):=fun ds S oa hl=>by
 have hl':(wdF wd ds).length+2<=5000:=by unfold wdL at hl;simp at hl;omega
 obtain⟨l,G,r2,e,g⟩:=uj (D:=some (.tup (ds.map (DF.u f)))) Hw n1 w1 ds [.str "("] (S++[.lst [.str "("]]) S.length none (by rw[ga0];rfl) oa (by simp;omega);have c1:=jd (S:=S++[.lst [.str "("]]++G++[.lst [.str ")"]]) (l:=l) (m:=(S++[O.lst [.str "("]]++G).length) (bo g) (by rw[ga0];rfl) (by simp;omega);have em:(wdL wd ds).map U.str=[U.str "("]++(wdF wd ds).map U.str++[.str ")"]:=by unfold wdL;rw[QF,Qm];rfl
 refine⟨(S++[O.lst [.str "("]]++G++[O.lst [.str ")"]]).length,[O.lst [.str "("]]++G++[O.lst [.str ")"]]++[O.lst ((wdL wd ds).map U.str)],?_,?_⟩
 ·unfold mJ;rw[Kk,em];have hfor:gO (iTp (ah 0)) (gNm 2) (cX fw) [some (.tup (ds.map (DF.u f))),some (.ref S.length),none] (S++[.lst [.str "("]])=some (.nx,[some (.tup (ds.map (DF.u f))),some (.ref l),r2],S++[.lst [.str "("]]++G):=e;obtain⟨x,hx⟩:∃x,x=U.tup (ds.map (DF.u f)):=⟨_,rfl⟩;obtain⟨Y,hY⟩:∃Y,Y=S++[O.lst [.str "("]]++G:=⟨_,rfl⟩;rw[<-hx]at hfor ⊢;rw[<-hY]at hfor c1;unfold jg;rw[bL (ρ':=[some x,some (.ref S.length),none]) (S':=S++[.lst [.str "("]]) (by rwa[]),bL hfor];rw[<-QQ S,<-QQ S,<-QQ S,<-hY];obtain⟨Z,hZ⟩:∃Z,Z=Y++[O.lst [.str ")"]]++[.lst ([U.str "("]++(wdF wd ds).map U.str++[.str ")"])]:=⟨_,rfl⟩;rw[<-hZ]at c1 ⊢;rwa[c1]
 ·rw[<-QQ S,<-QQ S,<-QQ S,ga0];rfl
end
def wdD:(j:Nat)->List (Dl j)->List Str
 |0,ds=>wdL (fun _=>[]) ds
 |j+1,ds=>wdL (wdD j) ds
def mq:Nat->Fn
 |0=>qA fun _ _=>none
 |j+1=>qA (mq j)
def LwJ:Nat->Fn
 |0=>mJ fun _ _=>none
 |j+1=>mJ (LwJ j)
section
variable{n w:Int}
theorem qR(n1:n<=6)(w1:w<=1000):∀J j:Nat,j<=J->HvT (mq J) (Dl.u j) (OkM n w j) (wdD j)
 |0,0,_=>fun a S ka hl=>pI (n:=n) (w:=w) (k:=fun _=>False) (fun _ _ z=>z.elim) n1 w1 a S ka.2 hl
 |J+1,0,_=>fun a S ka hl=>pI (n:=n) (w:=w) (k:=fun _=>False) (fun _ _ z=>z.elim) n1 w1 a S ka.2 hl
 |J+1,j+1,h=>fun a S ka hl=>pI (n:=n) (w:=w) (qR n1 w1 J j (by omega)) n1 w1 a S ka.2 hl
theorem tj{α:Type}{k:List α->Prop}{s:List α->Int}{wd:List α->List Str}(h:∀a,k a->((wd a).length:Int)<=5*s a+2):∀ds:List (DF α),(∀d∈ds,d.ok n w k)->((wdF wd ds).length:Int)<=5*szF s ds
 |[],_=>by simp[wdF,szF]
 |.pl d::r,oa=>by
  have ih:=tj h r fun z hz=>oa z (QZ _ hz);have:=mH d;simp only[wdF,szF,Q5,QJ,QV];omega
 |.tr a b::r,oa=>by
  have ih:=tj h r fun z hz=>oa z (QZ _ hz);obtain⟨ka,kb⟩:k a/\k b:=oa _ QY;have h1:=h a ka;have h2:=h b kb;simp only[wdF,szF,Q5,QJ];omega
def gP{α:Type}{wd:List α->List Str}(ds:List (DF α)):(wdL wd ds).length=(wdF wd ds).length+2:=by unfold wdL;simp
theorem Cw{α:Type}{k:List α->Prop}{s:List α->Int}{wd:List α->List Str}(h:∀a,k a->((wd a).length:Int)<=5*s a+2)(ds:List (DF α))(oa:∀d∈ds,d.ok n w k):((wdL wd ds).length:Int)<=5*szF s ds+2:=by
 have:=tj h ds oa;rw[gP];omega
theorem tu:∀(j:Nat) (ds:List (Dl j)),OkM n w j ds->((wdD j ds).length:Int)<=5*jQ j ds+2
 |0,ds,ok=>Cw (n:=n) (w:=w) (k:=fun _=>False) (s:=fun _=>0) (wd:=fun _=>[]) (fun _ z=>z.elim) ds ok.2
 |j+1,ds,ok=>Cw (n:=n) (w:=w) (tu j) ds ok.2
def WOk(y:Str):Prop:=y.length<=4/\32∉y.cps.toList
instance (y:Str):Decidable (WOk y):=by unfold WOk;infer_instance
theorem Fo{x:Int}(h:0<=x/\x<1000):WOk (dA x):=by
 obtain⟨d1,d2,d3,d4⟩:=jc x.toNat (by omega);rw[<-hU h.1]at d1 d3;exact⟨by rw[fh];omega,fun z=>by have:=d3 32 z;omega⟩
def D6:WOk (Str.ofString "look"):=by decide +kernel
def HC:WOk (Str.ofString "put"):=by decide +kernel
def HB:WOk (Str.ofString "set"):=by decide +kernel
def D5:WOk (Str.ofString "plus"):=by decide +kernel
def D7:WOk (Str.ofString "leap"):=by decide +kernel
def D4:WOk (Str.ofString "wait"):=by decide +kernel
def HA:WOk (Str.ofString "try"):=by decide +kernel
def Mj:WOk (Str.ofString "("):=by decide +kernel
def Ml:WOk (Str.ofString ")"):=by decide +kernel
theorem D8(d:fH):WOk d.w:=match d with
 |.look _ _=>D6
 |.put _ _=>HC
 |.set _ _=>HB
 |.plus _ _=>D5
 |.leap _ _=>D7
 |.wait=>D4
theorem pK{α:Type}{k:List α->Prop}{wd:List α->List Str}(n1:n<=6)(w1:w<=1000)(h:∀a,k a->∀y∈wd a,WOk y):∀ds:List (DF α),(∀d∈ds,d.ok n w k)->∀y∈wdF wd ds,WOk y
 |[],_,y,hy=>by cases hy
 |.pl d::r,oa,y,hy=>by
  have od:d.ok n w:=oa _ QY;simp only[wdF,Qz,Qt]at hy;rcases hy with rfl|hy|hy
  ·exact D8 d
  ·obtain⟨x,hx,rfl⟩:=List.mem_map.mp hy;exact Fo (jv n1 w1 od x hx)
  ·exact pK n1 w1 h r (fun z hz=>oa z (QZ _ hz)) y hy
 |.tr a b::r,oa,y,hy=>by
  obtain⟨ka,kb⟩:k a/\k b:=oa _ QY;simp only[wdF,Qz,Qt]at hy;rcases hy with rfl|hy|hy|hy
  ·exact HA
  ·exact h a ka y hy
  ·exact h b kb y hy
  ·exact pK n1 w1 h r (fun z hz=>oa z (QZ _ hz)) y hy
theorem xK{α:Type}{wd:List α->List Str}{ds:List (DF α)}(h:∀y∈wdF wd ds,WOk y):∀y∈wdL wd ds,WOk y:=fun y hy=>by
 unfold wdL at hy;simp only[Qz,Qt,Qo,or_false]at hy;rcases hy with rfl|hy|rfl
 ·exact Mj
 ·exact h y hy
 ·exact Ml
theorem tq(n1:n<=6)(w1:w<=1000):∀(j:Nat) (ds:List (Dl j)),OkM n w j ds->∀y∈wdD j ds,WOk y
 |0,ds,ok=>xK (pK (n:=n) (w:=w) (k:=fun _=>False) n1 w1 (fun _ z=>z.elim) ds ok.2)
 |j+1,ds,ok=>xK (pK (n:=n) (w:=w) n1 w1 (tq n1 w1 j) ds ok.2)
end
structure Kq(X:Nat->Prop)(T T':Sto):Prop where
 len:T.length<=T'.length
 keep:∀j,j<T.length->¬X j->T'[j]?=T[j]?
section
variable{X Y:Nat->Prop}{T T1 T2:Sto}{j:Nat}{o:O}
def Kq.refl:Kq X T T:=⟨QU _,fun _ _ _=>rfl⟩
theorem Kq.trans(a:Kq X T T1)(b:Kq X T1 T2):Kq X T T2:=⟨Qk a.len b.len,fun j h n=>by rw[b.keep j (Qv h a.len) n,a.keep j h n]⟩
def Kq.app(G:Sto):Kq X T (T++G):=⟨by simp,fun j h _=>Qx h⟩
def Kq.set(h:X j):Kq X T (T.set j o):=⟨by simp,fun i _ n=>QM fun e=>n (by rw[<-e];exact h)⟩
def Kq.get(a:Kq X T T1)(h:T[j]?=some o)(n:¬X j):T1[j]?=some o:=by rw[a.keep j (Q6.mp h).1 n];exact h
def Kq.imp(a:Kq X T T1)(h:∀j,j<T.length->X j->Y j):Kq Y T T1:=⟨a.len,fun j hj n=>a.keep j hj fun x=>n (h j hj x)⟩
end
def Wa(ws:List Str)(p:Nat)(xs:List Str):Prop:=∃rest,ws.drop p=xs++rest
section
variable{ws xs ys:List Str}{p:Nat}{x:Str}
theorem Wa.head(h:Wa ws p (x::xs)):ws[p]?=some x:=by
 obtain⟨rest,e⟩:=h;have:(ws.drop p)[0]?=some x:=by rw[e];rfl
 rw[List.getElem?_drop]at this;exact this
theorem Wa.tail(h:Wa ws p (x::xs)):Wa ws (p+1) xs:=by
 obtain⟨rest,e⟩:=h;refine⟨rest,?_⟩;rw[<-List.drop_drop,e];rfl
theorem Wa.left(h:Wa ws p (xs++ys)):Wa ws p xs:=by
 obtain⟨rest,e⟩:=h;exact⟨ys++rest,by rw[e,QQ]⟩
theorem Wa.right(h:Wa ws p (xs++ys)):Wa ws (p+xs.length) ys:=by
 obtain⟨rest,e⟩:=h;refine⟨rest,?_⟩;rw[<-List.drop_drop,e,QQ,List.drop_left]
end
def eG(cR:Cl)(n w:Int)(lw:Nat)(p:Nat)(m:Int):O:=.ins cR [some (.tup [.int n,.int w]),some (.ref lw),some (.int p),some (.int m)]
structure Rs(cR:Cl)(n w:Int)(ws:List Str)(r lw p:Nat)(m:Int)(T:Sto):Prop where
 rd:T[r]?=some (eG cR n w lw p m)
 wd:T[lw]?=some (.lst (ws.map U.str))
 ne:lw≠r
def eA(cR:Cl):Fn:=fnU 1 1 (fP cR)
def bO:Fn:=fnU 2 2 fC
def fG(cR:Cl):Fn:=fnU 1 1 (gH cR)
def jo(cR:Cl):Fn:=fnU 3 2 (cK iF (eA cR) bO (fG cR) cR)
def fD:Fn:=fnU 3 2 bz
def bH(cR:Cl)(fr:Fn):Fn:=fnU 4 2 (cf bO (fG cR) fr cR)
def dJ(cR:Cl)(ft:Fn):Fn:=fnU 6 2 (bF fD (eA cR) ft bO (fG cR) (jo cR) cR)
def oj(cR:Cl)(fd:Fn):Fn:=fnU 3 2 (cM bO (eA cR) (fG cR) fd cR 100)
section
variable{cR:Cl}{n w lo hi x t m:Int}{ws:List Str}{r lw p L:Nat}{T T':Sto}{y:Str}
theorem Rs.at(R:Rs cR n w ws r lw p m T){p':Nat}{m':Int}(h:T'[r]?=some (eG cR n w lw p' m'))(k:Kq (·=r) T T'):Rs cR n w ws r lw p' m' T':=⟨h,k.get R.wd R.ne,R.ne⟩
theorem Rs.go(R:Rs cR n w ws r lw p m T)(p':Nat)(m':Int):Rs cR n w ws r lw p' m' (T.set r (eG cR n w lw p' m')):=
 R.at (by rw[ZG,if_pos rfl,if_pos (Q6.mp R.rd).1]) (.set rfl)
def Rs.app(R:Rs cR n w ws r lw p m T)(G:Sto):Rs cR n w ws r lw p m (T++G):=⟨bo R.rd,bo R.wd,R.ne⟩
theorem gw(R:Rs cR n w ws r lw p m T)(h:ws[p]?=some y):eA cR [.ref r] T=some (.str y,T):=by
 have t0:=R.rd;have t1:=R.wd;unfold eG at t0;have hp:p<ws.length:=(Q6.mp h).1;have d1:decide ((p:Int)<((ws.map U.str).length:Int))=true:=decide_eq_true (by rw[QV];omega);have a1:atI (ws.map U.str) p=some (.str y):=j4 (by rw[Z0,h];rfl);obtain⟨us,hus⟩:∃us,us=ws.map U.str:=⟨_,rfl⟩;rw[<-hus]at t1 d1 a1;unfold eA;rw[uA];rwa[fP,t0,t1,d1,a1]
theorem fK{u:U}:bO [u,.bl true] T=some (.non,T):=by
 unfold bO;rw[B0];rwa[fC]
theorem ie(R:Rs cR n w ws r lw p m T):fG cR [.ref r] T=some (.non,T.set r (eG cR n w lw (p+1) m)):=by
 have t0:=R.rd;unfold eG at t0 ⊢;have e:((p+1:Nat):Int)=(p:Int)+1:=by omega
 rw[e];unfold fG;rw[uA];rwa[gH,t0]
theorem yj(R:Rs cR n w ws r lw p m T)(h:ws[p]?=some (dA x))(x0:0<=x)(x1:x<1000)(h1:lo<=x)(h2:x<=hi):∃T',jo cR [.ref r,.tup [.int lo,.int hi]] T=some (.int x,T')/\Rs cR n w ws r lw (p+1) m T'/\Kq (·=r) T T':=by
 have ew:=gw R h;obtain⟨G,en⟩:=yH x0 (by omega) T;have R1:=R.app G;have eg:=ie R1;have t0:=R.rd;have t1:=R1.rd;unfold eG at t0 t1;have d1:decide (lo<=x)=true:=decide_eq_true h1;have d2:decide (x<=hi)=true:=decide_eq_true h2;have hn:∀S',gE (.int x) .non S'=some (.bl true,S'):=fun _=>rfl;have hch:ji fLe fLe (cOp fIx (ah 1) (cC (.int 0))) (ah 2) (cOp fIx (ah 1) (cC (.int 1))) [some (.ref r),some (.tup [.int lo,.int hi]),some (.int x)] (T++G)=some (.bl true,T++G):=by
  have k1:cOp fIx (ah 1) (cC (.int 0)) [some (.ref r),some (.tup [.int lo,.int hi]),some (.int x)] (T++G)=some (.int lo,T++G):=rfl;have k2:cOp fIx (ah 1) (cC (.int 1)) [some (.ref r),some (.tup [.int lo,.int hi]),some (.int x)] (T++G)=some (.int hi,T++G):=rfl;have k3:ah 2 [some (.ref r),some (.tup [.int lo,.int hi]),some (.int x)] (T++G)=some (.int x,T++G):=rfl;simp only[ji,k1,k2,k3,Q3,KJ,d1,d2]
 refine⟨_,?_,R1.go (p+1) m,(Kq.app G).trans (.set rfl)⟩;unfold jo;rw[uz];unfold cK;rw[bL (ρ':=[some (.ref r),some (.tup [.int lo,.int hi]),some (.int x)]) (S':=T++G) (by rwa[t0,ew,en])];obtain⟨Y,hY⟩:∃Y,Y=T++G:=⟨_,rfl⟩;rw[<-hY]at t1 eg hch ⊢;rw[bL (ρ':=[some (.ref r),some (.tup [.int lo,.int hi]),some (.int x)]) (S':=Y) (by rwa[t1,hn,hch,fK])];rw[bL (ρ':=[some (.ref r),some (.tup [.int lo,.int hi]),some (.int x)]) (S':=Y.set r (eG cR n w lw (p+1) m)) (by rwa[t1,eg])];rwa[]
def t9:decide ((Str.ofString "put")=(Str.ofString "look"))=false:=by decide +kernel
def t8:decide ((Str.ofString "set")=(Str.ofString "look"))=false:=by decide +kernel
def wC:decide ((Str.ofString "set")=(Str.ofString "put"))=false:=by decide +kernel
def rH:decide ((Str.ofString "plus")=(Str.ofString "look"))=false:=by decide +kernel
def ud:decide ((Str.ofString "plus")=(Str.ofString "put"))=false:=by decide +kernel
def uc:decide ((Str.ofString "plus")=(Str.ofString "set"))=false:=by decide +kernel
def rK:decide ((Str.ofString "leap")=(Str.ofString "look"))=false:=by decide +kernel
def ug:decide ((Str.ofString "leap")=(Str.ofString "put"))=false:=by decide +kernel
def uf:decide ((Str.ofString "leap")=(Str.ofString "set"))=false:=by decide +kernel
def rJ:decide ((Str.ofString "leap")=(Str.ofString "plus"))=false:=by decide +kernel
def rF:decide ((Str.ofString "wait")=(Str.ofString "look"))=false:=by decide +kernel
def t7:decide ((Str.ofString "wait")=(Str.ofString "put"))=false:=by decide +kernel
def t6:decide ((Str.ofString "wait")=(Str.ofString "set"))=false:=by decide +kernel
def rE:decide ((Str.ofString "wait")=(Str.ofString "plus"))=false:=by decide +kernel
def rG:decide ((Str.ofString "wait")=(Str.ofString "leap"))=false:=by decide +kernel
def Fz:decide ((Str.ofString "look")=(Str.ofString ")"))=false:=by decide +kernel
def JL:decide ((Str.ofString "put")=(Str.ofString ")"))=false:=by decide +kernel
def JK:decide ((Str.ofString "set")=(Str.ofString ")"))=false:=by decide +kernel
def Fy:decide ((Str.ofString "plus")=(Str.ofString ")"))=false:=by decide +kernel
def FA:decide ((Str.ofString "leap")=(Str.ofString ")"))=false:=by decide +kernel
def Fx:decide ((Str.ofString "wait")=(Str.ofString ")"))=false:=by decide +kernel
def JJ:decide ((Str.ofString "try")=(Str.ofString ")"))=false:=by decide +kernel
def fH.bs(n w:Int):fH->List (Int×Int)
 |.look _ _=>[(0,3),(0,n-1)]
 |.put _ _=>[(0,n-1),(0,3)]
 |.set _ _=>[(0,3),(0,w-1)]
 |.plus _ _=>[(0,3),(0,3)]
 |.leap _ _=>[(0,3),(1,12)]
 |.wait=>[]
def bU(b:Int×Int):U:=.tup [.int b.1,.int b.2]
theorem sD(d:fH)(S:Sto):fD [.tup [.int n,.int w],.str d.w] S=some (.tup ((d.bs n w).map bU),S):=by
 unfold fD;rw[uz];cases d with
 |look _ _=>
  show(bz [some (.tup [.int n,.int w]),some (.str "look"),none] S).bind kFn=_;rwa[bz,fH.bs,bU]
 |put _ _=>
  show(bz [some (.tup [.int n,.int w]),some (.str "put"),none] S).bind kFn=_;rwa[bz,fH.bs,bU,t9]
 |set _ _=>
  show(bz [some (.tup [.int n,.int w]),some (.str "set"),none] S).bind kFn=_;rwa[bz,fH.bs,bU,t8,wC]
 |plus _ _=>
  show(bz [some (.tup [.int n,.int w]),some (.str "plus"),none] S).bind kFn=_;rwa[bz,fH.bs,bU,rH,ud,uc]
 |leap _ _=>
  show(bz [some (.tup [.int n,.int w]),some (.str "leap"),none] S).bind kFn=_;rwa[bz,fH.bs,bU,rK,ug,uf,rJ]
 |wait=>
  show(bz [some (.tup [.int n,.int w]),some (.str "wait"),none] S).bind kFn=_;rwa[bz,fH.bs,bU,rF,t7,t6,rE,rG]
inductive In2:List (Int×Int)->List Int->Prop
 |nil:In2 [] []
 |cons {b:Int×Int} {x:Int} {bs:List (Int×Int)} {xs:List Int} (h1:b.1<=x) (h2:x<=b.2) (h3:0<=x) (h4:x<1000) (t:In2 bs xs):In2 (b::bs) (x::xs)
theorem F7(n1:n<=6)(w1:w<=1000){d:fH}(ok:d.ok n w):In2 (d.bs n w) d.ns:=by
 cases d<;>simp only[fH.ok]at ok<;>first
  |exact .nil
  |exact .cons (by simp only;omega) (by simp only;omega) (by omega) (by omega) (.cons (by simp only;omega) (by simp only;omega) (by omega) (by omega) .nil)
abbrev rdB(cR:Cl)(ft:Fn):CS:=bq fD (eA cR) ft bO (fG cR) (jo cR) cR
theorem vn{ft:Fn}{r1 r2 r3:Option U}(hL:L≠r):∀(bs:List (Int×Int)) (xs:List Int) (us:List U) (p:Nat) (T:Sto) (r5:Option U),In2 bs xs->Wa ws p (xs.map dA)->Rs cR n w ws r lw p m T->T[L]?=some (.lst us)->L≠lw->us.length+xs.length<=1000->
  ∃T' r5',d7 (fun _=>True) (gNm 5) (rdB cR ft) (bs.map bU) [some (.ref r),r1,r2,r3,some (.ref L),r5] T=some (.nx,[some (.ref r),r1,r2,r3,some (.ref L),r5'],T')/\T'[L]?=some (.lst (us++xs.map U.int))/\Rs cR n w ws r lw (p+xs.length) m T'/\Kq (fun j=>j=r\/j=L) T T'
 |_,_,us,p,T,r5,.nil,_,R,hT,_,_=>⟨T,r5,eD trivial,by rw[Qc,QN];exact hT,R,.refl⟩
 |b::bs,x::xs,us,p,T,r5,.cons h1 h2 h3 h4 ht,wa,R,hT,nl,hl=>by
  rw[Q5]at hl;obtain⟨T1,e1,R1,k1⟩:=yj R wa.head h3 h4 h1 h2;have g1:T1[L]?=some (.lst us):=k1.get hT hL;have t0:=R.rd;unfold eG at t0;have hlim:us.length<LIM:=by unfold LIM;omega
  have R2:Rs cR n w ws r lw (p+1) m (T1.set L (.lst (us++[.int x]))):=⟨by rw[QM hL];exact R1.rd,by rw[QM nl];exact R1.wd,R1.ne⟩;obtain⟨T',r5',ih,g',R',k'⟩:=vn hL bs xs (us++[.int x]) (p+1) (T1.set L (.lst (us++[.int x]))) (some (bU b)) ht wa.tail R2 (by rw[ZG,if_pos rfl,if_pos (Q6.mp g1).1]) nl (by simp;omega);refine⟨T',r5',(bM trivial rfl ?_).trans ih,by rw[g',QF,QQ];rfl,by rw[Q5,show p+(xs.length+1)=p+1+xs.length from by omega];exact R',((k1.imp fun j _ e=>.inl e).trans (.set (.inr rfl))).trans k'⟩;have e1':jo cR [.ref r,bU b] T=some (.int x,T1):=e1;obtain⟨bu,hbu⟩:∃bu,bu=bU b:=⟨_,rfl⟩;rw[<-hbu]at e1' ⊢;unfold rdB bq;rwa[hT,t0,e1',g1,eZ hlim]
theorem Bt{ft:Fn}(R:Rs cR n w ws r lw p m T)(n1:n<=6)(w1:w<=1000){d:fH}(ok:d.ok n w)(wa:Wa ws p (d.w::d.ns.map dA)) :
  ∃T',dJ cR ft [.ref r,.int t] T=some (d.u,T')/\Rs cR n w ws r lw (p+(1+d.ns.length)) m T'/\Kq (·=r) T T':=by
 have t0:=R.rd;have ew:=gw R wa.head;have eb:=sD (n:=n) (w:=w) d T;have eg:=ie R;have nt:=kf d;have R1:=R.go (p+1) m;obtain⟨T1,hT1⟩:∃T1,T1=T.set r (eG cR n w lw (p+1) m):=⟨_,rfl⟩;rw[<-hT1]at eg R1;have l1:T1.length=T.length:=by rw[hT1,List.length_set]
 have hr:r<T.length:=(Q6.mp R.rd).1;have hlw:lw<T.length:=(Q6.mp R.wd).1;have R2:=R1.app [.lst [.str d.w]];obtain⟨T3,r5,e3,g3,R3,k3⟩:=vn (ft:=ft) (r1:=some (.int t)) (r2:=some (.str d.w)) (r3:=some (.tup ((d.bs n w).map bU))) (L:=T1.length) (by omega) (d.bs n w) d.ns [.str d.w] (p+1) (T1++[.lst [.str d.w]]) none (F7 n1 w1 ok) wa.tail R2 (by rw[ga0];rfl) (by omega) (by have:=mH d;simp;omega);have k1:Kq (·=r) T T1:=by rw[hT1];exact .set rfl
 refine⟨T3,?_,by rw[show p+(1+d.ns.length)=p+1+d.ns.length from by omega];exact R3,k1.trans ⟨?_,?_⟩⟩
 ·have hn:∀S',gE (.tup ((d.bs n w).map bU)) .non S'=some (.bl true,S'):=fun _=>rfl;have hfor:gO (iTp (ah 3)) (gNm 5) (rdB cR ft) [some (.ref r),some (.int t),some (.str d.w),some (.tup ((d.bs n w).map bU)),some (.ref T1.length),none] (T1++[.lst [.str d.w]])=some (.nx,[some (.ref r),some (.int t),some (.str d.w),some (.tup ((d.bs n w).map bU)),some (.ref T1.length),r5],T3):=e3;obtain⟨bs,hbs⟩:∃bs,bs=U.tup ((d.bs n w).map bU):=⟨_,rfl⟩;rw[<-hbs]at eb hn hfor;rw[sj];obtain⟨us,hus⟩:∃us,us=U.str d.w::d.ns.map U.int:=⟨_,rfl⟩;have g3':T3[T1.length]?=some (.lst us):=by rw[hus];exact g3
  rw[<-hus];unfold eG at t0;unfold dJ;rw[zA];unfold bF;rw[bL (ρ':=[some (.ref r),some (.int t),some (.str d.w),none,none,none]) (S':=T) (by rwa[t0,ew])];rw[bL (ρ':=[some (.ref r),some (.int t),some (.str d.w),none,none,none]) (S':=T) (by rwa[nt])];rw[bL (ρ':=[some (.ref r),some (.int t),some (.str d.w),some bs,none,none]) (S':=T) (by rwa[t0,eb])];rw[bL (ρ':=[some (.ref r),some (.int t),some (.str d.w),some bs,none,none]) (S':=T) (by rwa[t0,hn,fK])];rw[bL (ρ':=[some (.ref r),some (.int t),some (.str d.w),some bs,none,none]) (S':=T1) (by rwa[t0,eg])];rw[bL (ρ':=[some (.ref r),some (.int t),some (.str d.w),some bs,some (.ref T1.length),none]) (S':=T1++[.lst [.str d.w]]) (by rwa[])];rw[bL hfor];rwa[g3']
 ·exact Qk (by simp) k3.len
 ·intro j hj hn;rw[k3.keep j (by simp;omega) (fun z=>z.elim hn (by omega)),Qx hj]
end
section
variable{α:Type}{cR:Cl}{n w t m tm:Int}{ws:List Str}{r lw p L:Nat}{T T':Sto}{f:α->U}{k:List α->Prop}{s:List α->Int}{wd:List α->List Str}
def HqT(cR:Cl)(n w:Int)(ws:List Str)(r lw:Nat)(tm:Int)(fr:Fn)(f:α->U)(k:List α->Prop)(s:List α->Int)(wd:List α->List Str):Prop:=∀(ds:List α) (t m:Int) (p:Nat) (T:Sto),k ds->tm<=t->m+s ds<=40->Wa ws p (wd ds)->Rs cR n w ws r lw p m T->
 ∃T',fr [.ref r,.int t] T=some (.tup (ds.map f),T')/\Rs cR n w ws r lw (p+(wd ds).length) (m+s ds) T'/\Kq (·=r) T T'
theorem Et{fr:Fn}(Hr:HqT cR n w ws r lw tm fr f k s wd)(s0:∀a,0<=s a)(tm0:0<=tm)(ht:tm+1<=t){a b:List α}(ka:k a)(kb:k b)(hm:m+s a+s b<=40)(wa:Wa ws p ("try"::(wd a++wd b)))(R:Rs cR n w ws r lw p m T) :
  ∃T',bH cR fr [.ref r,.int t] T=some (.tup [.str "try",.tup (a.map f),.tup (b.map f)],T')/\Rs cR n w ws r lw (p+(1+(wd a).length+(wd b).length)) (m+s a+s b) T'/\Kq (·=r) T T':=by
 have t0:=R.rd;have eg:=ie R;have R1:=R.go (p+1) m;obtain⟨T1,hT1⟩:∃T1,T1=T.set r (eG cR n w lw (p+1) m):=⟨_,rfl⟩;rw[<-hT1]at eg R1;have k1:Kq (·=r) T T1:=by rw[hT1];exact .set rfl
 have sb0:=s0 b;obtain⟨T2,e2,R2,k2⟩:=Hr a (t-1) m (p+1) T1 ka (by omega) (by omega) wa.tail.left R1;obtain⟨T3,e3,R3,k3⟩:=Hr b (t-1) (m+s a) (p+1+(wd a).length) T2 kb (by omega) (by omega) wa.tail.right R2;refine⟨T3,?_,by rw[show p+(1+(wd a).length+(wd b).length)=p+1+(wd a).length+(wd b).length from by omega];exact R3,(k1.trans k2).trans k3⟩;have t1:=R1.rd;have t2:=R2.rd;unfold eG at t0 t1 t2;have dt:decide (t>0)=true:=decide_eq_true (by omega);obtain⟨ua,hua⟩:∃ua,ua=U.tup (a.map f):=⟨_,rfl⟩;obtain⟨ub,hub⟩:∃ub,ub=U.tup (b.map f):=⟨_,rfl⟩;rw[<-hua]at e2 ⊢;rw[<-hub]at e3 ⊢;unfold bH;rw[BZ];unfold cf;rw[bL (ρ':=[some (.ref r),some (.int t),none,none]) (S':=T) (by rwa[t0,dt,fK])];rw[bL (ρ':=[some (.ref r),some (.int t),none,none]) (S':=T1) (by rwa[t0,eg])];rw[bL (ρ':=[some (.ref r),some (.int t),some ua,none]) (S':=T2) (by rwa[t1,e2])];rw[bL (ρ':=[some (.ref r),some (.int t),some ua,some ub]) (S':=T3) (by rwa[t2,e3])];rwa[]
def wdO(wd:List α->List Str):DF α->List Str
 |.pl d=>d.w::d.ns.map dA
 |.tr a b=>"try"::(wd a++wd b)
def szO(s:List α->Int):DF α->Int
 |.pl _=>0
 |.tr a b=>s a+s b
theorem gQ(d:DF α)(ds:List (DF α)):wdF wd (d::ds)=wdO wd d++wdF wd ds:=by
 cases d with
 |pl d=>simp only[wdF,wdO,Qj]
 |tr a b=>simp only[wdF,wdO,Qj,QQ]
theorem kg(d:DF α)(ds:List (DF α)):szF s (d::ds)=1+szO s d+szF s ds:=by
 cases d with
 |pl d=>simp only[szF,szO];omega
 |tr a b=>simp only[szF,szO];omega
def HK:decide ((Str.ofString "try")=(Str.ofString "try"))=true:=by decide +kernel
theorem vg{fr:Fn}(Hr:HqT cR n w ws r lw tm fr f k s wd)(s0:∀a,0<=s a)(ht:∀a,k a->0<=tm/\tm+1<=t)(n1:n<=6)(w1:w<=1000){d:DF α}(ok:d.ok n w k)(hm:m+szO s d<=40)(wa:Wa ws p (wdO wd d))(R:Rs cR n w ws r lw p m T) :
  ∃T',dJ cR (bH cR fr) [.ref r,.int t] T=some (DF.u f d,T')/\Rs cR n w ws r lw (p+(wdO wd d).length) (m+szO s d) T'/\Kq (·=r) T T':=by
 cases d with
 |pl d=>
  obtain⟨T',e,R',k'⟩:=Bt (t:=t) (ft:=bH cR fr) R n1 w1 ok wa;refine⟨T',e,?_,k'⟩;simp only[wdO,szO,Q5,QV,Int.add_zero];rw[show d.ns.length+1=1+d.ns.length from by omega];exact R'
 |tr a b=>
  obtain⟨T',e,R',k'⟩:=Et (p:=p) (m:=m) Hr s0 (ht a ok.1).1 (ht a ok.1).2 ok.1 ok.2 (by simp only[szO]at hm;omega) wa R;refine⟨T',?_,?_,k'⟩
  ·have t0:=R.rd;have ew:=gw R wa.head;unfold eG at t0;have et:=HK;show dJ cR (bH cR fr) [.ref r,.int t] T=some (.tup [.str "try",.tup (a.map f),.tup (b.map f)],T');obtain⟨v,hv⟩:∃v,v=U.tup [.str "try",.tup (a.map f),.tup (b.map f)]:=⟨_,rfl⟩;rw[<-hv]at e ⊢;unfold dJ;rw[zA];unfold bF;rw[bL (ρ':=[some (.ref r),some (.int t),some (.str "try"),none,none,none]) (S':=T) (by rwa[t0,ew])];rwa[et,t0,e]
  ·simp only[wdO,szO,Q5,QJ];rw[show(wd a).length+(wd b).length+1=1+(wd a).length+(wd b).length from by omega,show m+(s a+s b)=m+s a+s b from by omega];exact R'
theorem AI(wd:List α->List Str)(d:DF α):∃y xs,wdO wd d=y::xs/\decide (y=(Str.ofString ")"))=false:=by
 cases d with
 |pl d=>exact⟨d.w,_,rfl,match d with
  |.look _ _=>Fz
  |.put _ _=>JL
  |.set _ _=>JK
  |.plus _ _=>Fy
  |.leap _ _=>FA
  |.wait=>Fx⟩
 |tr a b=>exact⟨_,_,rfl,JJ⟩
def NA:decide ((Str.ofString ")")=(Str.ofString ")"))=true:=by decide +kernel
def Jz:decide ((Str.ofString "(")=(Str.ofString "("))=true:=by decide +kernel
abbrev rrB(cR:Cl)(fd:Fn):CS:=bA bO (eA cR) (fG cR) fd cR 100
abbrev rrT(cR:Cl):CT:=aL (cOp fNe (bc cR (eA cR) (ah 0) aB) (cC (.str ")")))
theorem vd{fr:Fn}(Hr:HqT cR n w ws r lw tm fr f k s wd)(s0:∀a,0<=s a)(ht:∀a,k a->0<=tm/\tm+1<=t)(n1:n<=6)(w1:w<=1000)(hL:L≠r)(hl:L≠lw):∀(ds:List (DF α)) (us:List U) (p:Nat) (m:Int) (T:Sto) (fu:Nat),(∀d∈ds,d.ok n w k)->ds.length<fu->us.length+ds.length<=12->m+szF s ds<=40->Wa ws p (wdF wd ds++[(")":Str)])->Rs cR n w ws r lw p m T->T[L]?=some (.lst us)->
  ∃T',e8 (rrT cR) (rrB cR (dJ cR (bH cR fr))) fu [some (.ref r),some (.int t),some (.ref L)] T=some (.nx,[some (.ref r),some (.int t),some (.ref L)],T')/\T'[L]?=some (.lst (us++ds.map (DF.u f)))/\Rs cR n w ws r lw (p+(wdF wd ds).length) (m+szF s ds) T'/\Kq (fun j=>j=r\/j=L) T T'
 |[],us,p,m,T,fu+1,_,_,_,_,wa,R,hT=>by
  have t0:=R.rd;have ew:=gw R wa.head;unfold eG at t0;have ec:=NA;refine⟨T,xI ?_,by rw[Qc,QN];exact hT,by simp only[wdF,szF,Z7,Nat.add_zero,Int.add_zero];exact R,.refl⟩;rwa[rrT,t0,ew,ec]
 |d::ds,us,p,m,T,fu+1,oa,hf,hu,hm,wa,R,hT=>by
  rw[Q5]at hf hu;rw[gQ,QQ]at wa;rw[kg]at hm;obtain⟨y,xs,ey,ny⟩:=AI wd d;have hy:ws[p]?=some y:=Wa.head (xs:=xs++(wdF wd ds++[(")":Str)])) (by rw[ey]at wa;exact wa);have t0:=R.rd;have ew:=gw R hy;have so:0<=szO s d:=by
   cases d with
   |pl d=>exact Int.le_refl _
   |tr a b=>have:=s0 a;have:=s0 b;simp only[szO];omega
  have sf:∀l:List (DF α),0<=szF s l:=fun l=>by
   induction l with
   |nil=>exact Int.le_refl _
   |cons e l ih=>
    rw[kg];cases e with
    |pl _=>simp only[szO];omega
    |tr a b=>have:=s0 a;have:=s0 b;simp only[szO];omega
  have sd:=sf ds;have R1:=R.go p (m+1);obtain⟨T1,hT1⟩:∃T1,T1=T.set r (eG cR n w lw p (m+1)):=⟨_,rfl⟩;rw[<-hT1]at R1;have k1:Kq (fun j=>j=r\/j=L) T T1:=by rw[hT1];exact .set (.inl rfl)
  have g1:T1[L]?=some (.lst us):=by rw[hT1,QM (Ne.symm hL)];exact hT
  obtain⟨T2,e2,R2,k2⟩:=vg (p:=p) (m:=m+1) Hr s0 ht n1 w1 (oa d QY) (by omega) wa.left R1;have g2:T2[L]?=some (.lst us):=k2.get g1 hL;have hlim:us.length<LIM:=by unfold LIM;omega
  have R3:Rs cR n w ws r lw (p+(wdO wd d).length) (m+1+szO s d) (T2.set L (.lst (us++[DF.u f d]))):=⟨by rw[QM hL];exact R2.rd,by rw[QM hl];exact R2.wd,R2.ne⟩;obtain⟨T',ih,g',R',k'⟩:=vd Hr s0 ht n1 w1 hL hl ds (us++[DF.u f d]) (p+(wdO wd d).length) (m+1+szO s d) (T2.set L (.lst (us++[DF.u f d]))) fu (fun z hz=>oa z (QZ _ hz)) (by omega) (by simp;omega) (by omega) wa.right R3 (by rw[ZG,if_pos rfl,if_pos (Q6.mp g2).1]);refine⟨T',(uT (S0:=T) (ρ1:=[some (.ref r),some (.int t),some (.ref L)]) (S1:=T2.set L (.lst (us++[DF.u f d]))) ?_ ?_).trans ih,by rw[g',QF,QQ];rfl,?_,(k1.trans (k2.imp fun j _ e=>.inl e)).trans ((Kq.set (.inr rfl)).trans k')⟩
  ·unfold eG at t0;rwa[rrT,t0,ew,ny]
  ·have t1:=R1.rd;have d1:decide ((us.length:Int)<12)=true:=decide_eq_true (by omega);have d2:decide (m<40)=true:=decide_eq_true (by omega);obtain⟨v,hv⟩:∃v,v=DF.u f d:=⟨_,rfl⟩;rw[<-hv]at e2 ⊢;have hs:lB cR 3 (ah 0) (cOp bI (jx cR 3 (ah 0)) (cC (.int 1))) [some (.ref r),some (.int t),some (.ref L)] T=some (.nx,[some (.ref r),some (.int t),some (.ref L)],T1):=by
    rw[hT1];unfold eG at t0 ⊢;rwa[t0]
   unfold eG at t0 t1;unfold rrB bA;rw[bL (ρ':=[some (.ref r),some (.int t),some (.ref L)]) (S':=T) (by rwa[t0,hT,d1,d2,fK])];rw[bL hs];rwa[g1,t1,e2,g2,eZ hlim]
  ·rw[gQ,kg,QJ,show p+((wdO wd d).length+(wdF wd ds).length)=p+(wdO wd d).length+(wdF wd ds).length from by omega,show m+(1+szO s d+szF s ds)=m+1+szO s d+szF s ds from by omega];exact R'
theorem tM{fr:Fn}(Hr:HqT cR n w ws r lw tm fr f k s wd){tn:Int}(s0:∀a,0<=s a)(hk:∀a,k a->0<=tm/\tm+1<=tn)(n1:n<=6)(w1:w<=1000):HqT cR n w ws r lw tn (oj cR (dJ cR (bH cR fr))) (DF.u f) (fun ds=>ds.length<=12/\∀d∈ds,DF.ok n w k d) (szF s) (wdL wd):=fun ds t m p T ok ht hm wa R=>by
 have t0:=R.rd;have wa':Wa ws p (("(":Str)::(wdF wd ds++[(")":Str)])):=wa;have ew:=gw R wa'.head;have eg:=ie R;have R1:=R.go (p+1) m;obtain⟨T1,hT1⟩:∃T1,T1=T.set r (eG cR n w lw (p+1) m):=⟨_,rfl⟩;rw[<-hT1]at eg R1;have l1:T1.length=T.length:=by rw[hT1,List.length_set]
 have hr:r<T.length:=(Q6.mp R.rd).1;have hlw:lw<T.length:=(Q6.mp R.wd).1;have k1:Kq (·=r) T T1:=by rw[hT1];exact .set rfl
 obtain⟨T3,e3,g3,R3,k3⟩:=vd (t:=t) (L:=T1.length) Hr s0 (fun a ka=>⟨(hk a ka).1,Int.le_trans (hk a ka).2 ht⟩) n1 w1 (by omega) (by omega) ds [] (p+1) m (T1++[.lst []]) 100 ok.2 (by have:=ok.1;omega) (by have:=ok.1;simp;omega) hm wa'.tail (R1.app _) (by rw[ga0];rfl);rw[Qi]at g3;have eg3:=ie R3;have R4:=R3.go (p+1+(wdF wd ds).length+1) (m+szF s ds);have t3:=R3.rd;have g4:(T3.set r (eG cR n w lw (p+1+(wdF wd ds).length+1) (m+szF s ds)))[T1.length]?=some (.lst (ds.map (DF.u f))):=by rw[QM (by omega)];exact g3
 obtain⟨T4,hT4⟩:∃T4,T4=T3.set r (eG cR n w lw (p+1+(wdF wd ds).length+1) (m+szF s ds)):=⟨_,rfl⟩;rw[<-hT4]at eg3 R4 g4;refine⟨T4,?_,by rw[gP,show p+((wdF wd ds).length+2)=p+1+(wdF wd ds).length+1 from by omega];exact R4,k1.trans ⟨?_,?_⟩⟩
 ·have eo:=Jz;obtain⟨us,hus⟩:∃us,us=ds.map (DF.u f):=⟨_,rfl⟩;rw[<-hus]at g4 ⊢;unfold eG at t0 t3;unfold oj;rw[uz];unfold cM;rw[bL (ρ':=[some (.ref r),some (.int t),none]) (S':=T) (by rwa[t0,ew,eo,fK])];rw[bL (ρ':=[some (.ref r),some (.int t),none]) (S':=T1) (by rwa[t0,eg])];rw[bL (ρ':=[some (.ref r),some (.int t),some (.ref T1.length)]) (S':=T1++[.lst []]) (by rwa[])];rw[bL e3];rw[bL (ρ':=[some (.ref r),some (.int t),some (.ref T1.length)]) (S':=T4) (by rwa[t3,eg3])];rwa[g4]
 ·rw[hT4,List.length_set];exact Qk (by simp) k3.len
 ·intro j hj hn;rw[hT4,QM (Ne.symm hn),k3.keep j (by simp;omega) (fun z=>z.elim hn (by omega)),Qx hj]
end
def lF(cR:Cl):Nat->Fn
 |0=>oj cR (dJ cR (bH cR fun _ _=>none))
 |j+1=>oj cR (dJ cR (bH cR (lF cR j)))
theorem u5{α:Type}{s:List α->Int}(s0:∀a,0<=s a):∀ds:List (DF α),0<=szF s ds
 |[]=>Int.le_refl _
 |.pl _::r=>by have:=u5 s0 r;simp only[szF];omega
 |.tr a b::r=>by have:=u5 s0 r;have:=s0 a;have:=s0 b;simp only[szF];omega
theorem pX:∀(j:Nat) (ds:List (Dl j)),0<=jQ j ds
 |0,ds=>u5 (fun _=>Int.le_refl _) ds
 |j+1,ds=>u5 (pX j) ds
section
variable{cR:Cl}{n w:Int}{ws:List Str}{r lw:Nat}
theorem pY(n1:n<=6)(w1:w<=1000):∀J j:Nat,j<=J->HqT cR n w ws r lw j (lF cR J) (Dl.u j) (OkM n w j) (jQ j) (wdD j)
 |0,0,_=>fun ds t m p T ok ht hm wa R=>tM (tm:=0) (k:=fun _=>False) (s:=fun _=>0) (wd:=fun _=>[]) (fun _ _ _ _ _ z=>z.elim) (fun _=>Int.le_refl _) (fun _ z=>z.elim) n1 w1 ds t m p T ok ht hm wa R
 |J+1,0,_=>fun ds t m p T ok ht hm wa R=>tM (tm:=0) (k:=fun _=>False) (s:=fun _=>0) (wd:=fun _=>[]) (fun _ _ _ _ _ z=>z.elim) (fun _=>Int.le_refl _) (fun _ z=>z.elim) n1 w1 ds t m p T ok ht hm wa R
 |J+1,j+1,h=>fun ds t m p T ok ht hm wa R=>tM (tm:=(j:Int)) (tn:=((j+1:Nat):Int)) (pY n1 w1 J j (by omega)) (pX j) (fun _ _=>⟨by omega,by omega⟩) n1 w1 ds t m p T ok ht hm wa R
end
def oo(cR:Cl):Fn:=fnU 2 1 (cN (lF cR 3) bO cR)
def j6(cR:Cl):Fn:=fnU 3 3 (fQ cR)
def jJ(cR:Cl):Fn:=fnU 2 2 (fB (oo cR) (j6 cR) cR)
def uN:Fn:=fnU 1 1 (gF (mq 3))
def oy:Str.ofString " "=⟨#[32]⟩:=by decide +kernel
section
variable{cR:Cl}{n w:Int}{ds:List (Dl 3)}{S T T':Sto}
def txt(ds:List (Dl 3)):Str:=Str.join ⟨#[32]⟩ (wdD 3 ds)
theorem Ex{r lw:Nat}(R:Rs cR n w (wdD 3 ds) r lw 0 0 T)(n1:n<=6)(w1:w<=1000)(ok:OkM n w 3 ds)(sz:jQ 3 ds<=40):∃T',oo cR [.ref r] T=some (.tup (ds.map (Dl.u 3)),T')/\Kq (·=r) T T':=by
 obtain⟨T',e,R',k'⟩:=pY (cR:=cR) (ws:=wdD 3 ds) (r:=r) (lw:=lw) n1 w1 3 3 (by omega) ds 3 0 0 T ok (by omega) (by omega) ⟨[],by simp⟩ R;refine⟨T',?_,k'⟩;have t0:=R.rd;have t1:=R'.rd;have tw:=R'.wd;unfold eG at t0 t1;have d1:decide (((0+(wdD 3 ds).length:Nat):Int)=(((wdD 3 ds).map U.str).length:Int))=true:=decide_eq_true (by rw[QV,Nat.zero_add]);obtain⟨us,hus⟩:∃us,us=(wdD 3 ds).map U.str:=⟨_,rfl⟩;obtain⟨v,hv⟩:∃v,v=U.tup (ds.map (Dl.u 3)):=⟨_,rfl⟩;rw[<-hus]at tw d1;rw[<-hv]at e ⊢;unfold oo;rw[F2];unfold cN;rw[bL (ρ':=[some (.ref r),some v]) (S':=T') (by rwa[t0,e])];rw[bL (ρ':=[some (.ref r),some v]) (S':=T') (by rwa[t1,tw,d1,fK])];rwa[]
theorem xZ(n1:n<=6)(w1:w<=1000)(ok:OkM n w 3 ds)(sz:jQ 3 ds<=40):((wdD 3 ds).map (·.length)).sum+(wdD 3 ds).length*1<=1010/\(wdD 3 ds).length<=202:=by
 have h1:=tu 3 ds ok;have h2:=StrLaws.sumLen_le (B:=4) (wdD 3 ds) fun y hy=>(tq n1 w1 3 ds ok y hy).1;omega
def Cy:wdD 3 ds≠[]:=Qh _ _
theorem Ew(hns:cR.ns.length=4)(n1:n<=6)(w1:w<=1000)(ok:OkM n w 3 ds)(sz:jQ 3 ds<=40):∃G,jJ cR [.tup [.int n,.int w],.str (txt ds)] S=some (.tup (ds.map (Dl.u 3)),S++G):=by
 obtain⟨s1,s2⟩:=xZ n1 w1 ok sz;obtain⟨us,hus⟩:∃us,us=(wdD 3 ds).map U.str:=⟨_,rfl⟩;have l1:(S++[O.lst us]).length=S.length+1:=by rw[QJ];rfl
 have es:fN (.str (txt ds)) [.str " "] S=some (.ref S.length,S++[.lst us]):=by
  have hl:(txt ds).length<=100000:=by
   have:=StrLaws.join_length_le ⟨#[32]⟩ (wdD 3 ds);have e1:(⟨#[32]⟩:Str).length=1:=rfl;rw[e1]at this;unfold txt;omega
  have hc:((Str.ofString " ").length == 0)=false/\(txt ds).length<=100000:=⟨by rw[oy];rfl,hl⟩;have hsp:Txt.split (txt ds) (Str.ofString " ")=wdD 3 ds:=by
   rw[oy];exact wm Cy fun y hy=>(tq n1 w1 3 ds ok y hy).2
  simp only[fN];rw[if_pos hc,hsp,hus]
 have em:qp cR (j6 cR) [.tup [.int n,.int w],.ref S.length] (S++[.lst us])=some (.ref (S.length+1),S++[.lst us,eG cR n w S.length 0 0]):=by
  rw[Cr,hns,l1];unfold j6;rw[Kj];unfold eG;have g0:(S++[O.lst us,.ins cR (Q9 4 none)])[S.length+1]?=some (.ins cR (Q9 4 none)):=by rw[ga];rfl
  rwa[fQ,Q9];rfl
 have R:Rs cR n w (wdD 3 ds) (S.length+1) S.length 0 0 (S++[.lst us,eG cR n w S.length 0 0]):=⟨by rw[ga];rfl,by rw[ga0,hus];rfl,by omega⟩;obtain⟨T',e,k⟩:=Ex R n1 w1 ok sz;obtain⟨G,hG⟩:∃G,T'=S++G:=by
  refine⟨T'.drop S.length,?_⟩;have ht:T'.take S.length=S:=by
   refine List.ext_getElem? fun i=>?_;by_cases hi:i<S.length
   ·rw[List.getElem?_take,if_pos hi,k.keep i (by simp;omega) (by omega),Qx hi]
   ·rw[List.getElem?_take,if_neg hi,ZT (by omega)]
  conv=>lhs;rw[<-List.take_append_drop S.length T',ht]
 refine⟨G,?_⟩;have t0:=R.rd;unfold eG at t0 e em;rw[<-hG];obtain⟨v,hv⟩:∃v,v=U.tup (ds.map (Dl.u 3)):=⟨_,rfl⟩;rw[<-hv]at e ⊢;have hbs:cBS fN (ah 1) (ae (cC (.str " ")) aB) [some (.tup [.int n,.int w]),some (.str (txt ds))] S=some (.ref S.length,S++[.lst us]):=by
  have h1:ah 1 [some (.tup [.int n,.int w]),some (.str (txt ds))] S=some (.str (txt ds),S):=rfl;unfold cBS;rw[h1,Q3];simp only[ke,x_c,jM,sT,jL,Q3,es]
 obtain⟨Y,hY⟩:∃Y,Y=S++[O.lst us,.ins cR [some (.tup [.int n,.int w]),some (.ref S.length),some (.int (0:Nat)),some (.int 0)]]:=⟨_,rfl⟩;rw[<-hY]at e em t0;unfold jJ;rw[B0];rwa[fB,hbs,em,t0,e]
theorem FJ{l:Nat}(n1:n<=6)(w1:w<=1000)(ok:OkM n w 3 ds)(sz:jQ 3 ds<=40)(h:S[l]?=some (.lst ((wdD 3 ds).map U.str))):kG (.str " ") [.ref l] S=some (.str (txt ds),S):=by
 obtain⟨s1,s2⟩:=xZ n1 w1 ok sz;have e1:(Str.ofString " ").length=1:=by rw[oy];rfl
 have hc:((wdD 3 ds).map (·.length)).sum+(wdD 3 ds).length*(Str.ofString " ").length<=1000000:=by rw[e1];omega
 simp only[kG,h,mO,Q3];rw[if_pos hc,oy];rfl
theorem B3(n1:n<=6)(w1:w<=1000)(ok:OkM n w 3 ds)(sz:jQ 3 ds<=40):∃G,uN [.tup (ds.map (Dl.u 3))] S=some (.str (txt ds),S++G):=by
 obtain⟨s1,s2⟩:=xZ n1 w1 ok sz;obtain⟨l,G,e,g⟩:=qR n1 w1 3 3 (by omega) ds S ok (by omega);have ej:=FJ n1 w1 ok sz g;refine⟨G,?_⟩;obtain⟨v,hv⟩:∃v,v=U.tup (ds.map (Dl.u 3)):=⟨_,rfl⟩;rw[<-hv]at e ⊢;obtain⟨Y,hY⟩:∃Y,Y=S++G:=⟨_,rfl⟩;rw[<-hY]at e ej ⊢;have hbs:cBS kG (cC (.str " ")) (ae (cCB (mq 3) (ae (ah 0) aB)) aB) [some v] S=some (.str (txt ds),Y):=by
  unfold cBS;rw[x_c,Q3];have h1:ah 0 [some v] S=some (v,S):=rfl;simp only[ke,NM,h1,jM,sT,jL,Hj,e,Q3,ej]
 unfold uN;rw[uA];rwa[gF,hbs]
end
end OQ
namespace OL
open PySem PySem.Spec PyProof.Rows L2 OG OP OQ
def cv1:∀a:Fin 10,zC a.val=[48+a.val]:=by decide +kernel
def cv2:∀a b:Fin 10,a.val≠0->zC (10*a.val+b.val)=[48+a.val,48+b.val]:=by decide +kernel
def cv3:∀a b c:Fin 10,a.val≠0->zC (100*a.val+10*b.val+c.val)=[48+a.val,48+b.val,48+c.val]:=by decide +kernel
theorem cv4:∀a b c d:Fin 10,a.val≠0->zC (1000*a.val+100*b.val+10*c.val+d.val)=[48+a.val,48+b.val,48+c.val,48+d.val]:=by decide +kernel
def jI{c:Nat}(h:48<=c/\c<=57):∃a:Fin 10,c=48+a.val:=⟨⟨c-48,by omega⟩,by show c=48+(c-48);omega⟩
theorem F4:∀{l:List Nat},l.length<=4->(∀c∈l,48<=c/\c<=57)->l≠[]->(l.head?=some 48->l=[48])->∃x,x<10000/\zC x=l
 |[],_,_,h,_=>absurd rfl h
 |[a],_,hd,_,_=>by
  obtain⟨a,rfl⟩:=jI (hd a (by simp));exact⟨a.val,by omega,cv1 a⟩
 |[a,b],_,hd,_,hz=>by
  obtain⟨a,rfl⟩:=jI (hd a (by simp));obtain⟨b,rfl⟩:=jI (hd b (by simp));exact⟨_,by omega,cv2 a b fun z=>by have:=congrArg List.length (hz (by rw[z];rfl));simp at this⟩
 |[a,b,c],_,hd,_,hz=>by
  obtain⟨a,rfl⟩:=jI (hd a (by simp));obtain⟨b,rfl⟩:=jI (hd b (by simp));obtain⟨c,rfl⟩:=jI (hd c (by simp));exact⟨_,by omega,cv3 a b c fun z=>by have:=congrArg List.length (hz (by rw[z];rfl));simp at this⟩
 |[a,b,c,d],_,hd,_,hz=>by
  obtain⟨a,rfl⟩:=jI (hd a (by simp));obtain⟨b,rfl⟩:=jI (hd b (by simp));obtain⟨c,rfl⟩:=jI (hd c (by simp));obtain⟨d,rfl⟩:=jI (hd d (by simp));exact⟨_,by omega,cv4 a b c d fun z=>by have:=congrArg List.length (hz (by rw[z];rfl));simp at this⟩
 |_::_::_::_::_::_,h,_,_,_=>by simp at h
def De:∀c:Nat,c<128->Txt.contains (Str.ofString "0123456789") ⟨#[c]⟩=decide (48<=c/\c<=57):=by decide +kernel
def Asc(y:Str):Prop:=y.cps.all (· < 128)=true
theorem Eo{y s:Str}(h:s∈signs y):∃c∈y.cps.toList,s=⟨#[c]⟩:=by
 obtain⟨i,hi⟩:=List.mem_iff_getElem?.mp h;cases hc:y.cps[i]? with
 |none=>
  rw[ZT (by rw[signs_length];exact Array.getElem?_eq_none_iff.mp hc)]at hi;cases hi
 |some c=>
  rw[signs_get hc]at hi;cases hi;exact⟨c,by rw[Array.mem_toList_iff];exact Array.mem_of_getElem? hc,rfl⟩
theorem Ie{y:Str}{c:Nat}(h:c∈y.cps.toList):(⟨#[c]⟩:Str)∈signs y:=by
 obtain⟨i,hi⟩:=List.mem_iff_getElem?.mp h;rw[Array.getElem?_toList]at hi;exact ZU (signs_get hi)
def Pk(y:Str)(v:U):Prop:=(∃x:Int,v=.int x/\y=dA x/\0<=x)\/(v=.non/\∀x:Int,0<=x->x<1001->y≠dA x)
theorem wA{y:Str}(ha:Asc y)(hy:y.length<=1000000)(S:Sto):∃G v,iF [.str y] S=some (v,S++G)/\Pk y v:=by
 have lz:y.length=y.cps.toList.length:=fh y;have hlen:∀S':Sto,sh [.str y] S'=some (.int y.length,S'):=fun S'=>by
  unfold sh;simp only;rw[if_pos (by omega)]
 unfold iF;rw[uA];unfold iq;by_cases l0:y.length=0
 ·have t1:decide ((y.length:Int)=0)=true:=decide_eq_true (by omega);refine⟨[],.non,by rwa[hlen,t1,QN],.inr ⟨rfl,fun x x0 x1 e=>?_⟩⟩;obtain⟨d1,d2,d3,d4⟩:=jc x.toNat (by omega);rw[<-hU x0,<-e]at d2;omega
 by_cases l4:y.length>4
 ·have t1:decide ((y.length:Int)=0)=false:=decide_eq_false (by omega);have t2:decide ((y.length:Int)>4)=true:=decide_eq_true (by omega);refine⟨[],.non,by rwa[hlen,t1,t2,QN],.inr ⟨rfl,fun x x0 x1 e=>?_⟩⟩;obtain⟨d1,d2,d3,d4⟩:=jc x.toNat (by omega);rw[<-hU x0,<-e]at d1;omega
 have t1:decide ((y.length:Int)=0)=false:=decide_eq_false (by omega);have t2:decide ((y.length:Int)>4)=false:=decide_eq_false (by omega);obtain⟨bs,hbs⟩:∃bs,bs=(signs y).map fun s=>Txt.contains (Str.ofString "0123456789") s:=⟨_,rfl⟩;have e1:=kH (S:=S) (ok:=fun _=>True) (gg:=gNm 0) (ce:=cOp zu (ah 0) (cC (.str "0123456789"))) (f:=U.str) (v:=fun s:Str=>U.bl (Txt.contains (Str.ofString "0123456789") s)) (Rel:=fun ρ=>∃r0,ρ=[r0]) (fun _ _=>trivial) (signs y) [] [] [none] ⟨_,rfl⟩ (by rw[signs_length,Z7];omega) (fun s hs ys G ρ hρ=>by
  obtain⟨r0,rfl⟩:=hρ;refine⟨[some (.str s)],⟨_,rfl⟩,rfl,?_⟩;have h1:∀S':Sto,zu (.str s) (.str "0123456789") S'=some (.bl (Txt.contains (Str.ofString "0123456789") s),S'):=fun S'=>rfl;rwa[h1])
 simp only[Qi]at e1;have em:((signs y).map fun s=>U.bl (Txt.contains (Str.ofString "0123456789") s))=bs.map U.bl:=by rw[hbs,List.map_map];rfl
 rw[em]at e1;have hi:ah 0 [some (.str y)] S=some (.str y,S):=rfl;have hcomp:oO (Gi (ah 0)) (gNm 0) (cOp zu (ah 0) (cC (.str "0123456789"))) 1 [] [some (.str y)] S=some (.ref S.length,S++[.lst (bs.map U.bl)]):=by
  unfold oO Gi;rw[hi,Q3];simp only[show y.cps.all (· < 128)=true from ha,if_true,Q3,A4,Q9,Qc,QN,e1]
 have hall:F0 [.ref S.length] (S++[.lst (bs.map U.bl)])=some (.bl (bs.all id),S++[.lst (bs.map U.bl)]):=by
  simp only[F0,ga0,List.getElem?_cons_zero,qw,Q3]
 have dg:∀c∈y.cps.toList,c<128:=fun c hc=>by
  have:=Array.all_eq_true'.mp ha c (by simpa using hc);simpa using this
 cases hb:bs.all id with
 |false=>
  rw[hb]at hall;refine⟨[.lst (bs.map U.bl)],.non,by rwa[hlen,t1,t2,hcomp,hall],.inr ⟨rfl,fun x x0 x1 e=>?_⟩⟩;obtain⟨d1,d2,d3,d4⟩:=jc x.toNat (by omega);rw[<-hU x0,<-e]at d3;have:bs.all id=true:=by
   rw[hbs,List.all_map,List.all_eq_true];intro s hs;obtain⟨c,hc,rfl⟩:=Eo hs;show Txt.contains (Str.ofString "0123456789") ⟨#[c]⟩=true;rw[De c (dg c hc)];exact decide_eq_true (d3 c hc)
  rw[hb]at this;cases this
 |true=>
  rw[hb]at hall;have dd:∀c∈y.cps.toList,48<=c/\c<=57:=fun c hc=>by
   have h1:Txt.contains (Str.ofString "0123456789") ⟨#[c]⟩=true:=by
    have:=List.all_eq_true.mp hb (Txt.contains (Str.ofString "0123456789") ⟨#[c]⟩) (by rw[hbs];exact List.mem_map_of_mem (Ie hc));simpa using this
   rw[De c (dg c hc)]at h1;exact of_decide_eq_true h1
  obtain⟨c,hc⟩:∃c,y.cps[0]?=some c:=⟨_,Array.getElem?_eq_getElem (by rw[<-Array.length_toList];omega)⟩;have hhd:y.cps.toList.head?=some c:=by rw[List.head?_eq_getElem?,Array.getElem?_toList,hc]
  have hix:∀S':Sto,Df (.str y) (.int 0) S'=some (.str ⟨#[c]⟩,S'):=fun S'=>by
   unfold Df;simp only;rw[if_pos ⟨by omega,by omega,by omega⟩,show((0:Int)).toNat=0 from rfl,hc];rfl
  have hne:y.cps.toList≠[]:=fun z=>by rw[z]at lz;simp at lz;omega
  have fin:(y.cps.toList.head?=some 48->y.cps.toList=[48])->∃x:Int,y=dA x/\0<=x/\∀S':Sto,uw [.str y] S'=some (.int x,S'):=fun hz=>by
   obtain⟨x,x1,ex⟩:=F4 (by omega) dd hne hz;have e:y=dA (x:Int):=pS (by rw[hU (by omega)];exact ex.symm);have rd:PySem.intText? (dA (x:Int))=some (x:Int):=PySem.W.KIN.num_reads (by omega) (by omega);refine⟨x,e,by omega,fun S'=>?_⟩;unfold uw;simp only;rw[if_pos (by omega),e,rd];rfl
  by_cases c48:c=48
  ·by_cases hz:y=Str.ofString "0"
   ·obtain⟨x,e,x0,hint⟩:=fin fun _=>by rw[hz,iP]
    have k1:decide ((⟨#[c]⟩:Str)=(Str.ofString "0"))=true:=decide_eq_true (by rw[iP,c48]);have k2:decide (y=(Str.ofString "0"))=true:=decide_eq_true hz;exact⟨[.lst (bs.map U.bl)],.int x,by rwa[hlen,t1,t2,hcomp,hall,hix,k1,k2,hint],.inl ⟨x,rfl,e,x0⟩⟩
   ·have k1:decide ((⟨#[c]⟩:Str)=(Str.ofString "0"))=true:=decide_eq_true (by rw[iP,c48]);have k2:decide (y=(Str.ofString "0"))=false:=decide_eq_false hz;refine⟨[.lst (bs.map U.bl)],.non,by rwa[hlen,t1,t2,hcomp,hall,hix,k1,k2],.inr ⟨rfl,fun x x0 x1 e=>?_⟩⟩;obtain⟨d1,d2,d3,d4⟩:=jc x.toNat (by omega);rw[<-hU x0,<-e]at d4;exact hz (by rw[iP];exact pS (d4 (by rw[hhd,c48])))
  ·obtain⟨x,e,x0,hint⟩:=fin fun z=>absurd (Option.some.inj (hhd.symm.trans z)) c48;have k1:decide ((⟨#[c]⟩:Str)=(Str.ofString "0"))=false:=decide_eq_false (by rw[iP];intro h;injection h with h;injection h with h;injection h with h;exact c48 h);exact⟨[.lst (bs.map U.bl)],.int x,by rwa[hlen,t1,t2,hcomp,hall,hix,k1,hint],.inl ⟨x,rfl,e,x0⟩⟩
section
variable{c:CS}{x x1 x2:CR}{ρ ρ1:Rho}{S S1 S2:Sto}{cl:Cl}{g:FnR}{f:Fn}{ca:CE}{cr:CA}{l:Nat}{fs:List (Option U)}{us:List U}
def mv{d:CS}(h:c ρ S=none):aT c d ρ S=none:=by unfold aT;rw[h];rfl
def si{e:CE}(h:e ρ S=none):bp e ρ S=none:=by unfold bp;rw[h];rfl
def AS{i:Nat}{e:CE}(h:e ρ S=none):bj i e ρ S=none:=by unfold bj;rw[h];rfl
def kL(h:c ρ S=some (.nx,ρ1,S1)):uP c x ρ S=x ρ1 S1:=by unfold uP;rw[h];rfl
def pE(h:c ρ S=some (.nx,ρ1,S1)):uO c x1 x2 ρ S=x2 ρ1 S1:=by unfold uO;rw[h]
def sS(h:c ρ S=none):uO c x1 x2 ρ S=x1 ρ S:=by unfold uO;rw[h]
theorem kM(h1:ca ρ S=some (.ref l,S1))(h2:S1[l]?=some (.ins cl fs))(h3:cr ρ S1=some (us,S2)):gu cl g ca cr ρ S=g (.ref l::us) S2:=by
 unfold gu;rw[h1,Q3];simp only[h2,if_true,h3,Q3]
theorem lh(h1:ca ρ S=some (.ref l,S1))(h2:S1[l]?=some (.ins cl fs))(h3:cr ρ S1=some (us,S2))(h4:f (.ref l::us) S2=none):bc cl f ca cr ρ S=none:=by
 rwa[h1,h2,h3,h4,Option.bind_none]
def NJ{t:CT}(h:t ρ S=some (true,S1)):xIf t x1 x2 ρ S=x1 ρ S1:=by unfold xIf;rw[h];rfl
end
def jk(cR:Cl):FnR:=fnX 2 2 (dF cR)
def sI(cR:Cl):FnR:=fnX 3 2 (bQ iF (eA cR) bO (fG cR) (jk cR) cR)
def gJ(cR:Cl)(fr:Fn)(xr:FnR):FnR:=fnX 4 2 (bD bO (fG cR) fr (jk cR) xr cR)
def jj(cR:Cl)(ft:Fn)(xt:FnR):FnR:=fnX 6 2 (bw fD (eA cR) ft bO (fG cR) (jo cR) xt (jk cR) (sI cR) cR)
def Af(cR:Cl)(fd:Fn)(xd:FnR):FnR:=fnX 3 2 (bW bO (eA cR) (fG cR) fd (jk cR) xd cR 100)
def wAt(ws:List Str)(p:Nat):Str:=ws.getD p (Str.ofString "")
section
variable{cR:Cl}{n w lo hi m:Int}{ws:List Str}{r lw p:Nat}{T T':Sto}{y:Str}
def uU(h:ws[p]?=some y):wAt ws p=y:=by unfold wAt;rw[ZL,h];rfl
theorem mC(R:Rs cR n w ws r lw p m T):eA cR [.ref r] T=some (.str (wAt ws p),T):=by
 cases h:ws[p]? with
 |some y=>rw[uU h];exact gw R h
 |none=>
  have e:wAt ws p=Str.ofString "":=by unfold wAt;rw[ZL,h];rfl
  have hp:ws.length<=p:=List.getElem?_eq_none_iff.mp h;have t0:=R.rd;have t1:=R.wd;unfold eG at t0;have d1:decide ((p:Int)<((ws.map U.str).length:Int))=false:=decide_eq_false (by rw[QV];omega);obtain⟨us,hus⟩:∃us,us=ws.map U.str:=⟨_,rfl⟩;rw[<-hus]at t1 d1;rw[e];unfold eA;rw[uA];rwa[fP,t0,t1,d1]
theorem pB{u:U}:bO [u,.bl false] T=none:=by
 unfold bO;rw[B0];have:zV [some u,some (.bl false)] T=none:=rfl;rwa[fC,this,Option.bind_none]
theorem Gh(R:Rs cR n w ws r lw p m T)(hp:p<1000):jk cR [.ref r,.bl false] T=some ((p:Int),T):=by
 have t0:=R.rd;unfold eG at t0;unfold jk;rw[nZ];unfold dF;have h1:wV (aL (ah 1)) [some (.ref r),some (.bl false)] T=some (true,T):=by rwa[]
 have h2:ae (jx cR 2 (ah 0)) aB [some (.ref r),some (.bl false)] T=some ([.int p],T):=by rwa[t0]
 rw[NJ h1];unfold xv;rw[h2,Q3];dsimp only;rw[if_pos (by omega)]
def Bad(P:Fn)(X:FnR)(us:List U)(T:Sto)(r:Nat)(e:Nat):Prop:=∃T',P us T=none/\X us T=some ((e:Int),T')/\Kq (·=r) T T'
theorem A2(R:Rs cR n w ws r lw p m T)(hp:p<1000)(ha:Asc (wAt ws p))(hl:(wAt ws p).length<=1000000)(l0:0<=lo)(h1:hi<1001)(hb:∀x,lo<=x->x<=hi->wAt ws p≠dA x):Bad (jo cR) (sI cR) [.ref r,.tup [.int lo,.int hi]] T r p:=by
 have ew:=mC R;obtain⟨G,v,en,hv⟩:=wA ha hl T;have t0:=R.rd;have R1:=R.app G;have t1:=R1.rd;unfold eG at t0 t1;have xc:=Gh R1 hp;obtain⟨y,hy⟩:∃y,y=wAt ws p:=⟨_,rfl⟩;rw[<-hy]at ew en hv hb;obtain⟨Y,hY⟩:∃Y,Y=T++G:=⟨_,rfl⟩;have kY:Kq (·=r) T Y:=by rw[hY];exact .app G
 rw[<-hY]at en t1 xc;have s1:bj 2 (cCB iF (ae (bc cR (eA cR) (ah 0) aB) aB)) [some (.ref r),some (.tup [.int lo,.int hi]),none] T=some (.nx,[some (.ref r),some (.tup [.int lo,.int hi]),some v],Y):=by rwa[t0,ew,en]
 have hf:gI (cOp gE (ah 2) (cC .non)) (ji fLe fLe (cOp fIx (ah 1) (cC (.int 0))) (ah 2) (cOp fIx (ah 1) (cC (.int 1)))) [some (.ref r),some (.tup [.int lo,.int hi]),some v] Y=some (.bl false,Y):=by
  rcases hv with⟨x,rfl,e,x0⟩|⟨rfl,_⟩
  ·have hn:∀S',gE (.int x) .non S'=some (.bl true,S'):=fun _=>rfl;have k1:cOp fIx (ah 1) (cC (.int 0)) [some (.ref r),some (.tup [.int lo,.int hi]),some (.int x)] Y=some (.int lo,Y):=rfl;have k2:cOp fIx (ah 1) (cC (.int 1)) [some (.ref r),some (.tup [.int lo,.int hi]),some (.int x)] Y=some (.int hi,Y):=rfl;have k3:ah 2 [some (.ref r),some (.tup [.int lo,.int hi]),some (.int x)] Y=some (.int x,Y):=rfl;have hch:ji fLe fLe (cOp fIx (ah 1) (cC (.int 0))) (ah 2) (cOp fIx (ah 1) (cC (.int 1))) [some (.ref r),some (.tup [.int lo,.int hi]),some (.int x)] Y=some (.bl false,Y):=by
    by_cases a:lo<=x
    ·have d1:decide (lo<=x)=true:=decide_eq_true a;have d2:decide (x<=hi)=false:=decide_eq_false fun b=>hb x a b e;simp only[ji,k1,k2,k3,Q3,KJ,d1,d2]
    ·have d1:decide (lo<=x)=false:=decide_eq_false a;simp only[ji,k1,k2,k3,Q3,KJ,d1]
   rwa[hn,hch]
  ·have hn:∀S',gE .non .non S'=some (.bl false,S'):=fun _=>rfl;rwa[hn]
 have ha:ae (gI (cOp gE (ah 2) (cC .non)) (ji fLe fLe (cOp fIx (ah 1) (cC (.int 0))) (ah 2) (cOp fIx (ah 1) (cC (.int 1))))) aB [some (.ref r),some (.tup [.int lo,.int hi]),some v] Y=some ([.bl false],Y):=by
  rw[ke,hf];rfl
 refine⟨Y,?_,?_,kY⟩
 ·unfold jo;rw[uz];unfold cK;rw[bL s1,mv (si (lh rfl t1 ha pB))];rfl
 ·unfold sI;rw[jb];unfold bQ;rw[kL s1,kM rfl t1 ha];exact xc
end
section
variable{g:CG}{cb:CS}{xb:CR}{u:U}{us:List U}{ρ ρ1 ρ2:Rho}{S S1 S2:Sto}{t:CT}{k:Nat}
theorem MY(hg:g u ρ S=some (ρ1,S1))(hb:cb ρ1 S1=none):d7 (fun _=>True) g cb (u::us) ρ S=none:=by
 unfold d7;rw[if_pos trivial,hg,Q3,hb];rfl
theorem MX(hg:g u ρ S=some (ρ1,S1))(hb:cb ρ1 S1=none):oG g cb xb (u::us) ρ S=xb ρ1 S1:=by
 unfold oG;rw[hg,Q3];dsimp only;rw[hb]
theorem MW(hg:g u ρ S=some (ρ1,S1))(hb:cb ρ1 S1=some (.nx,ρ2,S2)):oG g cb xb (u::us) ρ S=oG g cb xb us ρ2 S2:=by
 rw[oG];dsimp only;rw[hg,Q3];dsimp only;rw[hb]
theorem HD(ht:t ρ S=some (true,S1))(hb:cb ρ S1=none):e8 t cb (k+1) ρ S=none:=by
 unfold e8;rw[ht,Q3,if_pos rfl];dsimp only;rw[hb];rfl
theorem Hu(ht:t ρ S=some (true,S1))(hb:cb ρ S1=none):iS t cb xb (k+1) ρ S=xb ρ S1:=by
 unfold iS;rw[ht,Q3,if_pos rfl];dsimp only;rw[hb]
theorem Mh(ht:t ρ S=some (true,S1))(hb:cb ρ S1=some (.nx,ρ2,S2)):iS t cb xb (k+1) ρ S=iS t cb xb k ρ2 S2:=by
 rw[iS];dsimp only;rw[ht,Q3,if_pos rfl];dsimp only;rw[hb]
theorem Gs{co:CE}{x:CR}{l:Nat}{ws:List U}(h1:co ρ S=some (.ref l,S1))(h2:S1[l]?=some (.lst ws)):DM co x ρ S=x ρ S1:=by
 unfold DM;rw[h1,Q3];simp only[h2]
theorem Kt{co e:CE}{l:Nat}{ws:List U}(h1:co ρ S=some (.ref l,S1))(h2:S1[l]?=some (.lst ws))(h3:e ρ S1=none):cBM bJ co (ae e aB) ρ S=none:=by
 rwa[h1,h2,h3,Option.bind_none]
end
section
variable{ws xs:List Str}{p:Nat}{x:Str}
def vR:Wa ws p []:=⟨ws.drop p,rfl⟩
theorem jl(h:ws[p]?=some x)(t:Wa ws (p+1) xs):Wa ws p (x::xs):=by
 obtain⟨r,e⟩:=t;obtain⟨hl,hx⟩:=Q6.mp h;exact⟨r,by rw[List.drop_eq_getElem_cons hl,hx,e];rfl⟩
theorem Dr{ys:List Str}(h:Wa ws p xs)(t:Wa ws (p+xs.length) ys):Wa ws p (xs++ys):=by
 induction xs generalizing p with
 |nil=>exact t
 |cons a xs ih=>exact jl h.head (ih h.tail (by rw[Q5]at t;rw[show p+1+xs.length=p+(xs.length+1)from by omega];exact t))
theorem kO(h:wAt ws p=x)(hx:x≠Str.ofString ""):ws[p]?=some x:=by
 cases e:ws[p]? with
 |some y=>rw[uU e]at h;rw[h]
 |none=>
  unfold wAt at h;rw[ZL,e]at h;exact absurd h.symm hx
theorem JG{x:Int}(h0:0<=x)(h1:x<1000):dA x≠Str.ofString "":=fun e=>by
 obtain⟨d1,d2,d3,d4⟩:=jc x.toNat (by omega);rw[<-hU h0,e]at d2;exact d2 (by decide +kernel)
end
section
variable{cR:Cl}{n w t m:Int}{ws:List Str}{r lw p L:Nat}{T T':Sto}{y:Str}
open Classical in
theorem rA:∀(bs:List (Int×Int)) (p:Nat),(∀b∈bs,0<=b.1/\b.2<1000)->(∃xs,In2 bs xs/\Wa ws p (xs.map dA))\/(∃bs1 b bs2 xs,bs=bs1++b::bs2/\In2 bs1 xs/\Wa ws p (xs.map dA)/\∀x,b.1<=x->x<=b.2->wAt ws (p+xs.length)≠dA x)
 |[],p,_=>.inl ⟨[],.nil,vR⟩
 |b::bs,p,hb=>by
  obtain⟨b0,b1⟩:=hb b QY;by_cases h:∃x,b.1<=x/\x<=b.2/\wAt ws p=dA x
  ·obtain⟨x,x1,x2,e⟩:=h;have g:=kO e (JG (by omega) (by omega));rcases rA bs (p+1) fun z hz=>hb z (QZ _ hz)with⟨xs,i,wa⟩|⟨bs1,b',bs2,xs,e2,i,wa,hn⟩
   ·exact .inl ⟨x::xs,.cons x1 x2 (by omega) (by omega) i,jl g wa⟩
   ·exact .inr ⟨b::bs1,b',bs2,x::xs,by rw[e2];rfl,.cons x1 x2 (by omega) (by omega) i,jl g wa,fun z z1 z2=>by rw[Q5,show p+(xs.length+1)=p+1+xs.length from by omega];exact hn z z1 z2⟩
  ·exact .inr ⟨[],b,bs,[],rfl,.nil,vR,fun x x1 x2 e=>h ⟨x,x1,x2,e⟩⟩
theorem zh:∀{bs:List (Int×Int)} {xs:List Int},In2 bs xs->xs.length=bs.length
 |_,_,.nil=>rfl
 |_,_,.cons _ _ _ _ t=>by rw[Q5,Q5,zh t]
abbrev rdX(cR:Cl):CR:=DM (ah 4) (gu cR (sI cR) (ah 0) (ae (ah 5) aB))
theorem yI{ft:Fn}{r1 r2 r3:Option U}{b:Int×Int}{bs2:List (Int×Int)}(hL:L≠r)(hl:L≠lw)(b0:0<=b.1)(b1:b.2<1000):∀(bs1:List (Int×Int)) (xs:List Int) (us:List U) (p:Nat) (T:Sto) (r5:Option U),In2 bs1 xs->Wa ws p (xs.map dA)->Rs cR n w ws r lw p m T->T[L]?=some (.lst us)->us.length+xs.length<=1000->
  p+xs.length<1000->Asc (wAt ws (p+xs.length))->(wAt ws (p+xs.length)).length<=1000000->(∀x,b.1<=x->x<=b.2->wAt ws (p+xs.length)≠dA x)->
  ∃T',d7 (fun _=>True) (gNm 5) (rdB cR ft) ((bs1++b::bs2).map bU) [some (.ref r),r1,r2,r3,some (.ref L),r5] T=none/\oG (gNm 5) (rdB cR ft) (rdX cR) ((bs1++b::bs2).map bU) [some (.ref r),r1,r2,r3,some (.ref L),r5] T=some (((p+xs.length:Nat):Int),T')/\Kq (fun j=>j=r\/j=L) T T'
 |_,_,us,p,T,r5,.nil,_,R,hT,_,hp,ha,hlen,hn=>by
  obtain⟨T1,e1,e2,k1⟩:=A2 R hp ha hlen b0 (by omega) hn;have e1':jo cR [.ref r,bU b] T=none:=e1;have e2':sI cR [.ref r,bU b] T=some ((p:Int),T1):=e2;have t0:=R.rd;unfold eG at t0;have hb:rdB cR ft [some (.ref r),r1,r2,r3,some (.ref L),some (bU b)] T=none:=by
   unfold rdB bq;exact si (Kt rfl hT (lh (us:=[bU b]) rfl t0 rfl e1'))
  refine⟨T1,MY rfl hb,(MX rfl hb).trans ?_,k1.imp fun j _ e=>.inl e⟩;exact(Gs (co:=ah 4) (l:=L) rfl hT).trans ((kM (us:=[bU b]) rfl t0 rfl).trans e2')
 |b'::bs,x::xs,us,p,T,r5,.cons h1 h2 h3 h4 ht,wa,R,hT,hu,hp,ha,hlen,hn=>by
  rw[Q5]at hu hp ha hlen hn;rw[show p+(xs.length+1)=p+1+xs.length from by omega]at hp ha hlen hn;obtain⟨T1,e1,R1,k1⟩:=yj R wa.head h3 h4 h1 h2;have g1:T1[L]?=some (.lst us):=k1.get hT hL;have t0:=R.rd;unfold eG at t0;have hlim:us.length<LIM:=by unfold LIM;omega
  have R2:Rs cR n w ws r lw (p+1) m (T1.set L (.lst (us++[.int x]))):=⟨by rw[QM hL];exact R1.rd,by rw[QM hl];exact R1.wd,R1.ne⟩;obtain⟨T',i1,i2,k'⟩:=yI (ft:=ft) (r1:=r1) (r2:=r2) (r3:=r3) (b:=b) (bs2:=bs2) hL hl b0 b1 bs xs (us++[.int x]) (p+1) (T1.set L (.lst (us++[.int x]))) (some (bU b')) ht wa.tail R2 (by rw[ZG,if_pos rfl,if_pos (Q6.mp g1).1]) (by simp;omega) hp ha hlen hn;have e1':jo cR [.ref r,bU b'] T=some (.int x,T1):=e1;have hb:rdB cR ft [some (.ref r),r1,r2,r3,some (.ref L),some (bU b')] T=some (.nx,[some (.ref r),r1,r2,r3,some (.ref L),some (bU b')],T1.set L (.lst (us++[.int x]))):=by
   obtain⟨bu,hbu⟩:∃bu,bu=bU b':=⟨_,rfl⟩;rw[<-hbu]at e1' ⊢;unfold rdB bq;rwa[hT,t0,e1',g1,eZ hlim]
  refine⟨T',(bM trivial rfl hb).trans i1,?_,((k1.imp fun j _ e=>.inl e).trans (.set (.inr rfl))).trans k'⟩;rw[Q5,show p+(xs.length+1)=p+1+xs.length from by omega];exact(MW rfl hb).trans i2
def isW(y:Str):Prop:=y=Str.ofString "look"\/y=Str.ofString "put"\/y=Str.ofString "set"\/y=Str.ofString "plus"\/y=Str.ofString "leap"\/y=Str.ofString "wait"
theorem zX(h:¬isW y)(S:Sto):fD [.tup [.int n,.int w],.str y] S=some (.non,S):=by
 unfold isW at h;have d1:decide (y=(Str.ofString "look"))=false:=decide_eq_false fun z=>h (.inl z);have d2:decide (y=(Str.ofString "put"))=false:=decide_eq_false fun z=>h (.inr (.inl z));have d3:decide (y=(Str.ofString "set"))=false:=decide_eq_false fun z=>h (.inr (.inr (.inl z)));have d4:decide (y=(Str.ofString "plus"))=false:=decide_eq_false fun z=>h (.inr (.inr (.inr (.inl z))));have d5:decide (y=(Str.ofString "leap"))=false:=decide_eq_false fun z=>h (.inr (.inr (.inr (.inr (.inl z)))));have d6:decide (y=(Str.ofString "wait"))=false:=decide_eq_false fun z=>h (.inr (.inr (.inr (.inr (.inr z)))));unfold fD;rw[uz];rwa[bz,d1,d2,d3,d4,d5,d6]
theorem vM(n1:n<=6)(w1:w<=1000)(d:fH):∀b∈d.bs n w,0<=b.1/\b.2<1000:=by
 cases d<;>simp only[fH.bs,Qz,Qo,or_false,forall_eq_or_imp,forall_eq,false_implies,implies_true]<;>refine⟨⟨?_,?_⟩,?_,?_⟩<;>omega
abbrev XD(cR:Cl)(fr:Fn)(xr:FnR):FnR:=jj cR (bH cR fr) (gJ cR fr xr)
abbrev PD(cR:Cl)(fr:Fn):Fn:=dJ cR (bH cR fr)
variable{fr:Fn}{xr:FnR}
theorem zE(R:Rs cR n w ws r lw p m T)(hp:p<1000)(nt:wAt ws p≠Str.ofString "try")(h:¬isW (wAt ws p)):Bad (PD cR fr) (XD cR fr xr) [.ref r,.int t] T r p:=by
 have ew:=mC R;have eb:=zX (n:=n) (w:=w) h T;have xc:=Gh R hp;have t0:=R.rd;unfold eG at t0;have d1:decide (wAt ws p=(Str.ofString "try"))=false:=decide_eq_false nt;obtain⟨y,hy⟩:∃y,y=wAt ws p:=⟨_,rfl⟩;rw[<-hy]at ew eb d1;have s1:bj 2 (bc cR (eA cR) (ah 0) aB) [some (.ref r),some (.int t),none,none,none,none] T=some (.nx,[some (.ref r),some (.int t),some (.str y),none,none,none],T):=by rwa[t0,ew]
 have s2:cE (aL (cOp fEq (ah 2) (cC (.str "try")))) (cm (bc cR (bH cR fr) (ah 0) (ae (ah 1) aB))) bb [some (.ref r),some (.int t),some (.str y),none,none,none] T=some (.nx,[some (.ref r),some (.int t),some (.str y),none,none,none],T):=by rwa[d1]
 have s3:bj 3 (cCB fD (ae (jx cR 0 (ah 0)) (ae (ah 2) aB))) [some (.ref r),some (.int t),some (.str y),none,none,none] T=some (.nx,[some (.ref r),some (.int t),some (.str y),some .non,none,none],T):=by rwa[t0,eb]
 have hn:∀S',gE .non .non S'=some (.bl false,S'):=fun _=>rfl;have ha:ae (cOp gE (ah 3) (cC .non)) aB [some (.ref r),some (.int t),some (.str y),some .non,none,none] T=some ([.bl false],T):=by rwa[hn]
 have s4:bp (bc cR bO (ah 0) (ae (cOp gE (ah 3) (cC .non)) aB)) [some (.ref r),some (.int t),some (.str y),some .non,none,none] T=none:=si (lh rfl t0 ha pB);refine⟨T,?_,?_,.refl⟩
 ·unfold PD dJ;rw[zA];unfold bF;rw[bL s1,bL s2,bL s3,mv s4];rfl
 ·unfold XD jj;rw[eF];unfold bw;rw[kL s1,pE s2,kL s3,sS s4,kM rfl t0 ha];exact xc
theorem zD(R:Rs cR n w ws r lw p m T)(n1:n<=6)(w1:w<=1000){d:fH}(hy:ws[p]?=some d.w){bs1 bs2:List (Int×Int)}{b:Int×Int}{xs:List Int}(e:d.bs n w=bs1++b::bs2)(i:In2 bs1 xs)(wa:Wa ws (p+1) (xs.map dA))(hp:p+1+xs.length<1000)(hA:Asc (wAt ws (p+1+xs.length)))(hl:(wAt ws (p+1+xs.length)).length<=1000000)(hn:∀x,b.1<=x->x<=b.2->wAt ws (p+1+xs.length)≠dA x) :
  Bad (PD cR fr) (XD cR fr xr) [.ref r,.int t] T r (p+1+xs.length):=by
 have t0:=R.rd;have ew:=gw R hy;have eb:=sD (n:=n) (w:=w) d T;have eg:=ie R;have nt:=kf d;have R1:=R.go (p+1) m;obtain⟨T1,hT1⟩:∃T1,T1=T.set r (eG cR n w lw (p+1) m):=⟨_,rfl⟩;rw[<-hT1]at eg R1;have l1:T1.length=T.length:=by rw[hT1,List.length_set]
 have hr:r<T.length:=(Q6.mp R.rd).1;have hlw:lw<T.length:=(Q6.mp R.wd).1;have R2:=R1.app [.lst [.str d.w]];have hbs:=vM n1 w1 d;have hb:=hbs b (by rw[e];simp);have hxs:xs.length<=2:=by
  have h1:=zh i;have h2:(d.bs n w).length<=2:=by cases d<;>simp[fH.bs]
  rw[e,QJ]at h2;omega
 obtain⟨T3,e3,x3,k3⟩:=yI (ft:=bH cR fr) (r1:=some (.int t)) (r2:=some (.str d.w)) (r3:=some (.tup ((d.bs n w).map bU))) (b:=b) (bs2:=bs2) (L:=T1.length) (by omega) (by omega) hb.1 hb.2 bs1 xs [.str d.w] (p+1) (T1++[.lst [.str d.w]]) none i wa R2 (by rw[ga0];rfl) (by simp;omega) hp hA hl hn;rw[<-e]at e3 x3;have k1:Kq (·=r) T T1:=by rw[hT1];exact .set rfl
 have hn:∀S',gE (.tup ((d.bs n w).map bU)) .non S'=some (.bl true,S'):=fun _=>rfl;have hfor:gO (iTp (ah 3)) (gNm 5) (rdB cR (bH cR fr)) [some (.ref r),some (.int t),some (.str d.w),some (.tup ((d.bs n w).map bU)),some (.ref T1.length),none] (T1++[.lst [.str d.w]])=none:=e3;have hforX:Cc (iTp (ah 3)) (gNm 5) (rdB cR (bH cR fr)) (rdX cR) [some (.ref r),some (.int t),some (.str d.w),some (.tup ((d.bs n w).map bU)),some (.ref T1.length),none] (T1++[.lst [.str d.w]])=some (((p+1+xs.length:Nat):Int),T3):=by
  refine Eq.trans ?_ x3;unfold Cc iTp;rw[show ah 3 [some (.ref r),some (.int t),some (.str d.w),some (.tup ((d.bs n w).map bU)),some (.ref T1.length),none] (T1++[O.lst [.str d.w]])=some (.tup ((d.bs n w).map bU),T1++[.lst [.str d.w]])from rfl,Q3];simp only[Q3];rw[if_pos fun _=>trivial]
 obtain⟨bs,hbs⟩:∃bs,bs=U.tup ((d.bs n w).map bU):=⟨_,rfl⟩;rw[<-hbs]at eb hn hfor hforX;obtain⟨y,hy2⟩:∃y,y=d.w:=⟨_,rfl⟩;rw[<-hy2]at ew eb nt hfor hforX;unfold eG at t0;have s1:bj 2 (bc cR (eA cR) (ah 0) aB) [some (.ref r),some (.int t),none,none,none,none] T=some (.nx,[some (.ref r),some (.int t),some (.str y),none,none,none],T):=by rwa[t0,ew]
 have s2:cE (aL (cOp fEq (ah 2) (cC (.str "try")))) (cm (bc cR (bH cR fr) (ah 0) (ae (ah 1) aB))) bb [some (.ref r),some (.int t),some (.str y),none,none,none] T=some (.nx,[some (.ref r),some (.int t),some (.str y),none,none,none],T):=by rwa[nt]
 have s3:bj 3 (cCB fD (ae (jx cR 0 (ah 0)) (ae (ah 2) aB))) [some (.ref r),some (.int t),some (.str y),none,none,none] T=some (.nx,[some (.ref r),some (.int t),some (.str y),some bs,none,none],T):=by rwa[t0,eb]
 have s4:bp (bc cR bO (ah 0) (ae (cOp gE (ah 3) (cC .non)) aB)) [some (.ref r),some (.int t),some (.str y),some bs,none,none] T=some (.nx,[some (.ref r),some (.int t),some (.str y),some bs,none,none],T):=by rwa[t0,hn,fK]
 have s5:bp (bc cR (fG cR) (ah 0) aB) [some (.ref r),some (.int t),some (.str y),some bs,none,none] T=some (.nx,[some (.ref r),some (.int t),some (.str y),some bs,none,none],T1):=by rwa[t0,eg]
 have s6:bj 4 (b7 (ae (ah 2) aB)) [some (.ref r),some (.int t),some (.str y),some bs,none,none] T1=some (.nx,[some (.ref r),some (.int t),some (.str y),some bs,some (.ref T1.length),none],T1++[.lst [.str y]]):=by rwa[]
 refine⟨T3,?_,?_,k1.trans ⟨Qk (by simp) k3.len,fun j hj hn=>by rw[k3.keep j (by simp;omega) (fun z=>z.elim hn (by omega)),Qx hj]⟩⟩
 ·unfold PD dJ;rw[zA];unfold bF;rw[bL s1,bL s2,bL s3,bL s4,bL s5,bL s6,mv (c:=gO (iTp (ah 3)) (gNm 5) (bq fD (eA cR) (bH cR fr) bO (fG cR) (jo cR) cR)) hfor];rfl
 ·unfold XD jj;rw[eF];unfold bw;rw[kL s1,pE s2,kL s3,pE s4,kL s5,kL s6];exact hforX
end
section
variable{cR:Cl}{n w t m:Int}{ws:List Str}{r lw p L e:Nat}{T T1 T2 T':Sto}{fr:Fn}{xr:FnR}{ua:U}
abbrev XT(cR:Cl)(fr:Fn)(xr:FnR):FnR:=gJ cR fr xr
theorem AO(R:Rs cR n w ws r lw p m T)(hp:p<1000)(ht:t<=0):Bad (bH cR fr) (XT cR fr xr) [.ref r,.int t] T r p:=by
 have xc:=Gh R hp;have t0:=R.rd;unfold eG at t0;have dt:decide (t>0)=false:=decide_eq_false (by omega);have ha:ae (cOp fGt (ah 1) (cC (.int 0))) aB [some (.ref r),some (.int t),none,none] T=some ([.bl false],T):=by rwa[dt]
 have s1:bp (bc cR bO (ah 0) (ae (cOp fGt (ah 1) (cC (.int 0))) aB)) [some (.ref r),some (.int t),none,none] T=none:=si (lh rfl t0 ha pB);refine⟨T,?_,?_,.refl⟩
 ·unfold bH;rw[BZ];unfold cf;rw[mv s1];rfl
 ·unfold XT gJ;rw[eV];unfold bD;rw[sS s1,kM rfl t0 ha];exact xc
theorem AN(R:Rs cR n w ws r lw p m T)(ht:0<t)(h:Bad fr xr [.ref r,.int (t-1)] (T.set r (eG cR n w lw (p+1) m)) r e):Bad (bH cR fr) (XT cR fr xr) [.ref r,.int t] T r e:=by
 have t0:=R.rd;have eg:=ie R;have R1:=R.go (p+1) m;obtain⟨T1,hT1⟩:∃T1,T1=T.set r (eG cR n w lw (p+1) m):=⟨_,rfl⟩;rw[<-hT1]at eg R1 h;have k1:Kq (·=r) T T1:=by rw[hT1];exact .set rfl
 obtain⟨T',h1,h2,k2⟩:=h;have t1:=R1.rd;unfold eG at t0 t1;have dt:decide (t>0)=true:=decide_eq_true (by omega);have s1:bp (bc cR bO (ah 0) (ae (cOp fGt (ah 1) (cC (.int 0))) aB)) [some (.ref r),some (.int t),none,none] T=some (.nx,[some (.ref r),some (.int t),none,none],T):=by rwa[t0,dt,fK]
 have s2:bp (bc cR (fG cR) (ah 0) aB) [some (.ref r),some (.int t),none,none] T=some (.nx,[some (.ref r),some (.int t),none,none],T1):=by rwa[t0,eg]
 have ha:ae (cOp gM (ah 1) (cC (.int 1))) aB [some (.ref r),some (.int t),none,none] T1=some ([.int (t-1)],T1):=by rwa[]
 have s3:bj 2 (bc cR fr (ah 0) (ae (cOp gM (ah 1) (cC (.int 1))) aB)) [some (.ref r),some (.int t),none,none] T1=none:=AS (lh rfl t1 ha h1);refine⟨T',?_,?_,k1.trans k2⟩
 ·unfold bH;rw[BZ];unfold cf;rw[bL s1,bL s2,mv s3];rfl
 ·unfold XT gJ;rw[eV];unfold bD;rw[pE s1,kL s2,sS s3,kM rfl t1 ha];exact h2
theorem AM{m2:Int}{p2:Nat}(R:Rs cR n w ws r lw p m T)(ht:0<t)(ha1:fr [.ref r,.int (t-1)] (T.set r (eG cR n w lw (p+1) m))=some (ua,T2))(R2:Rs cR n w ws r lw p2 m2 T2)(k2:Kq (·=r) (T.set r (eG cR n w lw (p+1) m)) T2)(h:Bad fr xr [.ref r,.int (t-1)] T2 r e):Bad (bH cR fr) (XT cR fr xr) [.ref r,.int t] T r e:=by
 have t0:=R.rd;have eg:=ie R;have R1:=R.go (p+1) m;obtain⟨T1,hT1⟩:∃T1,T1=T.set r (eG cR n w lw (p+1) m):=⟨_,rfl⟩;rw[<-hT1]at eg R1 ha1 k2;have k1:Kq (·=r) T T1:=by rw[hT1];exact .set rfl
 obtain⟨T',h1,h2,k3⟩:=h;have t1:=R1.rd;have t2:=R2.rd;unfold eG at t0 t1 t2;have dt:decide (t>0)=true:=decide_eq_true (by omega);have s1:bp (bc cR bO (ah 0) (ae (cOp fGt (ah 1) (cC (.int 0))) aB)) [some (.ref r),some (.int t),none,none] T=some (.nx,[some (.ref r),some (.int t),none,none],T):=by rwa[t0,dt,fK]
 have s2:bp (bc cR (fG cR) (ah 0) aB) [some (.ref r),some (.int t),none,none] T=some (.nx,[some (.ref r),some (.int t),none,none],T1):=by rwa[t0,eg]
 have s3:bj 2 (bc cR fr (ah 0) (ae (cOp gM (ah 1) (cC (.int 1))) aB)) [some (.ref r),some (.int t),none,none] T1=some (.nx,[some (.ref r),some (.int t),some ua,none],T2):=by rwa[t1,ha1]
 have ha:ae (cOp gM (ah 1) (cC (.int 1))) aB [some (.ref r),some (.int t),some ua,none] T2=some ([.int (t-1)],T2):=by rwa[]
 have s4:bj 3 (bc cR fr (ah 0) (ae (cOp gM (ah 1) (cC (.int 1))) aB)) [some (.ref r),some (.int t),some ua,none] T2=none:=AS (lh rfl t2 ha h1);refine⟨T',?_,?_,(k1.trans k2).trans k3⟩
 ·unfold bH;rw[BZ];unfold cf;rw[bL s1,bL s2,bL s3,mv s4];rfl
 ·unfold XT gJ;rw[eV];unfold bD;rw[pE s1,kL s2,pE s3,kM rfl t2 ha];exact h2
theorem n6(R:Rs cR n w ws r lw p m T)(hy:ws[p]?=some (Str.ofString "try"))(h:Bad (bH cR fr) (XT cR fr xr) [.ref r,.int t] T r e):Bad (PD cR fr) (XD cR fr xr) [.ref r,.int t] T r e:=by
 have ew:=gw R hy;have t0:=R.rd;unfold eG at t0;have d1:=HK;obtain⟨T',h1,h2,k⟩:=h;obtain⟨y,hy⟩:∃y,y=Str.ofString "try":=⟨_,rfl⟩;have d2:decide (y=(Str.ofString "try"))=true:=decide_eq_true hy;rw[<-hy]at ew;have s1:bj 2 (bc cR (eA cR) (ah 0) aB) [some (.ref r),some (.int t),none,none,none,none] T=some (.nx,[some (.ref r),some (.int t),some (.str y),none,none,none],T):=by rwa[t0,ew]
 have c1:aL (cOp fEq (ah 2) (cC (.str "try"))) [some (.ref r),some (.int t),some (.str y),none,none,none] T=some (true,T):=by rwa[d2]
 have ha:ae (ah 1) aB [some (.ref r),some (.int t),some (.str y),none,none,none] T=some ([.int t],T):=rfl;have c2:cm (bc cR (bH cR fr) (ah 0) (ae (ah 1) aB)) [some (.ref r),some (.int t),some (.str y),none,none,none] T=none:=by
  have:=lh (ρ:=[some (.ref r),some (.int t),some (.str y),none,none,none]) (ca:=ah 0) (f:=bH cR fr) rfl t0 ha h1;unfold cm;rw[this];rfl
 have s2:cE (aL (cOp fEq (ah 2) (cC (.str "try")))) (cm (bc cR (bH cR fr) (ah 0) (ae (ah 1) aB))) bb [some (.ref r),some (.int t),some (.str y),none,none,none] T=none:=by
  unfold cE;rw[c1,Q3,if_pos rfl];exact c2
 refine⟨T',?_,?_,k⟩
 ·unfold PD dJ;rw[zA];unfold bF;rw[bL s1,mv s2];rfl
 ·unfold XD jj;rw[eF];unfold bw;rw[kL s1,sS s2,NJ c1,kM rfl t0 ha];exact h2
abbrev PRn(cR:Cl)(fr:Fn):Fn:=oj cR (PD cR fr)
abbrev XRn(cR:Cl)(fr:Fn)(xr:FnR):FnR:=Af cR (PD cR fr) (XD cR fr xr)
abbrev rrX(cR:Cl)(xd:FnR):CR:=uO (bp (bc cR bO (ah 0) (ae (gI (cOp fLt (cCB gN (ae (ah 2) aB)) (cC (.int 12))) (cOp fLt (jx cR 3 (ah 0)) (cC (.int 40)))) aB))) (gu cR (jk cR) (ah 0) (ae (gI (cOp fLt (cCB gN (ae (ah 2) aB)) (cC (.int 12))) (cOp fLt (jx cR 3 (ah 0)) (cC (.int 40)))) aB))
  (uP (lB cR 3 (ah 0) (cOp bI (jx cR 3 (ah 0)) (cC (.int 1))))
  (DM (ah 2) (gu cR xd (ah 0) (ae (ah 1) aB))))
theorem AZ(R:Rs cR n w ws r lw p m T)(hp:p<1000)(h:wAt ws p≠Str.ofString "("):Bad (PRn cR fr) (XRn cR fr xr) [.ref r,.int t] T r p:=by
 have ew:=mC R;have xc:=Gh R hp;have t0:=R.rd;unfold eG at t0;have d1:decide (wAt ws p=(Str.ofString "("))=false:=decide_eq_false h;obtain⟨y,hy⟩:∃y,y=wAt ws p:=⟨_,rfl⟩;rw[<-hy]at ew d1;have ha:ae (cOp fEq (bc cR (eA cR) (ah 0) aB) (cC (.str "("))) aB [some (.ref r),some (.int t),none] T=some ([.bl false],T):=by rwa[t0,ew,d1]
 have s1:bp (bc cR bO (ah 0) (ae (cOp fEq (bc cR (eA cR) (ah 0) aB) (cC (.str "("))) aB)) [some (.ref r),some (.int t),none] T=none:=si (lh rfl t0 ha pB);refine⟨T,?_,?_,.refl⟩
 ·unfold PRn oj;rw[uz];unfold cM;rw[mv s1];rfl
 ·unfold XRn Af;rw[gj];unfold bW;rw[sS s1,kM rfl t0 ha];exact xc
def Gq(cR:Cl)(n w:Int)(ws:List Str)(r lw:Nat)(fr:Fn)(xr:FnR)(t:Int)(u p:Nat)(m:Int)(e:Nat):Prop:=∀(L:Nat) (us:List U) (T:Sto) (fu:Nat),L≠r->L≠lw->us.length=u->u<=12->13<=fu+u->Rs cR n w ws r lw p m T->T[L]?=some (.lst us)->
 ∃T',e8 (rrT cR) (rrB cR (PD cR fr)) fu [some (.ref r),some (.int t),some (.ref L)] T=none/\iS (rrT cR) (rrB cR (PD cR fr)) (rrX cR (XD cR fr xr)) fu [some (.ref r),some (.int t),some (.ref L)] T=some ((e:Int),T')/\Kq (fun j=>j=r\/j=L) T T'
theorem xS(R:Rs cR n w ws r lw p m T)(h:wAt ws p≠Str.ofString ")"):rrT cR [some (.ref r),some (.int t),some (.ref L)] T=some (true,T):=by
 have ew:=mC R;have t0:=R.rd;unfold eG at t0;have ny:decide (wAt ws p=(Str.ofString ")"))=false:=decide_eq_false h;obtain⟨y,hy⟩:∃y,y=wAt ws p:=⟨_,rfl⟩;rw[<-hy]at ew ny;rwa[rrT,t0,ew,ny]
theorem rQ{u:Nat}(hp:p<1000)(h:wAt ws p≠Str.ofString ")") (hf:12<=u\/40<=m):Gq cR n w ws r lw fr xr t u p m p:=fun L us T fu hL hl hu hu2 hfu R hT=>by
 obtain⟨k,rfl⟩:∃k,fu=k+1:=⟨fu-1,by omega⟩;have tt:=xS (t:=t) (L:=L) R h;have xc:=Gh R hp;have t0:=R.rd;unfold eG at t0;have hk:gI (cOp fLt (cCB gN (ae (ah 2) aB)) (cC (.int 12))) (cOp fLt (jx cR 3 (ah 0)) (cC (.int 40))) [some (.ref r),some (.int t),some (.ref L)] T=some (.bl false,T):=by
  by_cases a:u<12
  ·have d1:decide ((us.length:Int)<12)=true:=decide_eq_true (by omega);have d2:decide (m<40)=false:=decide_eq_false (by omega);rwa[t0,hT,d1,d2]
  ·have d1:decide ((us.length:Int)<12)=false:=decide_eq_false (by omega);rwa[t0,hT,d1]
 have ha:ae (gI (cOp fLt (cCB gN (ae (ah 2) aB)) (cC (.int 12))) (cOp fLt (jx cR 3 (ah 0)) (cC (.int 40)))) aB [some (.ref r),some (.int t),some (.ref L)] T=some ([.bl false],T):=by rw[ke,hk];rfl
 have s1:bp (bc cR bO (ah 0) (ae (gI (cOp fLt (cCB gN (ae (ah 2) aB)) (cC (.int 12))) (cOp fLt (jx cR 3 (ah 0)) (cC (.int 40)))) aB)) [some (.ref r),some (.int t),some (.ref L)] T=none:=si (lh rfl t0 ha pB);have hb:rrB cR (PD cR fr) [some (.ref r),some (.int t),some (.ref L)] T=none:=by
  unfold rrB bA;exact mv s1
 refine⟨T,HD tt hb,(Hu tt hb).trans ?_,.refl⟩;exact(sS s1).trans ((kM rfl t0 ha).trans xc)
theorem yS{u:Nat}(h:wAt ws p≠Str.ofString ")") (hu0:u<12) (hm:m<40) (hd:∀T,Rs cR n w ws r lw p (m+1) T->Bad (PD cR fr) (XD cR fr xr) [.ref r,.int t] T r e):Gq cR n w ws r lw fr xr t u p m e:=fun L us T fu hL hl hu hu2 hfu R hT=>by
 obtain⟨k,rfl⟩:∃k,fu=k+1:=⟨fu-1,by omega⟩;have tt:=xS (t:=t) (L:=L) R h;have R1:=R.go p (m+1);obtain⟨T1,hT1⟩:∃T1,T1=T.set r (eG cR n w lw p (m+1)):=⟨_,rfl⟩;rw[<-hT1]at R1;have k1:Kq (fun j=>j=r\/j=L) T T1:=by rw[hT1];exact .set (.inl rfl)
 have g1:T1[L]?=some (.lst us):=by rw[hT1,QM (Ne.symm hL)];exact hT
 obtain⟨T',h1,h2,k2⟩:=hd T1 R1;have t0:=R.rd;have t1:=R1.rd;have d1:decide ((us.length:Int)<12)=true:=decide_eq_true (by omega);have d2:decide (m<40)=true:=decide_eq_true (by omega);have s2:lB cR 3 (ah 0) (cOp bI (jx cR 3 (ah 0)) (cC (.int 1))) [some (.ref r),some (.int t),some (.ref L)] T=some (.nx,[some (.ref r),some (.int t),some (.ref L)],T1):=by
  rw[hT1];unfold eG at t0 ⊢;rwa[t0]
 unfold eG at t0 t1;have s1:bp (bc cR bO (ah 0) (ae (gI (cOp fLt (cCB gN (ae (ah 2) aB)) (cC (.int 12))) (cOp fLt (jx cR 3 (ah 0)) (cC (.int 40)))) aB)) [some (.ref r),some (.int t),some (.ref L)] T=some (.nx,[some (.ref r),some (.int t),some (.ref L)],T):=by rwa[t0,hT,d1,d2,fK]
 have ha:ae (ah 1) aB [some (.ref r),some (.int t),some (.ref L)] T1=some ([.int t],T1):=rfl;have hb:rrB cR (PD cR fr) [some (.ref r),some (.int t),some (.ref L)] T=none:=by
  unfold rrB bA;rw[bL s1,bL s2];exact si (Kt rfl g1 (lh rfl t1 ha h1))
 refine⟨T',HD tt hb,(Hu tt hb).trans ?_,k1.trans (k2.imp fun j _ e=>.inl e)⟩;refine(pE s1).trans ((kL s2).trans ?_);exact(Gs (co:=ah 2) (l:=L) rfl g1).trans ((kM rfl t1 ha).trans h2)
theorem yR{u p2:Nat}{m2:Int}{v:U}(h:wAt ws p≠Str.ofString ")") (hu0:u<12) (hm:m<40) (hd:∀T,Rs cR n w ws r lw p (m+1) T->∃T',PD cR fr [.ref r,.int t] T=some (v,T')/\Rs cR n w ws r lw p2 m2 T'/\Kq (·=r) T T') (ih:Gq cR n w ws r lw fr xr t (u+1) p2 m2 e):Gq cR n w ws r lw fr xr t u p m e:=fun L us T fu hL hl hu hu2 hfu R hT=>by
 obtain⟨k,rfl⟩:∃k,fu=k+1:=⟨fu-1,by omega⟩;have tt:=xS (t:=t) (L:=L) R h;have R1:=R.go p (m+1);obtain⟨T1,hT1⟩:∃T1,T1=T.set r (eG cR n w lw p (m+1)):=⟨_,rfl⟩;rw[<-hT1]at R1;have k1:Kq (fun j=>j=r\/j=L) T T1:=by rw[hT1];exact .set (.inl rfl)
 have g1:T1[L]?=some (.lst us):=by rw[hT1,QM (Ne.symm hL)];exact hT
 obtain⟨T2,e2,R2,k2⟩:=hd T1 R1;have g2:T2[L]?=some (.lst us):=k2.get g1 hL;have R3:Rs cR n w ws r lw p2 m2 (T2.set L (.lst (us++[v]))):=⟨by rw[QM hL];exact R2.rd,by rw[QM hl];exact R2.wd,R2.ne⟩;obtain⟨T',i1,i2,k3⟩:=ih L (us++[v]) (T2.set L (.lst (us++[v]))) k hL hl (by simp;omega) (by omega) (by omega) R3 (by rw[ZG,if_pos rfl,if_pos (Q6.mp g2).1]);have t0:=R.rd;have t1:=R1.rd;have hlim:us.length<LIM:=by unfold LIM;omega
 have d1:decide ((us.length:Int)<12)=true:=decide_eq_true (by omega);have d2:decide (m<40)=true:=decide_eq_true (by omega);have s2:lB cR 3 (ah 0) (cOp bI (jx cR 3 (ah 0)) (cC (.int 1))) [some (.ref r),some (.int t),some (.ref L)] T=some (.nx,[some (.ref r),some (.int t),some (.ref L)],T1):=by
  rw[hT1];unfold eG at t0 ⊢;rwa[t0]
 unfold eG at t0 t1;have hb:rrB cR (PD cR fr) [some (.ref r),some (.int t),some (.ref L)] T=some (.nx,[some (.ref r),some (.int t),some (.ref L)],T2.set L (.lst (us++[v]))):=by
  unfold rrB bA;rw[bL (ρ':=[some (.ref r),some (.int t),some (.ref L)]) (S':=T) (by rwa[t0,hT,d1,d2,fK])];rw[bL s2];rwa[g1,t1,e2,g2,eZ hlim]
 exact⟨T',(uT tt hb).trans i1,(Mh tt hb).trans i2,(k1.trans (k2.imp fun j _ e=>.inl e)).trans ((Kq.set (.inr rfl)).trans k3)⟩
theorem AY(R:Rs cR n w ws r lw p m T)(hy:ws[p]?=some (Str.ofString "(")) (h:Gq cR n w ws r lw fr xr t 0 (p+1) m e):Bad (PRn cR fr) (XRn cR fr xr) [.ref r,.int t] T r e:=by
 have t0:=R.rd;have ew:=gw R hy;have eg:=ie R;have R1:=R.go (p+1) m;obtain⟨T1,hT1⟩:∃T1,T1=T.set r (eG cR n w lw (p+1) m):=⟨_,rfl⟩;rw[<-hT1]at eg R1;have l1:T1.length=T.length:=by rw[hT1,List.length_set]
 have hr:r<T.length:=(Q6.mp R.rd).1;have hlw:lw<T.length:=(Q6.mp R.wd).1;have k1:Kq (·=r) T T1:=by rw[hT1];exact .set rfl
 obtain⟨T3,e3,x3,k3⟩:=h T1.length [] (T1++[.lst []]) 100 (by omega) (by omega) rfl (by omega) (by omega) (R1.app _) (by rw[ga0];rfl);have eo:=Jz;unfold eG at t0;have s1:bp (bc cR bO (ah 0) (ae (cOp fEq (bc cR (eA cR) (ah 0) aB) (cC (.str "("))) aB)) [some (.ref r),some (.int t),none] T=some (.nx,[some (.ref r),some (.int t),none],T):=by rwa[t0,ew,eo,fK]
 have s2:bp (bc cR (fG cR) (ah 0) aB) [some (.ref r),some (.int t),none] T=some (.nx,[some (.ref r),some (.int t),none],T1):=by rwa[t0,eg]
 have s3:bj 2 (b7 aB) [some (.ref r),some (.int t),none] T1=some (.nx,[some (.ref r),some (.int t),some (.ref T1.length)],T1++[.lst []]):=by rwa[]
 refine⟨T3,?_,?_,k1.trans ⟨Qk (by simp) k3.len,fun j hj hn=>by rw[k3.keep j (by simp;omega) (fun z=>z.elim hn (by omega)),Qx hj]⟩⟩
 ·unfold PRn oj;rw[uz];unfold cM;rw[bL s1,bL s2,bL s3,mv (c:=e8 (rrT cR) (rrB cR (PD cR fr)) 100) e3];rfl
 ·unfold XRn Af;rw[gj];unfold bW;rw[pE s1,kL s2,kL s3];exact x3
end
inductive Srt where
 |part|deed|hand|box|num|leap
 deriving DecidableEq
def Srt.s:Srt->Str
 |.part=>"part"
 |.deed=>"deed"
 |.hand=>"hand"
 |.box=>"box"
 |.num=>"number"
 |.leap=>"leap"
def Srt.b(n w:Int):Srt->Int×Int
 |.box=>(0,n-1)
 |.num=>(0,w-1)
 |.leap=>(1,12)
 |_=>(0,3)
structure Mc where
 due:List Srt
 many:List Int
 all:Int
def inc:List Int->List Int
 |[]=>[]
 |x::r=>(x+1)::r
def rj(y:Str):Option (List Srt):=if y=Str.ofString "look" then some [.hand,.box]else if y=Str.ofString "put" then some [.box,.hand]else if y=Str.ofString "set" then some [.hand,.num]else if y=Str.ofString "plus" then some [.hand,.hand]else if y=Str.ofString "leap" then some [.hand,.leap]else if y=Str.ofString "wait" then some []else none
open Classical in
def stp(n w:Int)(M:Mc)(y:Str):Option Mc:=match M.due with
 |[]=>none
 |.part::R=>if y=Str.ofString "(" then some ⟨.deed::R,0::M.many,M.all⟩else none
 |.deed::R=>if y=Str.ofString ")" then some ⟨R,M.many.tail,M.all⟩else if M.many.headD 0=12\/M.all=40 then none else if y=Str.ofString "try" then(if M.many.length<4 then some ⟨.part::.part::.deed::R,inc M.many,M.all+1⟩else none)
  else(rj y).map fun ps=>⟨ps++.deed::R,inc M.many,M.all+1⟩
 |s::R=>if ∃x,(s.b n w).1<=x/\x<=(s.b n w).2/\y=dA x then some ⟨R,M.many,M.all⟩else none
def e7(n w:Int):Mc->Nat->List Str->Option Nat
 |M,p,[]=>if M.due=[]then none else some p
 |M,p,y::ys=>match stp n w M y with
  |some M'=>e7 n w M' (p+1) ys
  |none=>some p
def sL:Fn:=fnU 4 3 iC
section
variable{y:Str}{S:Sto}{lo hi:Int}
theorem rP{r1 r2:Option U}:∀(xs:List Int) (r3:Option U),(∀x∈xs,0<=x/\x<1000)->(y∈xs.map dA/\∃r3',d7 (fun _=>True) (gNm 3) bV (xs.map U.int) [some (.str y),r1,r2,r3] S=some (.rt (.bl true),[some (.str y),r1,r2,r3'],S))\/(y∉xs.map dA/\∃r3',d7 (fun _=>True) (gNm 3) bV (xs.map U.int) [some (.str y),r1,r2,r3] S=some (.nx,[some (.str y),r1,r2,r3'],S))
 |[],r3,_=>.inr ⟨by simp,r3,eD trivial⟩
 |x::xs,r3,hx=>by
  have e1:∀S',mj [.int x] S'=some (.str (dA x),S'):=tK (hx x QY);by_cases h:y=dA x
  ·have d:decide (y=dA x)=true:=decide_eq_true h;refine .inl ⟨by rw[h];simp,some (.int x),yP trivial rfl ?_⟩;rwa[bV,e1,d]
  ·have d:decide (y=dA x)=false:=decide_eq_false h;have hb:bV [some (.str y),r1,r2,some (.int x)] S=some (.nx,[some (.str y),r1,r2,some (.int x)],S):=by rwa[bV,e1,d]
   rcases rP xs (some (.int x)) fun z hz=>hx z (QZ _ hz)with⟨m,r3',e⟩|⟨m,r3',e⟩
   ·exact .inl ⟨by rw[QF];exact QZ _ m,r3',(bM trivial rfl hb).trans e⟩
   ·exact .inr ⟨by rw[QF];exact fun z=>(Qz.mp z).elim h m,r3',(bM trivial rfl hb).trans e⟩
open Classical in
theorem FE(h0:0<=lo)(h1:hi<1000)(h2:lo<=hi+1):sL [.str y,.int lo,.int hi] S=some (.bl (decide (∃x,lo<=x/\x<=hi/\y=dA x)),S):=by
 obtain⟨xs,hxs⟩:∃xs,xs=(List.range (hi+1-lo).toNat).map fun i:Nat=>lo+(i:Int):=⟨_,rfl⟩;have er:fV lo (hi+1-lo).toNat=xs.map U.int:=by rw[hxs,List.map_map];rfl
 have mem:∀x,x∈xs↔lo<=x/\x<=hi:=fun x=>by
  rw[hxs,List.mem_map];constructor
  ·rintro⟨i,hi',rfl⟩;rw[List.mem_range]at hi';omega
  ·rintro⟨a,b⟩;exact⟨(x-lo).toNat,by rw[List.mem_range];omega,by omega⟩
 have it:h9 (ae (ah 1) (ae (cOp bI (ah 2) (cC (.int 1))) aB)) [some (.str y),some (.int lo),some (.int hi),none] S=some (fV lo (hi+1-lo).toNat,fun _=>True,S):=by
  have ha:ae (ah 1) (ae (cOp bI (ah 2) (cC (.int 1))) aB) [some (.str y),some (.int lo),some (.int hi),none] S=some ([.int lo,.int (hi+1)],S):=by rwa[]
  unfold h9;rw[ha,Q3];dsimp only;rw[if_pos ⟨⟨by omega,by omega⟩,by omega,by omega⟩]
 unfold sL;rw[Nt];unfold iC;rcases rP (y:=y) (S:=S) (r1:=some (.int lo)) (r2:=some (.int hi)) xs none fun x hx=>by have:=(mem x).mp hx;omega with⟨m,r3',e⟩|⟨m,r3',e⟩
 ·have hf:gO (h9 (ae (ah 1) (ae (cOp bI (ah 2) (cC (.int 1))) aB))) (gNm 3) bV [some (.str y),some (.int lo),some (.int hi),none] S=some (.rt (.bl true),[some (.str y),some (.int lo),some (.int hi),r3'],S):=by
   unfold gO;rw[it,er];exact e
  obtain⟨x,hx,rfl⟩:=List.mem_map.mp m;rw[decide_eq_true (p:=∃z,lo<=z/\z<=hi/\dA x=dA z) ⟨x,((mem x).mp hx).1,((mem x).mp hx).2,rfl⟩];unfold aT;rw[hf];rfl
 ·have hf:gO (h9 (ae (ah 1) (ae (cOp bI (ah 2) (cC (.int 1))) aB))) (gNm 3) bV [some (.str y),some (.int lo),some (.int hi),none] S=some (.nx,[some (.str y),some (.int lo),some (.int hi),r3'],S):=by
   unfold gO;rw[it,er];exact e
  rw[decide_eq_false (p:=∃z,lo<=z/\z<=hi/\y=dA z) fun⟨x,a,b,e⟩=>m (by rw[e];exact List.mem_map_of_mem ((mem x).mpr ⟨a,b⟩))];rw[bL hf];rfl
end
def sU(R:List Srt):List U:=(R.map fun s=>U.str s.s).reverse
def mU(R:List Int):List U:=(R.map U.int).reverse
def k7(s:Srt)(R:List Srt):sU (s::R)=sU R++[.str s.s]:=by unfold sU;simp
def jV(x:Int)(R:List Int):mU (x::R)=mU R++[.int x]:=by unfold mU;simp
def vc(R:List Srt):(sU R).length=R.length:=by unfold sU;simp
def C6(R:List Int):(mU R).length=R.length:=by unfold mU;simp
abbrev yK(a b:Nat)(k:Int):O:=.dic [(Sum.inr (Str.ofString "due"),.ref a),(Sum.inr (Str.ofString "many"),.ref b),(Sum.inr (Str.ofString "all"),.int k)]
structure Ms(d a b:Nat)(M:Mc)(S:Sto):Prop where
 hd:S[d]?=some (yK a b M.all)
 ha:S[a]?=some (.lst (sU M.due))
 hb:S[b]?=some (.lst (mU M.many))
 da:d≠a
 db:d≠b
 ab:a≠b
section
variable{x y z v:U}{S:Sto}{l:Nat}{us:List U}
theorem AJ:iN [((Sum.inr (Str.ofString "due"):Key),x),(Sum.inr (Str.ofString "many"),y),(Sum.inr (Str.ofString "all"),z)] (Sum.inr (Str.ofString "due"))=some x:=by kernel_rfl
theorem mL:iN [((Sum.inr (Str.ofString "due"):Key),x),(Sum.inr (Str.ofString "many"),y),(Sum.inr (Str.ofString "all"),z)] (Sum.inr (Str.ofString "many"))=some y:=by kernel_rfl
theorem Ee:iN [((Sum.inr (Str.ofString "due"):Key),x),(Sum.inr (Str.ofString "many"),y),(Sum.inr (Str.ofString "all"),z)] (Sum.inr (Str.ofString "all"))=some z:=by kernel_rfl
theorem Fc:EF [((Sum.inr (Str.ofString "due"):Key),x),(Sum.inr (Str.ofString "many"),y),(Sum.inr (Str.ofString "all"),z)] (Sum.inr (Str.ofString "all")) v=[(Sum.inr (Str.ofString "due"),x),(Sum.inr (Str.ofString "many"),y),(Sum.inr (Str.ofString "all"),v)]:=by kernel_rfl
theorem yz(h:S[l]?=some (.lst (us++[v]))):BS (.ref l) [] S=some (v,S.set l (.lst us)):=by
 simp only[BS,h];have e:(us++[v])[(us++[v]).length-1]?=some v:=by simp
 rw[e,Q3,List.dropLast_concat]
def pT{o o':O}(h:S[l]?=some o):(S.set l o')[l]?=some o':=by rw[ZG,if_pos rfl,if_pos (Q6.mp h).1]
def gR{k:Nat}{o o':O}(h:S[k]?=some o)(n:l≠k):(S.set l o')[k]?=some o:=by rw[QM n];exact h
theorem FN(us:List U)(v:U):ixN (us++[v]).length (-1)=some us.length:=by
 unfold ixN;rw[QJ,List.length_singleton,if_neg (by decide),if_pos (by omega)];congr 1;omega
theorem AW(us:List U)(v v':U):(us++[v]).set us.length v'=us++[v']:=by
 rw[List.set_append_right _ _ (QU _),Nat.sub_self];rfl
end
def cq:Fn:=fnU 7 3 (eJ sL)
def Nw:decide ((Str.ofString "part")=(Str.ofString "part"))=true:=by decide +kernel
def Nx:decide ((Str.ofString "deed")=(Str.ofString "part"))=false:=by decide +kernel
def Ny:decide ((Str.ofString "deed")=(Str.ofString "deed"))=true:=by decide +kernel
theorem HY:∀s:Srt,s≠.part->decide (s.s=(Str.ofString "part"))=false:=fun s h=>by cases s<;>first|exact absurd rfl h|decide +kernel
theorem HZ:∀s:Srt,s≠.deed->decide (s.s=(Str.ofString "deed"))=false:=fun s h=>by cases s<;>first|exact absurd rfl h|decide +kernel
section
variable{n w:Int}{d a b:Nat}{M:Mc}{S S1:Sto}{y:Str}{R:List Srt}
abbrev KS(d a b:Nat):Sto->Sto->Prop:=Kq (fun j=>j=d\/j=a\/j=b)
theorem qZ{c e:CS}{ρ ρ1:Rho}{T T1:Sto}{v:U}(h:c ρ T=some (.rt v,ρ1,T1)):aT c e ρ T=some (.rt v,ρ1,T1):=by unfold aT;rw[h];rfl
theorem xV(h:Ms d a b M S)(e:M.due=[]):∃S',cq [.tup [.int n,.int w],.ref d,.str y] S=some (.bl false,S')/\KS d a b S S':=by
 have h1:=h.hd;have h2:=h.ha;rw[e]at h2;refine⟨S++[.lst []],?_,.app _⟩;have g1:(S++[O.lst []])[a]?=some (.lst []):=bo h2;have g2:(S++[O.lst []])[S.length]?=some (.lst []):=by rw[ga0];rfl
 have eq:sR false (.ref a) (.ref S.length) (S++[.lst []])=some (.bl true,S++[.lst []]):=(qy.lst (k:=0) g1 g2 .nil).eq (by omega);unfold cq;rw[BY];unfold eJ;rw[bL (ρ':=[some (.tup [.int n,.int w]),some (.ref d),some (.str y),some (.ref a),none,none,none]) (S':=S) (by rwa[h1,AJ])];have c1:cE (aL (cOp (sR false) (ah 3) (b7 aB))) (cm (cC (.bl false))) bb [some (.tup [.int n,.int w]),some (.ref d),some (.str y),some (.ref a),none,none,none] S=some (.rt (.bl false),[some (.tup [.int n,.int w]),some (.ref d),some (.str y),some (.ref a),none,none,none],S++[.lst []]):=by rwa[eq]
 unfold aT;rw[c1];rfl
theorem mM{s:Srt}(h:Ms d a b M S)(e:M.due=s::R){c:CS}:∃S1,Ms d a b ⟨R,M.many,M.all⟩ S1/\KS d a b S S1/\
  (aT (bj 3 (cOp fIx (ah 1) (cC (.str "due")))) (aT (cE (aL (cOp (sR false) (ah 3) (b7 aB))) (cm (cC (.bl false))) bb) (aT (bj 4 (cBM BS (ah 3) aB)) c))) [some (.tup [.int n,.int w]),some (.ref d),some (.str y),none,none,none,none] S=c [some (.tup [.int n,.int w]),some (.ref d),some (.str y),some (.ref a),some (.str s.s),none,none] S1:=by
 have h1:=h.hd;have h2:=h.ha;rw[e,k7]at h2;have g1:(S++[O.lst []])[a]?=some (.lst (sU R++[.str s.s])):=bo h2;have g2:(S++[O.lst []])[S.length]?=some (.lst []):=by rw[ga0];rfl
 have gd:(S++[O.lst []])[d]?=some (yK a b M.all):=bo h1;have gb:(S++[O.lst []])[b]?=some (.lst (mU M.many)):=bo h.hb;have eq:=nX (x:=.ref a) (y:=.ref S.length) (S:=S++[.lst []]) false (.inr ⟨_,_,_,_,rfl,rfl,g1,g2,by simp,rfl⟩);have c1:cE (aL (cOp (sR false) (ah 3) (b7 aB))) (cm (cC (.bl false))) bb [some (.tup [.int n,.int w]),some (.ref d),some (.str y),some (.ref a),none,none,none] S=some (.nx,[some (.tup [.int n,.int w]),some (.ref d),some (.str y),some (.ref a),none,none,none],S++[.lst []]):=by
  rwa[eq,Bool.false_eq_true,if_false]
 obtain⟨Y,hY⟩:∃Y,Y=S++[O.lst []]:=⟨_,rfl⟩;rw[<-hY]at g1 gd gb c1;have pp:=yz g1;refine⟨Y.set a (.lst (sU R)),⟨gR gd (Ne.symm h.da),pT g1,gR gb h.ab,h.da,h.db,h.ab⟩,(by rw[hY];exact Kq.app _:KS d a b S Y).trans (.set (.inr (.inl rfl))),?_⟩;rw[bL (ρ':=[some (.tup [.int n,.int w]),some (.ref d),some (.str y),some (.ref a),none,none,none]) (S':=S) (by rwa[h1,AJ])];rw[bL c1];rw[bL (ρ':=[some (.tup [.int n,.int w]),some (.ref d),some (.str y),some (.ref a),some (.str s.s),none,none]) (S':=Y.set a (.lst (sU R))) (by rwa[g1,pp])]
theorem we(h:Ms d a b M S)(e:M.due=.part::R)(hl:R.length<=9000)(hm:M.many.length<=9000):∃S',cq [.tup [.int n,.int w],.ref d,.str y] S=some (.bl (decide (y=Str.ofString "(")),S')/\Ms d a b ⟨.deed::R,0::M.many,M.all⟩ S'/\KS d a b S S':=by
 obtain⟨S1,h1,k1,e1⟩:=mM (n:=n) (w:=w) (y:=y) (c:=_) h e;have q1:=h1.hd;have q2:=h1.ha;have q3:=h1.hb;have l1:(mU M.many).length<LIM:=by rw[C6];unfold LIM;omega
 have l2:(sU R).length<LIM:=by rw[vc];unfold LIM;omega
 obtain⟨S2,hS2⟩:∃S2,S2=S1.set b (.lst (mU M.many++[.int 0])):=⟨_,rfl⟩;have r2:S2[a]?=some (.lst (sU R)):=by rw[hS2];exact gR q2 (Ne.symm h.ab)
 have r1:S2[d]?=some (yK a b M.all):=by rw[hS2];exact gR q1 (Ne.symm h.db)
 have r3:S2[b]?=some (.lst (mU (0::M.many))):=by rw[hS2,jV];exact pT q3
 refine⟨S2.set a (.lst (sU (.deed::R))),?_,⟨gR r1 (Ne.symm h.da),pT r2,gR r3 h.ab,h.da,h.db,h.ab⟩,k1.trans ((by rw[hS2];exact .set (.inr (.inr rfl)):KS d a b S1 S2).trans (.set (.inr (.inl rfl))))⟩;unfold cq;rw[BY];unfold eJ;rw[e1];have t:=Nw;have c1:bp (cBM bJ (cOp fIx (ah 1) (cC (.str "many"))) (ae (cC (.int 0)) aB)) [some (.tup [.int n,.int w]),some (.ref d),some (.str y),some (.ref a),some (.str "part"),none,none] S1=some (.nx,[some (.tup [.int n,.int w]),some (.ref d),some (.str y),some (.ref a),some (.str "part"),none,none],S2):=by
  rw[hS2];rwa[q1,q3,mL,eZ l1]
 have c2:bp (cBM bJ (ah 3) (ae (cC (.str "deed")) aB)) [some (.tup [.int n,.int w]),some (.ref d),some (.str y),some (.ref a),some (.str "part"),none,none] S2=some (.nx,[some (.tup [.int n,.int w]),some (.ref d),some (.str y),some (.ref a),some (.str "part"),none,none],S2.set a (.lst (sU (.deed::R)))):=by
  rw[k7];rwa[r2,eZ l2];rfl
 have c3:cE (aL (cOp fEq (ah 4) (cC (.str "part")))) (aT (bp (cBM bJ (cOp fIx (ah 1) (cC (.str "many"))) (ae (cC (.int 0)) aB)))
  (aT (bp (cBM bJ (ah 3) (ae (cC (.str "deed")) aB)))
  (cm (cOp fEq (ah 2) (cC (.str "(")))))) bb [some (.tup [.int n,.int w]),some (.ref d),some (.str y),some (.ref a),some (.str "part"),none,none] S1=some (.rt (.bl (decide (y=Str.ofString "("))),[some (.tup [.int n,.int w]),some (.ref d),some (.str y),some (.ref a),some (.str "part"),none,none],S2.set a (.lst (sU (.deed::R)))):=by
  rw[sV,Cp,GL,show ah 4 [some (.tup [.int n,.int w]),some (.ref d),some (.str y),some (.ref a),some (.str "part"),none,none] S1=some (.str "part",S1)from rfl,Q3,As,x_c,Q3,Ar,Ha,t,Q3,xl,Q3,qJ,bL c1,bL c2];rwa[]
 unfold aT at c3 ⊢;rw[show Srt.part.s="part" from rfl,c3];rfl
end
section
variable{n w:Int}{d a b:Nat}{M:Mc}{S S1:Sto}{y:Str}{R:List Srt}{x:Int}{r:List Int}
abbrev bdC:CE:=cOp fIx (lC [((cC (.str "hand")),(fY (ae (cC (.int 0)) (ae (cC (.int 3)) aB)))),((cC (.str "box")),(fY (ae (cC (.int 0)) (ae (cOp gM (cOp fIx (ah 0) (cC (.int 0))) (cC (.int 1))) aB)))),((cC (.str "number")),(fY (ae (cC (.int 0)) (ae (cOp gM (cOp fIx (ah 0) (cC (.int 1))) (cC (.int 1))) aB)))),((cC (.str "leap")),(fY (ae (cC (.int 1)) (ae (cC (.int 12)) aB))))]) (ah 4)
abbrev bdL(n w:Int):List (Key×U):=[(Sum.inr (Str.ofString "hand"),.tup [.int 0,.int 3]),(Sum.inr (Str.ofString "box"),.tup [.int 0,.int (n-1)]),(Sum.inr (Str.ofString "number"),.tup [.int 0,.int (w-1)]),(Sum.inr (Str.ofString "leap"),.tup [.int 1,.int 12])]
theorem OW(s:Srt)(h1:s≠.part)(h2:s≠.deed):iN (gc (bdL n w)) (Sum.inr s.s)=some (.tup [.int (s.b n w).1,.int (s.b n w).2]):=by
 cases s with
 |part=>exact absurd rfl h1
 |deed=>exact absurd rfl h2
 |hand=>kernel_rfl
 |box=>kernel_rfl
 |num=>kernel_rfl
 |leap=>kernel_rfl
theorem Ko{s:Srt}{r2 r3 r5 r6:Option U}{r1:Option U}(h1:s≠.part)(h2:s≠.deed):bdC [some (.tup [.int n,.int w]),r1,r2,r3,some (.str s.s),r5,r6] S=some (.tup [.int (s.b n w).1,.int (s.b n w).2],S++[.dic (gc (bdL n w))]):=by
 have v:=OW (n:=n) (w:=w) s h1 h2;have c1:lC [((cC (.str "hand")),(fY (ae (cC (.int 0)) (ae (cC (.int 3)) aB)))),((cC (.str "box")),(fY (ae (cC (.int 0)) (ae (cOp gM (cOp fIx (ah 0) (cC (.int 0))) (cC (.int 1))) aB)))),((cC (.str "number")),(fY (ae (cC (.int 0)) (ae (cOp gM (cOp fIx (ah 0) (cC (.int 1))) (cC (.int 1))) aB)))),((cC (.str "leap")),(fY (ae (cC (.int 1)) (ae (cC (.int 12)) aB))))] [some (.tup [.int n,.int w]),r1,r2,r3,some (.str s.s),r5,r6] S=some (.ref S.length,S++[.dic (gc (bdL n w))]):=by
  rwa[bdL]
 have g:(S++[O.dic (gc (bdL n w))])[S.length]?=some (.dic (gc (bdL n w))):=by rw[ga0];rfl
 obtain⟨D,hD⟩:∃D,D=gc (bdL n w):=⟨_,rfl⟩;rw[<-hD]at c1 g v ⊢;unfold bdC;rw[GL,c1,Q3];rwa[g,v]
theorem Ia(n1:n<=6)(w1:w<=1000)(n0:1<=n)(w0:2<=w)(s:Srt):0<=(s.b n w).1/\(s.b n w).2<1000/\(s.b n w).1<=(s.b n w).2+1:=by
 cases s<;>simp only[Srt.b]<;>refine⟨?_,?_,?_⟩<;>omega
open Classical in
theorem xU{s:Srt}(h:Ms d a b M S)(n0:1<=n)(n1:n<=6)(w0:2<=w)(w1:w<=1000)(e:M.due=s::R)(p1:s≠.part)(p2:s≠.deed):∃S',cq [.tup [.int n,.int w],.ref d,.str y] S=some (.bl (decide (∃x,(s.b n w).1<=x/\x<=(s.b n w).2/\y=dA x)),S')/\Ms d a b ⟨R,M.many,M.all⟩ S'/\KS d a b S S':=by
 obtain⟨S1,h1,k1,e1⟩:=mM (n:=n) (w:=w) (y:=y) (c:=_) h e;obtain⟨z0,z1,z2⟩:=Ia (n:=n) (w:=w) n1 w1 n0 w0 s;have ln:=FE (y:=y) (S:=S1++[.dic (gc (bdL n w))]) z0 z1 z2;have t1:=HY s p1;have t2:=HZ s p2;have c5:=Ko (n:=n) (w:=w) (S:=S1) (r1:=some (.ref d)) (r2:=some (.str y)) (r3:=some (.ref a)) (r5:=none) (r6:=none) p1 p2;obtain⟨Y,hY⟩:∃Y,Y=S1++[O.dic (gc (bdL n w))]:=⟨_,rfl⟩;rw[<-hY]at ln c5;have mY:Ms d a b ⟨R,M.many,M.all⟩ Y:=by rw[hY];exact⟨bo h1.hd,bo h1.ha,bo h1.hb,h.da,h.db,h.ab⟩
 refine⟨Y,?_,mY,k1.trans (by rw[hY];exact .app _)⟩;unfold cq;rw[BY];unfold eJ;rw[e1];obtain⟨sw,hsw⟩:∃sw,sw=s.s:=⟨_,rfl⟩;rw[<-hsw]at t1 t2 c5 ⊢;obtain⟨bl,hbl⟩:∃bl,bl=U.bl (decide (∃x,(s.b n w).1<=x/\x<=(s.b n w).2/\y=dA x)):=⟨_,rfl⟩;rw[<-hbl]at ln ⊢;rw[bL (ρ':=[some (.tup [.int n,.int w]),some (.ref d),some (.str y),some (.ref a),some (.str sw),none,none]) (S':=S1) (by rwa[t1])];have c6:bj 5 bdC [some (.tup [.int n,.int w]),some (.ref d),some (.str y),some (.ref a),some (.str sw),none,none] S1=some (.nx,[some (.tup [.int n,.int w]),some (.ref d),some (.str y),some (.ref a),some (.str sw),some (.tup [.int (s.b n w).1,.int (s.b n w).2]),none],Y):=by
  rw[xn,c5,Q3,qG];rfl
 have c7:aL (cOp fNe (ah 4) (cC (.str "deed"))) [some (.tup [.int n,.int w]),some (.ref d),some (.str y),some (.ref a),some (.str sw),none,none] S1=some (true,S1):=by rwa[t2]
 have c8:cm (cCB sL (ae (ah 2) (ae (cOp fIx (ah 5) (cC (.int 0))) (ae (cOp fIx (ah 5) (cC (.int 1))) aB)))) [some (.tup [.int n,.int w]),some (.ref d),some (.str y),some (.ref a),some (.str sw),some (.tup [.int (s.b n w).1,.int (s.b n w).2]),none] Y=some (.rt bl,[some (.tup [.int n,.int w]),some (.ref d),some (.str y),some (.ref a),some (.str sw),some (.tup [.int (s.b n w).1,.int (s.b n w).2]),none],Y):=by rwa[ln]
 have c9:cE (aL (cOp fNe (ah 4) (cC (.str "deed")))) (aT (bj 5 bdC) (cm (cCB sL (ae (ah 2) (ae (cOp fIx (ah 5) (cC (.int 0))) (ae (cOp fIx (ah 5) (cC (.int 1))) aB)))))) bb [some (.tup [.int n,.int w]),some (.ref d),some (.str y),some (.ref a),some (.str sw),none,none] S1=some (.rt bl,[some (.tup [.int n,.int w]),some (.ref d),some (.str y),some (.ref a),some (.str sw),some (.tup [.int (s.b n w).1,.int (s.b n w).2]),none],Y):=by
  rw[sV,c7,Q3,qJ,bL c6];exact c8
 rw[qZ c9];rfl
abbrev A5:CS:=(aT (cE (aL (cOp fEq (ah 2) (cC (.str ")")))) (aT (bp (cBM BS (cOp fIx (ah 1) (cC (.str "many"))) aB))
  (cm (cC (.bl true)))) bb)
  (aT (cE (cOr (aL (cOp fEq (cOp fIx (cOp fIx (ah 1) (cC (.str "many"))) (w9 (cC (.int 1)))) (cC (.int 12)))) (aL (cOp fEq (cOp fIx (ah 1) (cC (.str "all"))) (cC (.int 40))))) (cm (cC (.bl false))) bb)
  (aT (iL (cOp fIx (ah 1) (cC (.str "many"))) (w9 (cC (.int 1))) (cOp bI (cOp fIx (cOp fIx (ah 1) (cC (.str "many"))) (w9 (cC (.int 1)))) (cC (.int 1))))
  (aT (iL (ah 1) (cC (.str "all")) (cOp bI (cOp fIx (ah 1) (cC (.str "all"))) (cC (.int 1))))
  (aT (bp (cBM bJ (ah 3) (ae (cC (.str "deed")) aB)))
  (aT (cE (aL (cOp fEq (ah 2) (cC (.str "try")))) (aT (bp (cBM cL (ah 3) (ae (b7 (ae (cC (.str "part")) (ae (cC (.str "part")) aB))) aB)))
  (cm (cOp fLt (cCB gN (ae (cOp fIx (ah 1) (cC (.str "many"))) aB)) (cC (.int 4))))) bb)
  (aT (bj 6 (lC [((cC (.str "look")),(b7 (ae (cC (.str "box")) (ae (cC (.str "hand")) aB)))),((cC (.str "put")),(b7 (ae (cC (.str "hand")) (ae (cC (.str "box")) aB)))),((cC (.str "set")),(b7 (ae (cC (.str "number")) (ae (cC (.str "hand")) aB)))),((cC (.str "plus")),(b7 (ae (cC (.str "hand")) (ae (cC (.str "hand")) aB)))),((cC (.str "leap")),(b7 (ae (cC (.str "leap")) (ae (cC (.str "hand")) aB)))),((cC (.str "wait")),(b7 aB))]))
  (aT (bp (cBM cL (ah 3) (ae (qt (ah 6) (ah 2) (b7 aB)) aB)))
  (cm (cOp (fIn false) (ah 2) (ah 6)))))))))))
abbrev rhT(n w:Int)(d a:Nat)(y:Str)(r6:Option U):Rho:=[some (.tup [.int n,.int w]),some (.ref d),some (.str y),some (.ref a),some (.str "deed"),none,r6]
theorem kQ(h:Ms d a b M S)(e:M.due=.deed::R):∃S1,Ms d a b ⟨R,M.many,M.all⟩ S1/\KS d a b S S1/\∀v S',(∃ρ',A5 (rhT n w d a y none) S1=some (.rt v,ρ',S'))->cq [.tup [.int n,.int w],.ref d,.str y] S=some (v,S'):=by
 obtain⟨S1,h1,k1,e1⟩:=mM (n:=n) (w:=w) (y:=y) (c:=_) h e;refine⟨S1,h1,k1,fun v S' ⟨ρ',hc⟩=>?_⟩;have t1:=Nx;have t2:=Ny;unfold cq;rw[BY];unfold eJ;rw[e1,show Srt.deed.s="deed" from rfl];rw[bL (ρ':=rhT n w d a y none) (S':=S1) (by rwa[t1])];rw[bL (ρ':=rhT n w d a y none) (S':=S1) (by rwa[t2])];show(A5 (rhT n w d a y none) S1).bind kFn=_;rw[hc];rfl
theorem AR(h:Ms d a b M S)(e:M.due=.deed::R)(hm:M.many=x::r)(hy:y=Str.ofString ")"):∃S',cq [.tup [.int n,.int w],.ref d,.str y] S=some (.bl true,S')/\Ms d a b ⟨R,r,M.all⟩ S'/\KS d a b S S':=by
 obtain⟨S1,h1,k1,e1⟩:=kQ (n:=n) (w:=w) (y:=y) h e;have q1:=h1.hd;have q3:=h1.hb;dsimp only at q1 q3;rw[hm,jV]at q3;have pp:=yz q3;have t:decide (y=(Str.ofString ")"))=true:=decide_eq_true hy;refine⟨S1.set b (.lst (mU r)),e1 _ _ ⟨rhT n w d a y none,qZ ?_⟩,⟨gR q1 (Ne.symm h.db),gR h1.ha (Ne.symm h.ab),pT q3,h.da,h.db,h.ab⟩,k1.trans (.set (.inr (.inr rfl)))⟩;rwa[t,q1,mL,q3,pp]
theorem rZ(h1:S1[d]?=some (yK a b M.all))(h3:S1[b]?=some (.lst (mU (x::r))))(r6:Option U):(cOr (aL (cOp fEq (cOp fIx (cOp fIx (ah 1) (cC (.str "many"))) (w9 (cC (.int 1)))) (cC (.int 12)))) (aL (cOp fEq (cOp fIx (ah 1) (cC (.str "all"))) (cC (.int 40))))) (rhT n w d a y r6) S1=some (decide (x=12\/M.all=40),S1):=by
 have at1:atI (mU (x::r)) (-1)=some (.int x):=by rw[jV];exact vO _ _
 have e1:∀ρ:Rho,w9 (cC (.int 1)) ρ S1=some (.int (-1),S1):=fun _=>rfl;by_cases g1:x=12
 ·have d1:decide (x=12)=true:=decide_eq_true g1;rw[decide_eq_true (.inl g1)];rwa[h1,h3,mL,at1,e1,d1]
 ·have d1:decide (x=12)=false:=decide_eq_false g1;by_cases g2:M.all=40
  ·have d2:decide (M.all=40)=true:=decide_eq_true g2;rw[decide_eq_true (.inr g2)];rwa[h1,h3,mL,Ee,at1,e1,d1,d2]
  ·have d2:decide (M.all=40)=false:=decide_eq_false g2;rw[decide_eq_false fun z=>z.elim g1 g2];rwa[h1,h3,mL,Ee,at1,e1,d1,d2]
theorem wg(h:Ms d a b M S)(e:M.due=.deed::R)(hm:M.many=x::r)(hy:y≠Str.ofString ")") (hf:x=12\/M.all=40):∃S',cq [.tup [.int n,.int w],.ref d,.str y] S=some (.bl false,S')/\KS d a b S S':=by
 obtain⟨S1,h1,k1,e1⟩:=kQ (n:=n) (w:=w) (y:=y) h e;have q3:=h1.hb;dsimp only at q3;rw[hm]at q3;have ft:=rZ (n:=n) (w:=w) (y:=y) (M:=M) h1.hd q3 none;rw[decide_eq_true hf]at ft;have t:decide (y=(Str.ofString ")"))=false:=decide_eq_false hy;refine⟨S1,e1 _ _ ⟨rhT n w d a y none,?_⟩,k1⟩;unfold A5;rw[bL (ρ':=rhT n w d a y none) (S':=S1) (by rwa[t])];refine qZ ?_;rw[sV,ft,Q3,qJ];rfl
theorem uX(h:Ms d a b M S)(e:M.due=.deed::R)(hm:M.many=x::r)(hl:R.length<=9000)(hy:y≠Str.ofString ")") (hf:¬(x=12\/M.all=40)):∃S2,Ms d a b ⟨.deed::R,(x+1)::r,M.all+1⟩ S2/\KS d a b S S2/\∀v S',(∃ρ',(aT (cE (aL (cOp fEq (ah 2) (cC (.str "try")))) (aT (bp (cBM cL (ah 3) (ae (b7 (ae (cC (.str "part")) (ae (cC (.str "part")) aB))) aB)))
  (cm (cOp fLt (cCB gN (ae (cOp fIx (ah 1) (cC (.str "many"))) aB)) (cC (.int 4))))) bb)
  (aT (bj 6 (lC [((cC (.str "look")),(b7 (ae (cC (.str "box")) (ae (cC (.str "hand")) aB)))),((cC (.str "put")),(b7 (ae (cC (.str "hand")) (ae (cC (.str "box")) aB)))),((cC (.str "set")),(b7 (ae (cC (.str "number")) (ae (cC (.str "hand")) aB)))),((cC (.str "plus")),(b7 (ae (cC (.str "hand")) (ae (cC (.str "hand")) aB)))),((cC (.str "leap")),(b7 (ae (cC (.str "leap")) (ae (cC (.str "hand")) aB)))),((cC (.str "wait")),(b7 aB))]))
  (aT (bp (cBM cL (ah 3) (ae (qt (ah 6) (ah 2) (b7 aB)) aB)))
  (cm (cOp (fIn false) (ah 2) (ah 6)))))) (rhT n w d a y none) S2=some (.rt v,ρ',S'))->cq [.tup [.int n,.int w],.ref d,.str y] S=some (v,S'):=by
 obtain⟨S1,h1,k1,e1⟩:=kQ (n:=n) (w:=w) (y:=y) h e;have q1:=h1.hd;have q2:=h1.ha;have q3:=h1.hb;dsimp only at q1 q2 q3;rw[hm]at q3;have ft:=rZ (n:=n) (w:=w) (y:=y) (M:=M) q1 q3 none;rw[decide_eq_false hf]at ft;have t:decide (y=(Str.ofString ")"))=false:=decide_eq_false hy;have at1:atI (mU (x::r)) (-1)=some (.int x):=by rw[jV];exact vO _ _
 have ix1:ixN (mU (x::r)).length (-1)=some (mU r).length:=by rw[jV];exact FN _ _
 have sl:(mU (x::r)).set (mU r).length (.int (x+1))=mU ((x+1)::r):=by rw[jV,jV];exact AW _ _ _
 have en:∀(ρ:Rho) (T:Sto),w9 (cC (.int 1)) ρ T=some (.int (-1),T):=fun _ _=>rfl;have l2:(sU R).length<LIM:=by rw[vc];unfold LIM;omega
 obtain⟨A,hA⟩:∃A,A=S1.set b (.lst (mU ((x+1)::r))):=⟨_,rfl⟩;have a1:A[d]?=some (yK a b M.all):=by rw[hA];exact gR q1 (Ne.symm h.db)
 have a2:A[a]?=some (.lst (sU R)):=by rw[hA];exact gR q2 (Ne.symm h.ab)
 have a3:A[b]?=some (.lst (mU ((x+1)::r))):=by rw[hA];exact pT q3
 obtain⟨B,hB⟩:∃B,B=A.set d (yK a b (M.all+1)):=⟨_,rfl⟩;have b1:B[d]?=some (yK a b (M.all+1)):=by rw[hB];exact pT a1
 have b2:B[a]?=some (.lst (sU R)):=by rw[hB];exact gR a2 h.da
 have b3:B[b]?=some (.lst (mU ((x+1)::r))):=by rw[hB];exact gR a3 h.db
 obtain⟨C,hC⟩:∃C,C=B.set a (.lst (sU (.deed::R))):=⟨_,rfl⟩;have kA:KS d a b S1 A:=by rw[hA];exact .set (.inr (.inr rfl))
 have kB:KS d a b A B:=by rw[hB];exact .set (.inl rfl)
 have kC:KS d a b B C:=by rw[hC];exact .set (.inr (.inl rfl))
 refine⟨C,by rw[hC];exact⟨gR b1 (Ne.symm h.da),pT b2,gR b3 h.ab,h.da,h.db,h.ab⟩,((k1.trans kA).trans kB).trans kC,fun v S' ⟨ρ',hc⟩=>e1 v S' ⟨ρ',?_⟩⟩;unfold A5;rw[bL (ρ':=rhT n w d a y none) (S':=S1) (by rwa[t])];rw[bL (ρ':=rhT n w d a y none) (S':=S1) (by rw[sV,ft,Q3,xp];rfl)];have c1:iL (cOp fIx (ah 1) (cC (.str "many"))) (w9 (cC (.int 1))) (cOp bI (cOp fIx (cOp fIx (ah 1) (cC (.str "many"))) (w9 (cC (.int 1)))) (cC (.int 1))) (rhT n w d a y none) S1=some (.nx,rhT n w d a y none,A):=by
  rw[hA];rwa[q1,mL,q3,at1,en,ix1,sl]
 have c2:iL (ah 1) (cC (.str "all")) (cOp bI (cOp fIx (ah 1) (cC (.str "all"))) (cC (.int 1))) (rhT n w d a y none) A=some (.nx,rhT n w d a y none,B):=by
  have hk:([((Sum.inr (Str.ofString "due"):Key),U.ref a),(Sum.inr (Str.ofString "many"),.ref b),(Sum.inr (Str.ofString "all"),.int M.all)]:List (Key×U)).length<LIM:=by unfold LIM;simp
  rw[hB];rwa[a1,Ee,Fc];rw[if_pos (by unfold LIM;decide)];rfl
 have c3:bp (cBM bJ (ah 3) (ae (cC (.str "deed")) aB)) (rhT n w d a y none) B=some (.nx,rhT n w d a y none,C):=by
  rw[hC,k7];rwa[b2,eZ l2];rfl
 rw[bL c1,bL c2,bL c3];exact hc
end
section
variable{n w:Int}{d a b:Nat}{M:Mc}{S:Sto}{y:Str}{R:List Srt}{x:Int}{r:List Int}{k:Nat}
theorem xT(h:Ms d a b M S)(e:M.due=.deed::R)(hm:M.many=x::r)(hl:R.length<=9000)(hy:y=Str.ofString "try")(hf:¬(x=12\/M.all=40)):∃S',cq [.tup [.int n,.int w],.ref d,.str y] S=some (.bl (decide (M.many.length<4)),S')/\Ms d a b ⟨.part::.part::.deed::R,(x+1)::r,M.all+1⟩ S'/\KS d a b S S':=by
 obtain⟨S2,h2,k2,e2⟩:=uX (n:=n) (w:=w) (y:=y) h e hm hl (by rw[hy];decide +kernel) hf;have q1:=h2.hd;have q2:=h2.ha;have q3:=h2.hb;dsimp only at q1 q2 q3;obtain⟨Y,hY⟩:∃Y,Y=S2++[O.lst [.str "part",.str "part"]]:=⟨_,rfl⟩;have g0:Y[S2.length]?=some (.lst [.str "part",.str "part"]):=by rw[hY,ga0];rfl
 have g1:Y[d]?=some (yK a b (M.all+1)):=by rw[hY];exact bo q1
 have g2:Y[a]?=some (.lst (sU (.deed::R))):=by rw[hY];exact bo q2
 have g3:Y[b]?=some (.lst (mU ((x+1)::r))):=by rw[hY];exact bo q3
 have x1:cL (.ref a) [.ref S2.length] Y=some (.non,Y.set a (.lst (sU (.part::.part::.deed::R)))):=by
  have hb:(sU (.deed::R)).length + [U.str "part",U.str "part"].length<=LIM:=by rw[vc];unfold LIM;simp;omega
  simp only[cL,g2,g0];rw[if_pos hb,k7 .part,k7 .part,QQ];rfl
 have r1:(Y.set a (.lst (sU (.part::.part::.deed::R))))[d]?=some (yK a b (M.all+1)):=gR g1 (Ne.symm h.da);have r3:(Y.set a (.lst (sU (.part::.part::.deed::R))))[b]?=some (.lst (mU ((x+1)::r))):=gR g3 h.ab;refine⟨Y.set a (.lst (sU (.part::.part::.deed::R))),e2 _ _ ⟨rhT n w d a y none,qZ ?_⟩,⟨r1,pT g2,r3,h.da,h.db,h.ab⟩,k2.trans ((by rw[hY];exact .app _:KS d a b S2 Y).trans (.set (.inr (.inl rfl))))⟩;have t:decide (y=(Str.ofString "try"))=true:=decide_eq_true hy;obtain⟨Z,hZ⟩:∃Z,Z=Y.set a (.lst (sU (.part::.part::.deed::R))):=⟨_,rfl⟩;rw[<-hZ]at x1 r1 r3 ⊢;have c1:bp (cBM cL (ah 3) (ae (b7 (ae (cC (.str "part")) (ae (cC (.str "part")) aB))) aB)) (rhT n w d a y none) S2=some (.nx,rhT n w d a y none,Z):=by
  have c0:b7 (ae (cC (.str "part")) (ae (cC (.str "part")) aB)) (rhT n w d a y none) S2=some (.ref S2.length,Y):=by rw[hY];rwa[]
  rwa[q2,c0,x1]
 have dl:decide (((mU ((x+1)::r)).length:Int)<4)=decide (M.many.length<4):=by
  rw[C6,hm];by_cases g:r.length+1<4
  ·rw[decide_eq_true (by simp only[Q5];omega),decide_eq_true (by simp only[Q5];omega)]
  ·rw[decide_eq_false (by simp only[Q5];omega),decide_eq_false (by simp only[Q5];omega)]
 have c2:cm (cOp fLt (cCB gN (ae (cOp fIx (ah 1) (cC (.str "many"))) aB)) (cC (.int 4))) (rhT n w d a y none) Z=some (.rt (.bl (decide (M.many.length<4))),rhT n w d a y none,Z):=by
  obtain⟨zs,hzs⟩:∃zs,zs=mU ((x+1)::r):=⟨_,rfl⟩;rw[<-hzs]at r3 dl;rw[<-dl];rwa[r1,mL,r3]
 rw[sV,show aL (cOp fEq (ah 2) (cC (.str "try"))) (rhT n w d a y none) S2=some (true,S2)by rwa[t],Q3,qJ,bL c1];exact c2
abbrev wdT(k:Nat):List (Key×U):=[(Sum.inr (Str.ofString "look"),.ref (k+1)),(Sum.inr (Str.ofString "put"),.ref (k+2)),(Sum.inr (Str.ofString "set"),.ref (k+3)),(Sum.inr (Str.ofString "plus"),.ref (k+4)),(Sum.inr (Str.ofString "leap"),.ref (k+5)),(Sum.inr (Str.ofString "wait"),.ref (k+6))]
abbrev wdS(k:Nat):Sto:=[.dic (wdT k),.lst [.str "box",.str "hand"],.lst [.str "hand",.str "box"],.lst [.str "number",.str "hand"],.lst [.str "hand",.str "hand"],.lst [.str "leap",.str "hand"],.lst []]
def xJ:gc (wdT k)=wdT k:=by kernel_rfl
abbrev wdC:CE:=lC [((cC (.str "look")),(b7 (ae (cC (.str "box")) (ae (cC (.str "hand")) aB)))),((cC (.str "put")),(b7 (ae (cC (.str "hand")) (ae (cC (.str "box")) aB)))),((cC (.str "set")),(b7 (ae (cC (.str "number")) (ae (cC (.str "hand")) aB)))),((cC (.str "plus")),(b7 (ae (cC (.str "hand")) (ae (cC (.str "hand")) aB)))),((cC (.str "leap")),(b7 (ae (cC (.str "leap")) (ae (cC (.str "hand")) aB)))),((cC (.str "wait")),(b7 aB))]
theorem HF{ρ:Rho}:wdC ρ S=some (.ref S.length,S++wdS S.length):=by
 unfold wdC;rw[xq];rwa[QJ];rw[xJ]
theorem HE:(∃i ps,i<7/\rj y=some ps/\iN (wdT k) (Sum.inr y)=some (.ref (k+i))/\(wdS k)[i]?=some (.lst (ps.reverse.map fun s=>U.str s.s))/\ps.length<=2)\/(rj y=none/\iN (wdT k) (Sum.inr y)=none):=by
 by_cases h1:y=Str.ofString "look"
 ·subst h1;exact .inl ⟨1,[.hand,.box],by decide,by kernel_rfl,by kernel_rfl,rfl,by decide⟩
 by_cases h2:y=Str.ofString "put"
 ·subst h2;exact .inl ⟨2,[.box,.hand],by decide,by kernel_rfl,by kernel_rfl,rfl,by decide⟩
 by_cases h3:y=Str.ofString "set"
 ·subst h3;exact .inl ⟨3,[.hand,.num],by decide,by kernel_rfl,by kernel_rfl,rfl,by decide⟩
 by_cases h4:y=Str.ofString "plus"
 ·subst h4;exact .inl ⟨4,[.hand,.hand],by decide,by kernel_rfl,by kernel_rfl,rfl,by decide⟩
 by_cases h5:y=Str.ofString "leap"
 ·subst h5;exact .inl ⟨5,[.hand,.leap],by decide,by kernel_rfl,by kernel_rfl,rfl,by decide⟩
 by_cases h6:y=Str.ofString "wait"
 ·subst h6;exact .inl ⟨6,[],by decide,by kernel_rfl,by kernel_rfl,rfl,by decide⟩
 refine .inr ⟨by unfold rj;rw[if_neg h1,if_neg h2,if_neg h3,if_neg h4,if_neg h5,if_neg h6],?_⟩;have e:∀z:Str,y≠z->decide ((Sum.inr z:Key)=Sum.inr y)=false:=fun z hz=>decide_eq_false fun q=>hz (Sum.inr.inj q).symm;unfold iN;simp only[ZJ,List.find?_nil,e _ h1,e _ h2,e _ h3,e _ h4,e _ h5,e _ h6,Option.map_none]
theorem Ef(h:Ms d a b M S)(e:M.due=.deed::R)(hm:M.many=x::r)(hl:R.length<=9000)(hc:y≠Str.ofString ")") (ht:y≠Str.ofString "try") (hf:¬(x=12\/M.all=40)):∃S',cq [.tup [.int n,.int w],.ref d,.str y] S=some (.bl (rj y).isSome,S')/\Ms d a b ⟨((rj y).getD [])++.deed::R,(x+1)::r,M.all+1⟩ S'/\KS d a b S S':=by
 obtain⟨S2,h2,k2,e2⟩:=uX (n:=n) (w:=w) (y:=y) h e hm hl hc hf;have q1:=h2.hd;have q2:=h2.ha;have q3:=h2.hb;dsimp only at q1 q2 q3;have la:a<S2.length:=(Q6.mp q2).1;have t:decide (y=(Str.ofString "try"))=false:=decide_eq_false ht;obtain⟨k,hk⟩:∃k,k=S2.length:=⟨_,rfl⟩;obtain⟨Y,hY⟩:∃Y,Y=S2++wdS k:=⟨_,rfl⟩;obtain⟨Z,hZ⟩:∃Z,Z=Y++[O.lst []]:=⟨_,rfl⟩;have lY:Y.length=k+7:=by rw[hY,QJ,<-hk];rfl
 have yk:Y[k]?=some (.dic (wdT k)):=by rw[hY,hk,ga0];rfl
 have zk:Z[k]?=some (.dic (wdT k)):=by rw[hZ];exact bo yk
 have za:Z[a]?=some (.lst (sU (.deed::R))):=by rw[hZ,hY];exact bo (bo q2)
 have zd:Z[d]?=some (yK a b (M.all+1)):=by rw[hZ,hY];exact bo (bo q1)
 have zb:Z[b]?=some (.lst (mU ((x+1)::r))):=by rw[hZ,hY];exact bo (bo q3)
 have zl:∀i,i<7->Z[k+i]?=(wdS k)[i]?:=fun i hi=>by
  rw[hZ,Qx (by rw[lY];omega),hY,hk,ga]
 have z7:Z[k+7]?=some (.lst []):=by rw[hZ,<-lY,ga0];rfl
 have fin:∃ref ps,(iN (wdT k) (Sum.inr y)).getD (.ref (k+7))=.ref ref/\Z[ref]?=some (.lst (ps.reverse.map fun s=>U.str s.s))/\ps.length<=2/\ps=(rj y).getD []/\(iN (wdT k) (Sum.inr y)).isSome=(rj y).isSome:=by
  rcases HE (y:=y) (k:=k)with⟨i,ps,hi,p1,p2,p3,p4⟩|⟨p1,p2⟩
  ·exact⟨k+i,ps,by rw[p2];rfl,by rw[zl i hi];exact p3,p4,by rw[p1];rfl,by rw[p1,p2];rfl⟩
  ·exact⟨k+7,[],by rw[p2];rfl,z7,by decide,by rw[p1];rfl,by rw[p1,p2];rfl⟩
 obtain⟨ref,ps,f1,f2,f3,f4,f5⟩:=fin;rw[<-f4,<-f5];have x1:cL (.ref a) [.ref ref] Z=some (.non,Z.set a (.lst (sU (ps++.deed::R)))):=by
  have hb:(sU (.deed::R)).length+(ps.reverse.map fun s=>U.str s.s).length<=LIM:=by rw[vc,QV,List.length_reverse];unfold LIM;simp;omega
  simp only[cL,za,f2];rw[if_pos hb];have:sU (.deed::R)++(ps.reverse.map fun s=>U.str s.s)=sU (ps++.deed::R):=by unfold sU;rw[Qm,List.reverse_append,List.map_reverse]
  rw[this]
 obtain⟨F,hF⟩:∃F,F=Z.set a (.lst (sU (ps++.deed::R))):=⟨_,rfl⟩;have fk:F[k]?=some (.dic (wdT k)):=by rw[hF];exact gR zk (by omega)
 refine⟨F,e2 _ _ ⟨rhT n w d a y (some (.ref k)),?_⟩,by rw[hF];exact⟨gR zd (Ne.symm h.da),pT za,gR zb h.ab,h.da,h.db,h.ab⟩,k2.trans ((by rw[hZ,hY];exact(Kq.app _).trans (.app _):KS d a b S2 Z).trans (by rw[hF];exact .set (.inr (.inl rfl))))⟩;have c0:wdC (rhT n w d a y none) S2=some (.ref k,Y):=by rw[HF,hY,hk]
 have c1:bj 6 wdC (rhT n w d a y none) S2=some (.nx,rhT n w d a y (some (.ref k)),Y):=by rw[xn,c0,Q3,qG];rfl
 have ex:b7 aB (rhT n w d a y (some (.ref k))) Y=some (.ref (k+7),Z):=by rw[hZ,<-lY];rfl
 obtain⟨D,hD⟩:∃D,D=wdT k:=⟨_,rfl⟩;rw[<-hD]at yk zk f1 f5 fk ⊢;rw[<-hF]at x1;have c2:qt (ah 6) (ah 2) (b7 aB) (rhT n w d a y (some (.ref k))) Y=some (.ref ref,Z):=by
  have v1:ah 6 (rhT n w d a y (some (.ref k))) Y=some (.ref k,Y):=rfl;have v2:ah 2 (rhT n w d a y (some (.ref k))) Y=some (.str y,Y):=rfl;rw[NL,v1,Q3,Hi,yk,Hh,v2,Q3,Hg,ex,Q3,Hf,zk,He,Ct,Q3,f1]
 have ya:Y[a]?=some (.lst (sU (.deed::R))):=by rw[hY];exact bo q2
 have c3:bp (cBM cL (ah 3) (ae (qt (ah 6) (ah 2) (b7 aB)) aB)) (rhT n w d a y (some (.ref k))) Y=some (.nx,rhT n w d a y (some (.ref k)),F):=by
  generalize hg:qt (ah 6) (ah 2) (b7 aB)=g at c2 ⊢;rwa[ya,c2,x1]
 have c4:cm (cOp (fIn false) (ah 2) (ah 6)) (rhT n w d a y (some (.ref k))) F=some (.rt (.bl (iN D (Sum.inr y)).isSome),rhT n w d a y (some (.ref k)),F):=by
  rwa[fk,Bool.false_eq_true,if_false]
 rw[bL (ρ':=rhT n w d a y none) (S':=S2) (by rwa[t])];rw[bL c1,bL c3];exact c4
end
def dcn:List Srt->Nat
 |[]=>0
 |.deed::R=>dcn R+1
 |_::R=>dcn R
def Ao(M:Mc):Prop:=dcn M.due=M.many.length
theorem F8{y:Str}{R:List Srt}:dcn (((rj y).getD [])++.deed::R)=dcn R+1/\(((rj y).getD [])++.deed::R).length<=R.length+3:=by
 unfold rj;repeat' split
 all_goals exact⟨rfl,by simp⟩
section
variable{n w:Int}{d a b lw:Nat}{M:Mc}{S S1:Sto}{y:Str}{R:List Srt}{x:Int}{r:List Int}{k:Nat}{v:U}
open Classical in
theorem AQ(h:Ms d a b M S)(n0:1<=n)(n1:n<=6)(w0:2<=w)(w1:w<=1000)(hi:Ao M)(hl:M.due.length<=8000):∃S',cq [.tup [.int n,.int w],.ref d,.str y] S=some (.bl (stp n w M y).isSome,S')/\(∀M',stp n w M y=some M'->Ms d a b M' S'/\Ao M'/\M'.due.length<=M.due.length+2)/\KS d a b S S':=by
 obtain⟨due,many,all⟩:=M;unfold Ao at hi;dsimp only at hi hl;cases due with
 |nil=>
  obtain⟨S',e,kk⟩:=xV (n:=n) (w:=w) (y:=y) h rfl;exact⟨S',e,(fun M' z=>by cases z),kk⟩
 |cons s R=>
  rw[Q5]at hl;have nm:∀{s:Srt},s≠.part->s≠.deed->dcn (s::R)=dcn R:=fun{s} p1 p2=>by cases s<;>first|rfl|exact absurd rfl p1|exact absurd rfl p2
  have num:s≠.part->s≠.deed->∃S',cq [.tup [.int n,.int w],.ref d,.str y] S=some (.bl (stp n w ⟨s::R,many,all⟩ y).isSome,S')/\(∀M',stp n w ⟨s::R,many,all⟩ y=some M'->Ms d a b M' S'/\Ao M'/\M'.due.length<=(s::R).length+2)/\KS d a b S S':=fun p1 p2=>by
   obtain⟨S',e,m,kk⟩:=xU (y:=y) h n0 n1 w0 w1 rfl p1 p2;have es:stp n w ⟨s::R,many,all⟩ y=if ∃x,(s.b n w).1<=x/\x<=(s.b n w).2/\y=dA x then some ⟨R,many,all⟩else none:=by
    cases s<;>first|rfl|exact absurd rfl p1|exact absurd rfl p2
   by_cases g:∃x,(s.b n w).1<=x/\x<=(s.b n w).2/\y=dA x
   ·rw[if_pos g]at es;rw[decide_eq_true g]at e;exact⟨S',by rw[es];exact e,fun M' z=>by rw[es]at z;cases z;exact⟨m,by unfold Ao;rw[<-nm p1 p2];exact hi,by simp;omega⟩,kk⟩
   ·rw[if_neg g]at es;rw[decide_eq_false g]at e;exact⟨S',by rw[es];exact e,(fun M' z=>by rw[es]at z;cases z),kk⟩
  cases s with
  |part=>
   obtain⟨S',e,m,kk⟩:=we (n:=n) (w:=w) (y:=y) h rfl (by omega) (by
    have:∀l:List Srt,dcn l<=l.length:=fun l=>by induction l with
     |nil=>exact QU _
     |cons s l ih=>cases s<;>simp only[dcn,Q5]<;>omega
    have:=this R;simp only[dcn]at hi;dsimp only;omega)
   by_cases g:y=Str.ofString "("
   ·have es:stp n w ⟨.part::R,many,all⟩ y=some ⟨.deed::R,0::many,all⟩:=if_pos g;rw[decide_eq_true g]at e;exact⟨S',by rw[es];exact e,fun M' z=>by rw[es]at z;cases z;exact⟨m,by unfold Ao;simp only[dcn,Q5]at hi ⊢;omega,by simp⟩,kk⟩
   ·have es:stp n w ⟨.part::R,many,all⟩ y=none:=if_neg g;rw[decide_eq_false g]at e;exact⟨S',by rw[es];exact e,(fun M' z=>by rw[es]at z;cases z),kk⟩
  |deed=>
   cases many with
   |nil=>simp only[dcn,Z7]at hi;omega
   |cons x r=>
    simp only[dcn,Q5]at hi;by_cases g1:y=Str.ofString ")"
    ·obtain⟨S',e,m,kk⟩:=AR (n:=n) (w:=w) (y:=y) h rfl rfl g1;have es:stp n w ⟨.deed::R,x::r,all⟩ y=some ⟨R,r,all⟩:=if_pos g1;exact⟨S',by rw[es];exact e,fun M' z=>by rw[es]at z;cases z;exact⟨m,by unfold Ao;dsimp only;omega,by simp;omega⟩,kk⟩
    ·by_cases g2:x=12\/all=40
     ·obtain⟨S',e,kk⟩:=wg (n:=n) (w:=w) (y:=y) h rfl rfl g1 g2;have es:stp n w ⟨.deed::R,x::r,all⟩ y=none:=(if_neg g1).trans (if_pos g2);exact⟨S',by rw[es];exact e,(fun M' z=>by rw[es]at z;cases z),kk⟩
     ·by_cases g3:y=Str.ofString "try"
      ·obtain⟨S',e,m,kk⟩:=xT (n:=n) (w:=w) (y:=y) h rfl rfl (by omega) g3 g2;by_cases g4:(x::r).length<4
       ·have es:stp n w ⟨.deed::R,x::r,all⟩ y=some ⟨.part::.part::.deed::R,(x+1)::r,all+1⟩:=(if_neg g1).trans ((if_neg g2).trans ((if_pos g3).trans (if_pos g4)));rw[decide_eq_true (p:=(⟨.deed::R,x::r,all⟩:Mc).many.length<4) g4]at e;exact⟨S',by rw[es];exact e,fun M' z=>by rw[es]at z;cases z;exact⟨m,by unfold Ao;simp only[dcn,Q5];omega,by simp⟩,kk⟩
       ·have es:stp n w ⟨.deed::R,x::r,all⟩ y=none:=(if_neg g1).trans ((if_neg g2).trans ((if_pos g3).trans (if_neg g4)));rw[decide_eq_false (p:=(⟨.deed::R,x::r,all⟩:Mc).many.length<4) g4]at e;exact⟨S',by rw[es];exact e,(fun M' z=>by rw[es]at z;cases z),kk⟩
      ·obtain⟨S',e,m,kk⟩:=Ef (n:=n) (w:=w) (y:=y) h rfl rfl (by omega) g1 g3 g2;obtain⟨c1,c2⟩:=F8 (y:=y) (R:=R);have es:stp n w ⟨.deed::R,x::r,all⟩ y=(rj y).map fun ps=>⟨ps++.deed::R,(x+1)::r,all+1⟩:=(if_neg g1).trans ((if_neg g2).trans (if_neg g3));refine⟨S',by rw[es,Option.isSome_map];exact e,fun M' z=>?_,kk⟩;rw[es]at z;obtain⟨ps,hp,rfl⟩:=ZV.mp z;rw[hp]at m c1 c2;exact⟨m,by unfold Ao;dsimp only[Option.getD_some]at c1 ⊢;rw[c1,Q5];omega,by dsimp only[Option.getD_some]at c2 ⊢;rw[Q5];omega⟩
  |hand=>exact num (by decide) (by decide)
  |box=>exact num (by decide) (by decide)
  |num=>exact num (by decide) (by decide)
  |leap=>exact num (by decide) (by decide)
def uM:Fn:=fnU 5 2 (je cq)
def wrU(o:Option Nat):U:=match o with
 |some p=>.int p
 |none=>.non
def WrR(n w:Int)(ws:List Str)(d a b lw:Nat)(r3 r4:Option U)(M:Mc)(p:Nat)(xs:List Str)(S:Sto):Prop:=
 ∃S',KS d a b S S'/\((∃q r3' r4',e7 n w M p xs=some q/\q<p+xs.length/\d7 (fun S=>S[lw]?=some (.lst (ws.map U.str))) (gTp [3,4]) (bP cq) ((xs.zipIdx p).map fun e=>.tup [.int e.2,.str e.1]) [some (.tup [.int n,.int w]),some (.ref lw),some (.ref d),r3,r4] S=some (.rt (.int q),[some (.tup [.int n,.int w]),some (.ref lw),some (.ref d),r3',r4'],S'))\/
  ∃M' r3' r4',(e7 n w M p xs=if M'.due=[]then none else some (p+xs.length))/\Ms d a b M' S'/\d7 (fun S=>S[lw]?=some (.lst (ws.map U.str))) (gTp [3,4]) (bP cq) ((xs.zipIdx p).map fun e=>.tup [.int e.2,.str e.1]) [some (.tup [.int n,.int w]),some (.ref lw),some (.ref d),r3,r4] S=some (.nx,[some (.tup [.int n,.int w]),some (.ref lw),some (.ref d),r3',r4'],S'))
theorem oS{ws:List Str}(n0:1<=n)(n1:n<=6)(w0:2<=w)(w1:w<=1000)(hd:lw≠d)(ha:lw≠a)(hb:lw≠b):∀(xs:List Str) (M:Mc) (p:Nat) (S:Sto) (r3 r4:Option U),Ms d a b M S->Ao M->M.due.length+2*xs.length<=8000->S[lw]?=some (.lst (ws.map U.str))->WrR n w ws d a b lw r3 r4 M p xs S
 |[],M,p,S,r3,r4,h,hi,hl,hw=>⟨S,.refl,.inr ⟨M,r3,r4,rfl,h,eD hw⟩⟩
 |y::xs,M,p,S,r3,r4,h,hi,hl,hw=>by
  rw[Q5]at hl;obtain⟨S1,e1,m1,k1⟩:=AQ (y:=y) h n0 n1 w0 w1 hi (by omega);have hw1:S1[lw]?=some (.lst (ws.map U.str)):=k1.get hw (fun z=>by rcases z with z|z|z;exact hd z;exact ha z;exact hb z);have g:∀r3 r4:Option U,gTp [3,4] (.tup [.int (p:Int),.str y]) [some (.tup [.int n,.int w]),some (.ref lw),some (.ref d),r3,r4] S=some ([some (.tup [.int n,.int w]),some (.ref lw),some (.ref d),some (.int p),some (.str y)],S):=fun _ _=>rfl;unfold WrR;rw[List.zipIdx_cons,QF];cases hs:stp n w M y with
  |none=>
   rw[hs]at e1;have hb2:bP cq [some (.tup [.int n,.int w]),some (.ref lw),some (.ref d),some (.int p),some (.str y)] S=some (.rt (.int p),[some (.tup [.int n,.int w]),some (.ref lw),some (.ref d),some (.int p),some (.str y)],S1):=by
    unfold bP;rwa[e1,Option.isSome_none]
   refine⟨S1,k1,.inl ⟨p,some (.int p),some (.str y),by unfold e7;rw[hs],by rw[Q5];omega,yP hw (g r3 r4) hb2⟩⟩
  |some M'=>
   rw[hs]at e1;obtain⟨m2,i2,l2⟩:=m1 M' hs;have hb2:bP cq [some (.tup [.int n,.int w]),some (.ref lw),some (.ref d),some (.int p),some (.str y)] S=some (.nx,[some (.tup [.int n,.int w]),some (.ref lw),some (.ref d),some (.int p),some (.str y)],S1):=by
    unfold bP;rwa[e1,Option.isSome_some]
   have ew:e7 n w M p (y::xs)=e7 n w M' (p+1) xs:=by rw[e7,hs]
   obtain⟨S2,k2,ih⟩:=oS n0 n1 w0 w1 hd ha hb xs M' (p+1) S1 (some (.int p)) (some (.str y)) m2 i2 (by omega) hw1;refine⟨S2,k1.trans k2,?_⟩;rcases ih with⟨q,r3',r4',i1,i3,i4⟩|⟨M2,r3',r4',i1,i3,i4⟩
   ·exact .inl ⟨q,r3',r4',ew.trans i1,by rw[Q5];omega,(bM hw (g r3 r4) hb2).trans i4⟩
   ·exact .inr ⟨M2,r3',r4',by rw[ew,i1,Q5,show p+1+xs.length=p+(xs.length+1)from by omega],i3,(bM hw (g r3 r4) hb2).trans i4⟩
theorem yJ{x y:U}:gc [((Sum.inr (Str.ofString "due"):Key),x),(Sum.inr (Str.ofString "many"),y),(Sum.inr (Str.ofString "all"),.int 0)]=[(Sum.inr (Str.ofString "due"),x),(Sum.inr (Str.ofString "many"),y),(Sum.inr (Str.ofString "all"),.int 0)]:=by kernel_rfl
theorem yT{X:Nat->Prop}{T T':Sto}(h:Kq X T T')(hx:∀j,X j->T.length<=j):∃G,T'=T++G:=by
 refine⟨T'.drop T.length,?_⟩;apply List.ext_getElem?;intro j;by_cases hj:j<T.length
 ·rw[Qx hj,h.keep j hj fun z=>absurd (hx j z) (by omega)]
 ·rw[Qb (by omega),List.getElem?_drop,show T.length+(j-T.length)=j from by omega]
theorem Au{ws:List Str}(n0:1<=n)(n1:n<=6)(w0:2<=w)(w1:w<=1000)(hw:S[lw]?=some (.lst (ws.map U.str)))(hl:ws.length<=3000):∃G,uM [.tup [.int n,.int w],.ref lw] S=some (wrU (e7 n w ⟨[.part],[],0⟩ 0 ws),S++G):=by
 obtain⟨k,hk⟩:∃k,k=S.length:=⟨_,rfl⟩;have lk:lw<k:=by rw[hk];exact(Q6.mp hw).1
 obtain⟨Y,hY⟩:∃Y,Y=S++[yK (k+1) (k+2) 0,.lst [.str "part"],.lst []]:=⟨_,rfl⟩;have yw:Y[lw]?=some (.lst (ws.map U.str)):=by rw[hY];exact bo hw
 have m0:Ms k (k+1) (k+2) ⟨[.part],[],0⟩ Y:=by
  rw[hY];exact⟨by rw[hk,ga0];rfl,by rw[hk,ga];rfl,by rw[hk,ga];rfl,by omega,by omega,by omega⟩
 obtain⟨S1,k1,res⟩:=oS (lw:=lw) (ws:=ws) n0 n1 w0 w1 (by omega) (by omega) (by omega) ws ⟨[.part],[],0⟩ 0 Y none none m0 rfl (by simp;omega) yw;have kY:KS k (k+1) (k+2) S Y:=by rw[hY];exact .app _
 have s1:bj 2 (lC [((cC (.str "due")),(b7 (ae (cC (.str "part")) aB))),((cC (.str "many")),(b7 aB)),((cC (.str "all")),(cC (.int 0)))]) [some (.tup [.int n,.int w]),some (.ref lw),none,none,none] S=some (.nx,[some (.tup [.int n,.int w]),some (.ref lw),some (.ref k),none,none],Y):=by
  have c:lC [((cC (.str "due")),(b7 (ae (cC (.str "part")) aB))),((cC (.str "many")),(b7 aB)),((cC (.str "all")),(cC (.int 0)))] [some (.tup [.int n,.int w]),some (.ref lw),none,none,none] S=some (.ref k,Y):=by
   rw[xq,hY,hk];rwa[QJ];rw[yJ]
  rw[xn,c,Q3,qG];rfl
 have it:wL (ah 1) [some (.tup [.int n,.int w]),some (.ref lw),some (.ref k),none,none] Y=some ((ws.zipIdx 0).map fun e=>U.tup [.int e.2,.str e.1],fun S=>S[lw]?=some (.lst (ws.map U.str)),Y):=by
  have v:ah 1 [some (.tup [.int n,.int w]),some (.ref lw),some (.ref k),none,none] Y=some (.ref lw,Y):=rfl;unfold wL;rw[v,Q3];simp only[Ik,yw,Q3];unfold BX;rw[List.zipIdx_map,List.map_map];rfl
 unfold uM;rw[Nq];unfold je;rw[bL s1];rcases res with⟨q,r3,r4,e1,e2,e3⟩|⟨M',r3,r4,e1,e2,e3⟩
 ·obtain⟨G,hG⟩:=yT (kY.trans k1) fun j hj=>by rcases hj with z|z|z<;>omega
  refine⟨G,?_⟩;rw[qZ (c:=gO (wL (ah 1)) (gTp [3,4]) (bP cq)) (by unfold gO;rw[it];exact e3),e1,hG];rfl
 ·have yw1:S1[lw]?=some (.lst (ws.map U.str)):=k1.get yw (fun z=>by rcases z with z|z|z<;>omega);obtain⟨Z,hZ⟩:∃Z,Z=S1++[O.lst []]:=⟨_,rfl⟩;have kZ:KS k (k+1) (k+2) S1 Z:=by rw[hZ];exact .app _
  obtain⟨G,hG⟩:=yT ((kY.trans k1).trans kZ) fun j hj=>by rcases hj with z|z|z<;>omega
  refine⟨G,?_⟩;rw[bL (ca:=gO (wL (ah 1)) (gTp [3,4]) (bP cq)) (ρ':=[some (.tup [.int n,.int w]),some (.ref lw),some (.ref k),r3,r4]) (S':=S1) (by unfold gO;rw[it];exact e3),<-hG,e1];have d1:=e2.hd;have g1:Z[k+1]?=some (.lst (sU M'.due)):=by rw[hZ];exact bo e2.ha
  have g2:Z[S1.length]?=some (.lst []):=by rw[hZ,ga0];rfl
  have zw:Z[lw]?=some (.lst (ws.map U.str)):=by rw[hZ];exact bo yw1
  have el:∀ρ:Rho,b7 aB ρ S1=some (.ref S1.length,Z):=fun ρ=>by rw[hZ];rfl
  cases hdue:M'.due with
  |nil=>
   rw[hdue]at g1;have eq:sR false (.ref (k+1)) (.ref S1.length) Z=some (.bl true,Z):=(qy.lst (k:=0) g1 g2 .nil).eq (by omega);rw[if_pos rfl,qZ (ρ1:=[some (.tup [.int n,.int w]),some (.ref lw),some (.ref k),r3,r4]) (v:=.non) (T1:=Z) (by
    generalize b7 aB=cl at el;rwa[d1,AJ,el,eq])]
   rfl
  |cons s R=>
   rw[hdue,k7]at g1;have eq:=nX (x:=.ref (k+1)) (y:=.ref S1.length) (S:=Z) false (.inr ⟨_,_,_,_,rfl,rfl,g1,g2,by simp,rfl⟩);rw[if_neg (Qh _ _),bL (ρ':=[some (.tup [.int n,.int w]),some (.ref lw),some (.ref k),r3,r4]) (S':=Z) (by
    generalize b7 aB=cl at el;rwa[d1,AJ,el,eq,Bool.false_eq_true,if_false])]
   have ll:(ws.map U.str).length=ws.length:=QV ..;obtain⟨us,hus⟩:∃us,us=ws.map U.str:=⟨_,rfl⟩;rw[<-hus]at zw ll;have e0:wrU (some (0+ws.length))=.int (us.length:Int):=by rw[Nat.zero_add,ll];rfl
   rw[e0];rwa[zw]
end
section
variable{n w m x t tm:Int}{ws:List Str}{p q r lw cnt:Nat}{M M':Mc}{R ps:List Srt}{many:List Int}{y:Str}
def Wk(n w:Int)(ws:List Str)(M:Mc)(p:Nat):Option Nat:=e7 n w M p (ws.drop p)
theorem kN(h:ws[p]?=some y)(e:stp n w M y=some M'):Wk n w ws M p=Wk n w ws M' (p+1):=by
 unfold Wk;obtain⟨hl,hx⟩:=Q6.mp h;rw[List.drop_eq_getElem_cons hl,hx,e7,e]
theorem oW(hd:M.due≠[])(e:stp n w M (wAt ws p)=none):Wk n w ws M p=some p:=by
 unfold Wk;cases h:ws[p]? with
 |some y=>
  rw[uU h]at e;obtain⟨hl,hx⟩:=Q6.mp h;rw[List.drop_eq_getElem_cons hl,hx,e7,e]
 |none=>
  rw[List.drop_eq_nil_of_le (List.getElem?_eq_none_iff.mp h),e7,if_neg hd]
def Srt.nm(s:Srt):Prop:=s≠.part/\s≠.deed
open Classical in
theorem CF{s:Srt}(h:s.nm):stp n w ⟨s::R,many,m⟩ y=if ∃x,(s.b n w).1<=x/\x<=(s.b n w).2/\y=dA x then some ⟨R,many,m⟩else none:=by
 cases s<;>first|rfl|exact absurd rfl h.1|exact absurd rfl h.2
theorem sY:∀(ps:List Srt) (xs:List Int) (p:Nat),(∀s∈ps,s.nm)->In2 (ps.map (Srt.b n w)) xs->Wa ws p (xs.map dA)->Wk n w ws ⟨ps++R,many,m⟩ p=Wk n w ws ⟨R,many,m⟩ (p+xs.length)
 |[],xs,p,_,i,_=>by cases i;rfl
 |s::ps,xs,p,hn,i,wa=>by
  cases i with
  |cons h1 h2 h3 h4 ti=>
   rename_i x xs;rw[Qj,kN wa.head ((CF (hn s QY)).trans (if_pos ⟨x,h1,h2,rfl⟩)),sY ps xs (p+1) (fun z hz=>hn z (QZ _ hz)) ti wa.tail,Q5,show p+1+xs.length=p+(xs.length+1)from by omega]
theorem xG{s:Srt}(h:s.nm)(hb:∀x,(s.b n w).1<=x->x<=(s.b n w).2->wAt ws p≠dA x):Wk n w ws ⟨s::R,many,m⟩ p=some p:=
 oW (Qh _ _) ((CF h).trans (if_neg fun⟨x,h1,h2,e⟩=>hb x h1 h2 e))
theorem Ed{xs:List Str}(h:Wa ws p xs)(hp:p<=ws.length):p+xs.length<=ws.length:=by
 obtain⟨r,e⟩:=h;have:=congrArg List.length e;rw[List.length_drop,QJ]at this;omega
def Gb(h:ws[p]?=some y):p<ws.length:=(Q6.mp h).1
theorem FP(h:isW y):∃(d:fH) (ps:List Srt),y=d.w/\rj y=some ps/\ps.map (Srt.b n w)=d.bs n w/\∀s∈ps,s.nm:=by
 rcases h with rfl|rfl|rfl|rfl|rfl|rfl
 ·exact⟨.look 0 0,[.hand,.box],rfl,by decide +kernel,rfl,by unfold Srt.nm;decide⟩
 ·exact⟨.put 0 0,[.box,.hand],rfl,by decide +kernel,rfl,by unfold Srt.nm;decide⟩
 ·exact⟨.set 0 0,[.hand,.num],rfl,by decide +kernel,rfl,by unfold Srt.nm;decide⟩
 ·exact⟨.plus 0 0,[.hand,.hand],rfl,by decide +kernel,rfl,by unfold Srt.nm;decide⟩
 ·exact⟨.leap 0 0,[.hand,.leap],rfl,by decide +kernel,rfl,by unfold Srt.nm;decide⟩
 ·exact⟨.wait,[],rfl,by decide +kernel,rfl,by simp⟩
theorem BE(h:¬isW y):rj y=none:=by
 unfold isW at h;unfold rj;rw[if_neg fun e=>h (.inl e),if_neg fun e=>h (.inr (.inl e)),if_neg fun e=>h (.inr (.inr (.inl e))),if_neg fun e=>h (.inr (.inr (.inr (.inl e)))),if_neg fun e=>h (.inr (.inr (.inr (.inr (.inl e))))),if_neg fun e=>h (.inr (.inr (.inr (.inr (.inr e)))))]
theorem FR{b c:Int×Int}{xs:List Int}(i:In2 [b,c] xs):∃x z,xs=[x,z]/\b.1<=x/\x<=b.2/\c.1<=z/\z<=c.2:=by
 cases i with
 |cons a1 a2 a3 a4 i=>
  cases i with
  |cons b1 b2 b3 b4 i=>
   cases i;exact⟨_,_,rfl,a1,a2,b1,b2⟩
theorem F6{d:fH}{xs:List Int}(i:In2 (d.bs n w) xs):∃d':fH,d'.w=d.w/\d'.ns=xs/\d'.ok n w:=by
 cases d<;>unfold fH.bs at i;case wait=>cases i;exact⟨.wait,rfl,rfl,trivial⟩
 all_goals
  obtain⟨x,z,rfl,a1,a2,b1,b2⟩:=FR i;dsimp only at a1 a2 b1 b2
 ·exact⟨.look x z,rfl,rfl,by unfold fH.ok;omega⟩
 ·exact⟨.put x z,rfl,rfl,by unfold fH.ok;omega⟩
 ·exact⟨.set x z,rfl,rfl,by unfold fH.ok;omega⟩
 ·exact⟨.plus x z,rfl,rfl,by unfold fH.ok;omega⟩
 ·exact⟨.leap x z,rfl,rfl,by unfold fH.ok;omega⟩
def HX(h:y=Str.ofString "("):stp n w ⟨.part::R,many,m⟩ y=some ⟨.deed::R,0::many,m⟩:=if_pos h
def Em(h:y≠Str.ofString "("):stp n w ⟨.part::R,many,m⟩ y=none:=if_neg h
def CH(h:y=Str.ofString ")"):stp n w ⟨.deed::R,x::many,m⟩ y=some ⟨R,many,m⟩:=if_pos h
def u6(h:y≠Str.ofString ")") (g:x=12\/m=40):stp n w ⟨.deed::R,x::many,m⟩ y=none:=(if_neg h).trans (if_pos g)
theorem El(h:y≠Str.ofString ")") (g:¬(x=12\/m=40)) (h2:y=Str.ofString "try"):stp n w ⟨.deed::R,x::many,m⟩ y=if (x::many).length<4 then some ⟨.part::.part::.deed::R,(x+1)::many,m+1⟩else none:=(if_neg h).trans ((if_neg g).trans (if_pos h2))
theorem Mq(h:y≠Str.ofString ")") (g:¬(x=12\/m=40)) (h2:y≠Str.ofString "try"):stp n w ⟨.deed::R,x::many,m⟩ y=(rj y).map fun ps=>⟨ps++.deed::R,(x+1)::many,m+1⟩:=(if_neg h).trans ((if_neg g).trans (if_neg h2))
theorem vX:Str.ofString "look"≠Str.ofString ""/\Str.ofString "put"≠Str.ofString ""/\Str.ofString "set"≠Str.ofString ""/\Str.ofString "plus"≠Str.ofString ""/\Str.ofString "leap"≠Str.ofString ""/\Str.ofString "wait"≠Str.ofString "":=by decide +kernel
theorem OV(d:fH):d.w≠Str.ofString "":=match d with
 |.look _ _=>vX.1
 |.put _ _=>vX.2.1
 |.set _ _=>vX.2.2.1
 |.plus _ _=>vX.2.2.2.1
 |.leap _ _=>vX.2.2.2.2.1
 |.wait=>vX.2.2.2.2.2
variable{α:Type}{cR:Cl}{fr:Fn}{xr:FnR}{f:α->U}{k:List α->Prop}{s:List α->Int}{wd:List α->List Str}
def Tri(cR:Cl)(n w:Int)(ws:List Str)(r lw:Nat)(t:Int)(cnt:Nat)(fr:Fn)(xr:FnR)(k:List α->Prop)(s:List α->Int)(wd:List α->List Str):Prop:=∀(m:Int) (p:Nat) (R:List Srt) (many:List Int),many.length=cnt->0<=m->m<=40->p<=ws.length->
 (∃a:List α,k a/\m+s a<=40/\Wa ws p (wd a)/\Wk n w ws ⟨.part::R,many,m⟩ p=Wk n w ws ⟨R,many,m+s a⟩ (p+(wd a).length))\/
 (∃e,Wk n w ws ⟨.part::R,many,m⟩ p=some e/\∀T,Rs cR n w ws r lw p m T->Bad fr xr [.ref r,.int t] T r e)
theorem B5(hl:ws.length<1000)(hA:∀y∈ws,Asc y/\y.length<=1000000)(n1:n<=6)(w1:w<=1000)(Hr:HqT cR n w ws r lw tm fr f k s wd)(s0:∀a,0<=s a)(ht:∀a,k a->0<=tm/\tm+1<=t)(hc:(cnt:Int)=4-t)(Hp:0<t->Tri cR n w ws r lw (t-1) cnt fr xr k s wd)
  (hm0:0<=m) (hm:m<40) (hp:p<=ws.length) (hx:x≠12) (hy:wAt ws p≠Str.ofString ")") (hcl:many.length+1=cnt) :
  (∃d:DF α,d.ok n w k/\m+1+szO s d<=40/\Wa ws p (wdO wd d)/\Wk n w ws ⟨.deed::R,x::many,m⟩ p=Wk n w ws ⟨.deed::R,(x+1)::many,m+1+szO s d⟩ (p+(wdO wd d).length))\/
  (∃e,Wk n w ws ⟨.deed::R,x::many,m⟩ p=some e/\∀T,Rs cR n w ws r lw p (m+1) T->Bad (PD cR fr) (XD cR fr xr) [.ref r,.int t] T r e):=by
 have hA':∀q,Asc (wAt ws q)/\(wAt ws q).length<=1000000:=fun q=>by
  cases h:ws[q]? with
  |some y=>rw[uU h];exact hA y (ZU h)
  |none=>
   have e:wAt ws q=Str.ofString "":=by unfold wAt;rw[ZL,h];rfl
   rw[e];exact⟨by unfold Asc;decide +kernel,by decide +kernel⟩
 have g2:¬(x=12\/m=40):=by omega
 have s1:∀{y},y≠Str.ofString ")"->y≠Str.ofString "try"->stp n w ⟨.deed::R,x::many,m⟩ y=(rj y).map fun ps=>⟨ps++.deed::R,(x+1)::many,m+1⟩:=fun h1 h2=>Mq h1 g2 h2;by_cases ht':wAt ws p=Str.ofString "try"
 ·have hg:=kO ht' (by decide +kernel);have hpl:=Gb hg;have s2:=El (n:=n) (w:=w) (R:=R) (many:=many) (y:=Str.ofString "try") (by decide +kernel) g2 rfl;by_cases t0:0<t
  ·rw[if_pos (by rw[Q5];omega)]at s2;have wk1:=kN (M:=⟨.deed::R,x::many,m⟩) hg s2;rcases Hp t0 (m+1) (p+1) (.part::.deed::R) ((x+1)::many) (by rw[Q5];omega) (by omega) (by omega) (by omega)with⟨a,ka,ha,wa,ea⟩|⟨e,ee,he⟩
   ·have la:=Ed wa (by omega);have sa:=s0 a;rcases Hp t0 (m+1+s a) (p+1+(wd a).length) (.deed::R) ((x+1)::many) (by rw[Q5];omega) (by omega) (by omega) (by omega)with⟨b,kb,hb,wb,eb⟩|⟨e,ee,he⟩
    ·refine .inl ⟨.tr a b,⟨ka,kb⟩,by simp only[szO];omega,?_,?_⟩
     ·simp only[wdO];exact jl hg (Dr wa wb)
     ·rw[wk1,ea,eb];simp only[wdO,szO,Q5,QJ];rw[show p+1+(wd a).length+(wd b).length=p+((wd a).length+(wd b).length+1)from by omega,show m+1+s a+s b=m+1+(s a+s b)from by omega]
    ·refine .inr ⟨e,by rw[wk1,ea];exact ee,fun T R0=>n6 R0 hg ?_⟩;have R1:=R0.go (p+1) (m+1);obtain⟨t1,t2⟩:=ht a ka;obtain⟨T2,e2,R2,k2⟩:=Hr a (t-1) (m+1) (p+1) _ ka (by omega) (by omega) wa R1;exact AM R0 t0 e2 R2 k2 (he T2 R2)
   ·exact .inr ⟨e,by rw[wk1];exact ee,fun T R0=>n6 R0 hg (AN R0 t0 (he _ (R0.go (p+1) (m+1))))⟩
  ·rw[if_neg (by rw[Q5];omega)]at s2;exact .inr ⟨p,oW (Qh _ _) (by rw[ht'];exact s2),fun T R0=>n6 R0 hg (AO R0 (by omega) (by omega))⟩
 ·by_cases hw:isW (wAt ws p)
  ·obtain⟨d0,ps,e0,ep,eb,hn⟩:=FP (n:=n) (w:=w) hw;have hg:ws[p]?=some d0.w:=kO e0 (OV d0);have hpl:=Gb hg;rw[e0]at hy ht' ep;have wk1:Wk n w ws ⟨.deed::R,x::many,m⟩ p=Wk n w ws ⟨ps++.deed::R,(x+1)::many,m+1⟩ (p+1):=kN hg ((s1 hy ht').trans (by rw[ep];rfl));have hbs:=vM n1 w1 d0;rcases rA (ws:=ws) (d0.bs n w) (p+1) hbs with⟨xs,i,wa⟩|⟨bs1,b,bs2,xs,e2,i,wa,hb⟩
   ·obtain⟨d,dw,dn,dk⟩:=F6 i;refine .inl ⟨.pl d,dk,by simp only[szO];omega,?_,?_⟩
    ·simp only[wdO];rw[dw,dn];exact jl hg wa
    ·rw[wk1,sY ps xs (p+1) hn (by rw[eb];exact i) wa];simp only[wdO,szO,Q5,QV];rw[dn,show p+1+xs.length=p+(xs.length+1)from by omega,Int.add_zero]
   ·have la:=Ed wa (by omega);rw[QV]at la;rw[<-eb]at e2;obtain⟨ps1,ps2',rfl,e3,e4⟩:=List.map_eq_append_iff.mp e2;obtain⟨s',ps2,rfl,e5,e6⟩:=List.map_eq_cons_iff.mp e4;refine .inr ⟨p+1+xs.length,?_,fun T R0=>zD R0 n1 w1 hg (bs1:=bs1) (bs2:=bs2) (b:=b) (xs:=xs) (by rw[<-eb];exact e2) i wa (by omega) (hA' _).1 (hA' _).2 hb⟩;rw[wk1,QQ,sY ps1 xs (p+1) (fun z hz=>hn z (List.mem_append_left _ hz)) (by rw[e3];exact i) wa,Qj];exact xG (hn s' (by simp)) (by rw[e5];exact hb)
  ·exact .inr ⟨p,oW (Qh _ _) ((s1 hy ht').trans (by rw[BE hw];rfl)),fun T R0=>zE R0 (by omega) ht' hw⟩
theorem BI(hl:ws.length<1000)(hA:∀y∈ws,Asc y/\y.length<=1000000)(n1:n<=6)(w1:w<=1000)(Hr:HqT cR n w ws r lw tm fr f k s wd)(s0:∀a,0<=s a)(ht:∀a,k a->0<=tm/\tm+1<=t)(hc:(cnt:Int)=4-t)(Hp:0<t->Tri cR n w ws r lw (t-1) cnt fr xr k s wd)(hcl:many.length+1=cnt) :
  ∀(v u p:Nat) (m:Int),u+v=12->0<=m->m<=40->p<=ws.length->
  (∃ds:List (DF α),(∀d∈ds,d.ok n w k)/\u+ds.length<=12/\m+szF s ds<=40/\Wa ws p (wdF wd ds++[(")":Str)])/\Wk n w ws ⟨.deed::R,(u:Int)::many,m⟩ p=Wk n w ws ⟨R,many,m+szF s ds⟩ (p+((wdF wd ds).length+1)))\/
  (∃e,Wk n w ws ⟨.deed::R,(u:Int)::many,m⟩ p=some e/\Gq cR n w ws r lw fr xr t u p m e):=fun v=>by
 induction v with
 |zero=>
  intro u p m hu hm0 hm hp;by_cases hy:wAt ws p=Str.ofString ")"
  ·have hg:=kO hy (by decide +kernel);refine .inl ⟨[],(fun _ z=>by cases z),by simp;omega,by simp only[szF];omega,jl hg vR,?_⟩;rw[kN hg (CH rfl)];simp only[szF,wdF,Z7,Int.add_zero,Nat.zero_add]
  ·refine .inr ⟨p,oW (Qh _ _) (u6 hy (.inl ?_)),rQ (by omega) hy (.inl (by omega))⟩;show(u:Int)=12;omega
 |succ v ih=>
  intro u p m hu hm0 hm hp;by_cases hy:wAt ws p=Str.ofString ")"
  ·have hg:=kO hy (by decide +kernel);refine .inl ⟨[],(fun _ z=>by cases z),by simp;omega,by simp only[szF];omega,jl hg vR,?_⟩;rw[kN hg (CH rfl)];simp only[szF,wdF,Z7,Int.add_zero,Nat.zero_add]
  ·by_cases h40:m=40
   ·exact .inr ⟨p,oW (Qh _ _) (u6 hy (.inr h40)),rQ (by omega) hy (.inr (by omega))⟩
   ·rcases B5 (R:=R) (x:=(u:Int)) hl hA n1 w1 Hr s0 ht hc Hp hm0 (by omega) hp (by omega) hy hcl with⟨d,dk,hs,wa,ed⟩|⟨e,ee,he⟩
    ·have la:=Ed wa hp;have so:0<=szO s d:=by
      cases d with
      |pl d=>exact Int.le_refl _
      |tr a b=>have:=s0 a;have:=s0 b;simp only[szO];omega
     rcases ih (u+1) (p+(wdO wd d).length) (m+1+szO s d) (by omega) (by omega) hs la with⟨ds,h1,h2,h3,h4,h5⟩|⟨e,ee,he⟩
     ·refine .inl ⟨d::ds,fun z hz=>?_,by rw[Q5];omega,by rw[kg];omega,?_,?_⟩
      ·rcases Qz.mp hz with rfl|hz
       ·exact dk
       ·exact h1 z hz
      ·rw[gQ,QQ];exact Dr wa h4
      ·rw[ed,show((u:Int)+1)=((u+1:Nat):Int)from by omega,h5,kg,gQ,QJ,show p+(wdO wd d).length+((wdF wd ds).length+1)=p+((wdO wd d).length+(wdF wd ds).length+1)from by omega,show m+1+szO s d+szF s ds=m+(1+szO s d+szF s ds)from by omega]
     ·refine .inr ⟨e,by rw[ed,show((u:Int)+1)=((u+1:Nat):Int)from by omega];exact ee,yR (v:=DF.u f d) hy (by omega) (by omega) (fun T R0=>?_) he⟩;exact vg (p:=p) (m:=m+1) Hr s0 ht n1 w1 dk hs wa R0
    ·exact .inr ⟨e,ee,yS hy (by omega) (by omega) he⟩
theorem yg(hl:ws.length<1000)(hA:∀y∈ws,Asc y/\y.length<=1000000)(n1:n<=6)(w1:w<=1000)(Hr:HqT cR n w ws r lw tm fr f k s wd)(s0:∀a,0<=s a)(ht:∀a,k a->0<=tm/\tm+1<=t)(hc:((cnt+1:Nat):Int)=4-t)(Hp:0<t->Tri cR n w ws r lw (t-1) (cnt+1) fr xr k s wd):Tri cR n w ws r lw t cnt (PRn cR fr) (XRn cR fr xr) (fun ds:List (DF α)=>ds.length<=12/\∀d∈ds,DF.ok n w k d) (szF s) (wdL wd):=fun m p R many hml hm0 hm hp=>by
 by_cases hy:wAt ws p=Str.ofString "("
 ·have hg:=kO hy (by decide +kernel);have hpl:=Gb hg;have wk1:=kN (n:=n) (w:=w) hg (HX (R:=R) (many:=many) (m:=m) rfl);rcases BI (R:=R) (many:=many) hl hA n1 w1 Hr s0 ht hc Hp (by omega) 12 0 (p+1) m rfl hm0 hm (by omega)with⟨ds,h1,h2,h3,h4,h5⟩|⟨e,ee,he⟩
  ·refine .inl ⟨ds,⟨by omega,h1⟩,h3,jl hg h4,?_⟩;rw[wk1];refine h5.trans ?_;rw[gP,show p+1+((wdF wd ds).length+1)=p+((wdF wd ds).length+2)from by omega]
  ·exact .inr ⟨e,wk1.trans ee,fun T R0=>AY R0 hg he⟩
 ·exact .inr ⟨p,oW (Qh _ _) (Em hy),fun T R0=>AZ R0 (by omega) hy⟩
def lE(cR:Cl):Nat->FnR
 |0=>XRn cR (fun _ _=>none) (fun _ _=>none)
 |j+1=>XRn cR (lF cR j) (lE cR j)
theorem ve(hl:ws.length<1000)(hA:∀y∈ws,Asc y/\y.length<=1000000)(n1:n<=6)(w1:w<=1000):∀(j c:Nat),j+c=3->Tri cR n w ws r lw (j:Int) c (lF cR j) (lE cR j) (OkM n w j) (jQ j) (wdD j)
 |0,c,h=>yg (tm:=0) (f:=fun x:Empty=>nomatch x) (k:=fun _=>False) (s:=fun _=>0) (wd:=fun _=>[]) hl hA n1 w1 (fun _ _ _ _ _ z=>z.elim) (fun _=>Int.le_refl _) (fun _ z=>z.elim) (by omega) (fun z=>absurd z (by omega))
 |j+1,c,h=>yg (tm:=(j:Int)) (f:=Dl.u j) (k:=OkM n w j) (s:=jQ j) (wd:=wdD j) hl hA n1 w1 (pY n1 w1 j j (QU _)) (pX j) (fun _ _=>⟨by omega,by omega⟩) (by omega) (fun _=>by rw[show(((j+1:Nat):Int)-1)=(j:Int)from by omega];exact ve hl hA n1 w1 j (c+1) (by omega))
end
def vQ(cR:Cl):FnR:=fnX 2 1 (bX (lF cR 3) bO (lE cR 3) (jk cR) cR)
def pD(cR:Cl):FnR:=fnX 2 2 (dE (oo cR) (j6 cR) (vQ cR) cR)
section
variable{cR:Cl}{n w:Int}{ws:List Str}{r lw:Nat}{T S:Sto}{text:Str}{CT:Addr}
def Mt{e:CE}{ρ:Rho}(h:e ρ S=none):cm e ρ S=none:=by unfold cm;rw[h];rfl
theorem A8(hl:ws.length<1000)(hA:∀y∈ws,Asc y/\y.length<=1000000)(n1:n<=6)(w1:w<=1000)(R:Rs cR n w ws r lw 0 0 T) :
  (∃ds,OkM n w 3 ds/\jQ 3 ds<=40/\ws=wdD 3 ds/\e7 n w ⟨[.part],[],0⟩ 0 ws=none)\/(∃e,e7 n w ⟨[.part],[],0⟩ 0 ws=some e/\Bad (oo cR) (vQ cR) [.ref r] T r e):=by
 have t0:=R.rd;unfold eG at t0;have ha:ae (cC (.int 3)) aB [some (.ref r),none] T=some ([.int 3],T):=rfl;rcases ve (cR:=cR) (r:=r) (lw:=lw) hl hA n1 w1 3 0 rfl 0 0 [] [] rfl (by omega) (by omega) (by omega)with⟨ds,ok,sz,wa,e⟩|⟨e,ee,he⟩
 ·rw[Int.zero_add]at sz;obtain⟨rest,hr⟩:=wa;rw[List.drop_zero]at hr;cases rest with
  |nil=>
   rw[QN]at hr;refine .inl ⟨ds,ok,sz,hr,e.trans ?_⟩;unfold Wk;rw[hr,List.drop_eq_nil_of_le (by omega),e7,if_pos rfl]
  |cons y ys=>
   refine .inr ⟨(wdD 3 ds).length,e.trans ?_,?_⟩
   ·unfold Wk;rw[hr,Nat.zero_add,List.drop_left,e7];rfl
   ·obtain⟨T',er,R',k'⟩:=pY (cR:=cR) (ws:=ws) (r:=r) (lw:=lw) n1 w1 3 3 (by omega) ds 3 0 0 T ok (by omega) (by omega) ⟨y::ys,by rw[List.drop_zero];exact hr⟩ R;have t1:=R'.rd;have tw:=R'.wd;have lz:(wdD 3 ds).length<ws.length:=by rw[hr,QJ,Q5];omega
    have xc:=Gh R' (by omega);unfold eG at t1;rw[Nat.zero_add]at t1 xc;have d1:decide (((wdD 3 ds).length:Int)=((ws.map U.str).length:Int))=false:=decide_eq_false (by rw[QV];omega);obtain⟨us,hus⟩:∃us,us=ws.map U.str:=⟨_,rfl⟩;obtain⟨v,hv⟩:∃v,v=U.tup (ds.map (Dl.u 3)):=⟨_,rfl⟩;rw[<-hus]at tw d1;rw[<-hv]at er;have s1:bj 1 (bc cR (lF cR 3) (ah 0) (ae (cC (.int 3)) aB)) [some (.ref r),none] T=some (.nx,[some (.ref r),some v],T'):=by rwa[t0,er]
    have hc:ae (cOp fEq (jx cR 2 (ah 0)) (cCB gN (ae (jx cR 1 (ah 0)) aB))) aB [some (.ref r),some v] T'=some ([.bl false],T'):=by rwa[t1,tw,d1]
    refine⟨T',?_,?_,k'⟩
    ·unfold oo;rw[F2];unfold cN;rw[bL s1,mv (si (lh rfl t1 hc pB))];rfl
    ·unfold vQ;rw[gk];unfold bX;rw[pE s1,kM rfl t1 hc];exact xc
 ·obtain⟨T',h1,h2,k⟩:=he T R;have s1:bj 1 (bc cR (lF cR 3) (ah 0) (ae (cC (.int 3)) aB)) [some (.ref r),none] T=none:=AS (lh rfl t0 ha h1);refine .inr ⟨e,ee,T',?_,?_,k⟩
  ·unfold oo;rw[F2];unfold cN;rw[mv s1];rfl
  ·unfold vQ;rw[gk];unfold bX;rw[sS s1,kM rfl t0 ha];exact h2
theorem A6(hns:cR.ns.length=4)(hl:(Txt.split text ⟨#[32]⟩).length<1000)(hA:∀y∈Txt.split text ⟨#[32]⟩,Asc y/\y.length<=1000000)(ht:text.length<=100000)(n1:n<=6)(w1:w<=1000) :
  (∃ds,OkM n w 3 ds/\jQ 3 ds<=40/\txt ds=text/\e7 n w ⟨[.part],[],0⟩ 0 (Txt.split text ⟨#[32]⟩)=none/\∃G,jJ cR [.tup [.int n,.int w],.str text] S=some (.tup (ds.map (Dl.u 3)),S++G))\/
  (∃(e:Nat) (G:Sto),e7 n w ⟨[.part],[],0⟩ 0 (Txt.split text ⟨#[32]⟩)=some e/\jJ cR [.tup [.int n,.int w],.str text] S=none/\pD cR [.tup [.int n,.int w],.str text] S=some ((e:Int),S++G)):=by
 have hj:=StrLaws.join_split text ⟨#[32]⟩;obtain⟨ws,hws⟩:∃ws,ws=Txt.split text ⟨#[32]⟩:=⟨_,rfl⟩;rw[<-hws]at hl hA hj ⊢;obtain⟨us,hus⟩:∃us,us=ws.map U.str:=⟨_,rfl⟩;have l1:(S++[O.lst us]).length=S.length+1:=by rw[QJ];rfl
 have es:fN (.str text) [.str " "] S=some (.ref S.length,S++[.lst us]):=by
  have hc:((Str.ofString " ").length == 0)=false/\text.length<=100000:=⟨by rw[oy];rfl,ht⟩;simp only[fN];rw[if_pos hc,oy,<-hws,hus]
 have em:qp cR (j6 cR) [.tup [.int n,.int w],.ref S.length] (S++[.lst us])=some (.ref (S.length+1),S++[.lst us,eG cR n w S.length 0 0]):=by
  rw[Cr,hns,l1];unfold j6;rw[Kj];unfold eG;have g0:(S++[O.lst us,.ins cR (Q9 4 none)])[S.length+1]?=some (.ins cR (Q9 4 none)):=by rw[ga];rfl
  rwa[fQ,Q9];rfl
 have R:Rs cR n w ws (S.length+1) S.length 0 0 (S++[.lst us,eG cR n w S.length 0 0]):=⟨by rw[ga];rfl,by rw[ga0,hus];rfl,by omega⟩;rcases A8 hl hA n1 w1 R with⟨ds,ok,sz,he,e⟩|⟨e,ee,T',h1,h2,k⟩
 ·have et:txt ds=text:=by unfold txt;rw[<-he];exact hj
  refine .inl ⟨ds,ok,sz,et,e,?_⟩;rw[<-et];exact Ew hns n1 w1 ok sz
 ·obtain⟨G,hG⟩:=yT ((Kq.app (X:=(·=S.length+1)) (T:=S) _).trans k) fun j hj=>by omega
  have hbs:cBS fN (ah 1) (ae (cC (.str " ")) aB) [some (.tup [.int n,.int w]),some (.str text)] S=some (.ref S.length,S++[.lst us]):=by
   have h1:ah 1 [some (.tup [.int n,.int w]),some (.str text)] S=some (.str text,S):=rfl;unfold cBS;rw[h1,Q3];simp only[ke,x_c,jM,sT,jL,Q3,es]
  have t0:=R.rd;unfold eG at em t0 h1 h2;obtain⟨Y,hY⟩:∃Y,Y=S++[O.lst us,.ins cR [some (.tup [.int n,.int w]),some (.ref S.length),some (.int (0:Nat)),some (.int 0)]]:=⟨_,rfl⟩;rw[<-hY]at em t0 h1 h2;have hm:cCB (qp cR (j6 cR)) (ae (ah 0) (ae (cBS fN (ah 1) (ae (cC (.str " ")) aB)) aB)) [some (.tup [.int n,.int w]),some (.str text)] S=some (.ref (S.length+1),Y):=by
   rwa[hbs,em]
  refine .inr ⟨e,G,ee,?_,?_⟩
  ·unfold jJ;rw[B0];unfold fB;rw[Mt (lh hm t0 rfl h1)];rfl
  ·unfold pD;rw[nY];unfold dE;rw[kM hm t0 rfl,<-hG];exact h2
def iE(cR:Cl)(CT:Addr):Fn:=fnU 7 2 (jh uM (jJ cR) uN (pD cR) CT)
theorem A3(hns:cR.ns.length=4)(hl:(Txt.split text ⟨#[32]⟩).length<1000)(hA:∀y∈Txt.split text ⟨#[32]⟩,Asc y/\y.length<=1000000)(ht:text.length<=100000)(n0:1<=n)(n1:n<=6)(w0:2<=w)(w1:w<=1000):∃G,iE cR CT [.tup [.int n,.int w],.str text] S=some (.bl true,S++G):=by
 obtain⟨us,hus⟩:∃us,us=(Txt.split text ⟨#[32]⟩).map U.str:=⟨_,rfl⟩;have es:fN (.str text) [.str " "] S=some (.ref S.length,S++[.lst us]):=by
  have hc:((Str.ofString " ").length == 0)=false/\text.length<=100000:=⟨by rw[oy];rfl,ht⟩;simp only[fN];rw[if_pos hc,oy,hus]
 obtain⟨G1,ew⟩:=Au (ws:=Txt.split text ⟨#[32]⟩) (lw:=S.length) (S:=S++[.lst us]) n0 n1 w0 w1 (by rw[ga0,hus];rfl) (by omega);obtain⟨Y,hY⟩:∃Y,Y=S++[.lst us]++G1:=⟨_,rfl⟩;rw[<-hY]at ew;obtain⟨wd,hwd⟩:∃wd,wd=U.tup [.int n,.int w]:=⟨_,rfl⟩;have tri:=A6 (S:=Y) (cR:=cR) hns hl hA ht n1 w1;rw[<-hwd]at ew tri ⊢;have hbs:cBS fN (ah 1) (ae (cC (.str " ")) aB) [some wd,some (.str text),none,none,none,none,none] S=some (.ref S.length,S++[.lst us]):=by
  have h1:ah 1 [some wd,some (.str text),none,none,none,none,none] S=some (.str text,S):=rfl;unfold cBS;rw[h1,Q3];simp only[ke,x_c,jM,sT,jL,Q3,es]
 have nn:∀S',FZ .non .non S'=some (.bl true,S'):=fun _=>rfl;have nn':∀S',gE .non .non S'=some (.bl false,S'):=fun _=>rfl;unfold iE;rw[Np];unfold jh;rcases tri with⟨ds,ok,sz,et,e,G2,er⟩|⟨e,G2,ee,en,ex⟩
 ·rw[e]at ew;unfold wrU at ew;obtain⟨G3,ed⟩:=B3 (S:=Y++G2) n1 w1 ok sz;rw[et]at ed;obtain⟨dv,hdv⟩:∃dv,dv=ds.map (Dl.u 3):=⟨_,rfl⟩;rw[<-hdv]at er ed;have tn:∀S',FZ (.tup dv) .non S'=some (.bl false,S'):=fun _=>rfl;have d1:decide (text=text)=true:=decide_eq_true rfl;have hy:Ga CT 6 (bj 3 (cCB (jJ cR) (ae (ah 0) (ae (ah 1) aB)))) (vW (pD cR) (ae (ah 0) (ae (ah 1) aB))) (aT (bj 5 (gI (qE CT true (ah 6)) (uG (qE CT false (ah 6))))) (cE (aL (qE CT true (ah 6))) (bj 4 (cAt CT (ah 6))) bb)) [some wd,some (.str text),some .non,some .non,some .non,some (.bl false),none] Y=some (.nx,[some wd,some (.str text),some .non,some (.tup dv),some .non,some (.bl false),none],Y++G2):=by
   have h:bj 3 (cCB (jJ cR) (ae (ah 0) (ae (ah 1) aB))) [some wd,some (.str text),some .non,some .non,some .non,some (.bl false),none] Y=some (.nx,[some wd,some (.str text),some .non,some (.tup dv),some .non,some (.bl false),none],Y++G2):=by rwa[er]
   unfold Ga;rw[h]
  refine⟨[.lst us]++G1++G2++G3,?_⟩;have eY:S++([.lst us]++G1++G2++G3)=Y++G2++G3:=by rw[hY];simp
  rw[eY];rw[bL (ρ':=[some wd,some (.str text),some .non,none,none,none,none]) (S':=Y) (by rwa[hbs,ew])];rw[bL (ρ':=[some wd,some (.str text),some .non,some .non,none,none,none]) (S':=Y) (by rwa[])];rw[bL (ρ':=[some wd,some (.str text),some .non,some .non,some .non,none,none]) (S':=Y) (by rwa[])];rw[bL (ρ':=[some wd,some (.str text),some .non,some .non,some .non,some (.bl false),none]) (S':=Y) (by rwa[])];rw[bL hy];obtain⟨Z,hZ⟩:∃Z,Z=Y++G2:=⟨_,rfl⟩;rw[<-hZ]at ed ⊢;rwa[nn,nn',tn,ed,d1]
 ·rw[ee]at ew;unfold wrU at ew;refine⟨[.lst us]++G1++G2++[.xat CT e],?_⟩;have eY:S++([.lst us]++G1++G2++[.xat CT e])=Y++G2++[.xat CT e]:=by rw[hY];simp
  rw[eY];obtain⟨Z,hZ⟩:∃Z,Z=Y++G2:=⟨_,rfl⟩;rw[<-hZ]at ex ⊢;have gz:(Z++[O.xat CT e])[Z.length]?=some (.xat CT e):=by rw[ga0];rfl
  have ix:∀(b:Bool) (ρ:Rho),ρ[6]?=some (some (.ref Z.length))->qE CT b (ah 6) ρ (Z++[.xat CT e])=some (.bl b,Z++[.xat CT e]):=fun b ρ h=>by
   have h1:ah 6 ρ (Z++[O.xat CT e])=some (.ref Z.length,Z++[.xat CT e]):=by unfold ah;rw[h]
   unfold qE;rw[h1,Q3];dsimp only;rw[gz];dsimp only;rw[if_pos rfl]
  have ia:∀(ρ:Rho),ρ[6]?=some (some (.ref Z.length))->cAt CT (ah 6) ρ (Z++[.xat CT e])=some (.int e,Z++[.xat CT e]):=fun ρ h=>by
   have h1:ah 6 ρ (Z++[O.xat CT e])=some (.ref Z.length,Z++[.xat CT e]):=by unfold ah;rw[h]
   unfold cAt;rw[h1,Q3];dsimp only;rw[gz];dsimp only;rw[if_pos rfl]
  have i1:=ix true [some wd,some (.str text),some (.int e),some .non,some .non,some (.bl false),some (.ref Z.length)] rfl;have i2:=ix false [some wd,some (.str text),some (.int e),some .non,some .non,some (.bl false),some (.ref Z.length)] rfl;have i3:=ix true [some wd,some (.str text),some (.int e),some .non,some .non,some (.bl true),some (.ref Z.length)] rfl;have i4:=ia [some wd,some (.str text),some (.int e),some .non,some .non,some (.bl true),some (.ref Z.length)] rfl;have hh:aT (bj 5 (gI (qE CT true (ah 6)) (uG (qE CT false (ah 6))))) (cE (aL (qE CT true (ah 6))) (bj 4 (cAt CT (ah 6))) bb) [some wd,some (.str text),some (.int e),some .non,some .non,some (.bl false),some (.ref Z.length)] (Z++[.xat CT e])=some (.nx,[some wd,some (.str text),some (.int e),some .non,some (.int e),some (.bl true),some (.ref Z.length)],Z++[.xat CT e]):=by
   rwa[i1,i2,i3,i4]
  have hy:Ga CT 6 (bj 3 (cCB (jJ cR) (ae (ah 0) (ae (ah 1) aB)))) (vW (pD cR) (ae (ah 0) (ae (ah 1) aB))) (aT (bj 5 (gI (qE CT true (ah 6)) (uG (qE CT false (ah 6))))) (cE (aL (qE CT true (ah 6))) (bj 4 (cAt CT (ah 6))) bb)) [some wd,some (.str text),some (.int e),some .non,some .non,some (.bl false),none] Y=some (.nx,[some wd,some (.str text),some (.int e),some .non,some (.int e),some (.bl true),none],Z++[.xat CT e]):=by
   have h:bj 3 (cCB (jJ cR) (ae (ah 0) (ae (ah 1) aB))) [some wd,some (.str text),some (.int e),some .non,some .non,some (.bl false),none] Y=none:=by
    refine AS ?_;rwa[en,Option.bind_none]
   have hx:vW (pD cR) (ae (ah 0) (ae (ah 1) aB)) [some wd,some (.str text),some (.int e),some .non,some .non,some (.bl false),none] Y=some ((e:Int),Z):=by
    unfold vW;rwa[];exact ex
   unfold Ga;rw[h,hx,Q3];dsimp only[List.set];rw[hh];rfl
  have in1:∀S',FZ (.int e) .non S'=some (.bl false,S'):=fun _=>rfl;have d1:decide ((e:Int)=(e:Int))=true:=decide_eq_true rfl;rw[bL (ρ':=[some wd,some (.str text),some (.int e),none,none,none,none]) (S':=Y) (by rwa[hbs,ew])];rw[bL (ρ':=[some wd,some (.str text),some (.int e),some .non,none,none,none]) (S':=Y) (by rwa[])];rw[bL (ρ':=[some wd,some (.str text),some (.int e),some .non,some .non,none,none]) (S':=Y) (by rwa[])];rw[bL (ρ':=[some wd,some (.str text),some (.int e),some .non,some .non,some (.bl false),none]) (S':=Y) (by rwa[])];rw[bL hy];obtain⟨V,hV⟩:∃V,V=Z++[O.xat CT e]:=⟨_,rfl⟩;rw[<-hV];have ti1:(tyU (.int e) V).bind (fun t=>some (U.bl (Ej t Ty.int),V))=some (.bl true,V):=rfl;have ti2:(tyU (.int e) V).bind (fun t=>some (U.bl (Ej t Ty.bool),V))=some (.bl false,V):=rfl;rwa[in1,d1,ti1,ti2]
end
theorem uI{y:Str}:Asc y↔∀c∈y.cps.toList,c<128:=by
 unfold Asc;rw[Array.all_eq_true'];constructor
 ·intro h c hc;have:=h c (by simpa using hc);simpa using this
 ·intro h c hc;have:=h c (by simpa using hc);simpa using this
def WOA(y:Str):Prop:=y.length<=40/\Asc y/\y.cps.toList.count 32<=1
instance (y:Str):Decidable (WOA y):=by unfold WOA Asc;infer_instance
theorem qg:∀Ls:List (List Nat),Ls≠[]->(jn Ls).count 32+1=(Ls.map fun l=>l.count 32).sum+Ls.length
 |[],h=>absurd rfl h
 |[x],_=>by simp[jn]
 |x::y::r,_=>by
  have ih:=qg (y::r) (Qh _ _);simp only[jn,List.count_append,List.count_cons,QF,List.sum_cons,Q5]at ih ⊢;simp only[beq_self_eq_true,if_true];omega
theorem C8{c:Nat}:∀{Ls:List (List Nat)},(∃l∈Ls,c∈l)->c∈jn Ls
 |[],⟨l,h,_⟩=>by cases h
 |[x],⟨l,h,hc⟩=>by rw[List.mem_singleton.mp h]at hc;exact hc
 |x::y::r,⟨l,h,hc⟩=>by
  rcases Qz.mp h with rfl|h
  ·exact List.mem_append_left _ hc
  ·exact Qp _ (QZ _ (C8 ⟨l,h,hc⟩))
theorem yZ{c:Nat}:∀{Ls:List (List Nat)},c∈jn Ls->c=32\/∃l∈Ls,c∈l
 |[],h=>by cases h
 |[x],h=>.inr ⟨x,List.mem_singleton.mpr rfl,h⟩
 |x::y::r,h=>by
  rcases Qt.mp h with h|h
  ·exact .inr ⟨x,QY,h⟩
  ·rcases Qz.mp h with h|h
   ·exact .inl h
   ·rcases yZ h with h|⟨l,h1,h2⟩
    ·exact .inl h
    ·exact .inr ⟨l,QZ _ h1,h2⟩
theorem C9:∀Ls:List (List Nat),(jn Ls).length<=(Ls.map fun l=>l.length).sum+Ls.length
 |[]=>by simp[jn]
 |[x]=>by simp[jn]
 |x::y::r=>by
  have ih:=C9 (y::r);simp only[jn,QJ,Q5,QF,List.sum_cons]at ih ⊢;omega
theorem qY{α:Type}{f:α->Nat}{B:Nat}:∀{l:List α},(∀x∈l,f x<=B)->(l.map f).sum<=l.length*B
 |[],_=>by simp
 |x::l,h=>by
  have:=h x QY;have:=qY (f:=f) (B:=B) (l:=l) fun z hz=>h z (QZ _ hz);rw[QF,List.sum_cons,Q5,Nat.succ_mul];omega
theorem v7{us:List Str}(hu:∀y∈us,WOA y)(hl:us.length<=450):(Txt.split (Str.join ⟨#[32]⟩ us) ⟨#[32]⟩).length<1000/\(∀y∈Txt.split (Str.join ⟨#[32]⟩ us) ⟨#[32]⟩,Asc y/\y.length<=1000000)/\(Str.join ⟨#[32]⟩ us).length<=100000:=by
 have e:=StrLaws.join_split (Str.join ⟨#[32]⟩ us) ⟨#[32]⟩;have e2:=congrArg (fun z:Str=>z.cps.toList) e;simp only[qe]at e2;have hne:=u7 (Str.join ⟨#[32]⟩ us) ⟨#[32]⟩;have hf:=StrLaws.split_free (Str.join ⟨#[32]⟩ us) 32;have lt:=qe us;have lz:=fh (Str.join ⟨#[32]⟩ us);obtain⟨W,hW⟩:∃W,W=Txt.split (Str.join ⟨#[32]⟩ us) ⟨#[32]⟩:=⟨_,rfl⟩;rw[<-hW]at hne hf e2 ⊢;have cW:=qg (W.map fun y=>y.cps.toList) (fun z=>hne (ZD.mp z));rw[List.map_map,QV]at cW;have zW:(W.map ((fun l:List Nat=>l.count 32) ∘ fun y=>y.cps.toList)).sum<=W.length*0:=qY fun y hy=>by
  show y.cps.toList.count 32<=0;rw[List.count_eq_zero.mpr (hf y hy)];exact QU _
 have h450:(jn (us.map fun y=>y.cps.toList)).count 32<=900:=by
  by_cases h0:us=[]
  ·rw[h0];simp[jn]
  ·have cu:=qg (us.map fun y=>y.cps.toList) (fun z=>h0 (ZD.mp z));rw[List.map_map,QV]at cu;have su:(us.map ((fun l:List Nat=>l.count 32) ∘ fun y=>y.cps.toList)).sum<=us.length*1:=qY fun y hy=>(hu y hy).2.2;omega
 have tl:(Str.join ⟨#[32]⟩ us).length<=100000:=by
  rw[lz,lt];have:=C9 (us.map fun y=>y.cps.toList);rw[List.map_map,QV]at this;have su:(us.map ((fun l:List Nat=>l.length) ∘ fun y=>y.cps.toList)).sum<=us.length*40:=qY fun y hy=>by
   have:=(hu y hy).1;rw[fh]at this;exact this
  omega
 refine⟨?_,fun y hy=>⟨?_,?_⟩,tl⟩
 ·rw[e2]at cW;omega
 ·rw[uI];intro c hc;have hm:c∈jn (W.map fun y=>y.cps.toList):=C8 ⟨_,List.mem_map_of_mem hy,hc⟩;rw[e2]at hm;rcases yZ hm with rfl|⟨l,h1,h2⟩
  ·decide
  ·obtain⟨u,hu1,rfl⟩:=List.mem_map.mp h1;exact uI.mp (hu u hu1).2.1 c h2
 ·have h1:y.length<=(jn (W.map fun y=>y.cps.toList)).length:=by
   rw[fh];clear cW zW hf hne hW e2;induction W with
   |nil=>cases hy
   |cons a r ih=>
    cases r with
    |nil=>rw[List.mem_singleton.mp hy];exact QU _
    |cons b r=>
     simp only[QF,jn,QJ,Q5];rcases Qz.mp hy with rfl|hy
     ·omega
     ·have:=ih hy;simp only[QF]at this;omega
  rw[e2,<-lt,<-lz]at h1;omega
section
variable{cR:Cl}{n w:Int}{us:List Str}{l:Nat}{S:Sto}{CT:Addr}
theorem FK(hu:∀y∈us,WOA y)(hl:us.length<=450)(h:S[l]?=some (.lst (us.map U.str))):kG (.str " ") [.ref l] S=some (.str (Str.join ⟨#[32]⟩ us),S):=by
 have e1:(Str.ofString " ").length=1:=by rw[oy];rfl
 have su:(us.map (·.length)).sum<=us.length*40:=qY fun y hy=>(hu y hy).1;have hc:(us.map (·.length)).sum+us.length*(Str.ofString " ").length<=1000000:=by rw[e1];omega
 simp only[kG,h,mO,Q3];rw[if_pos hc,oy]
theorem tN(hns:cR.ns.length=4)(hu:∀y∈us,WOA y)(hl:us.length<=450)(n0:1<=n)(n1:n<=6)(w0:2<=w)(w1:w<=1000):∃G,iE cR CT [.tup [.int n,.int w],.str (Str.join ⟨#[32]⟩ us)] S=some (.bl true,S++G):=by
 obtain⟨h1,h2,h3⟩:=v7 hu hl;exact A3 hns h1 h2 h3 n0 n1 w0 w1
end
theorem t5{x:Int}(h0:0<=x)(h1:x<1001):WOA (dA x):=by
 obtain⟨d1,d2,d3,d4⟩:=jc x.toNat (by omega);rw[<-hU h0]at d1 d3;refine⟨by rw[fh];omega,uI.mpr fun c hc=>by have:=d3 c hc;omega,?_⟩;rw[List.count_eq_zero.mpr fun hc=>by have:=d3 32 hc;omega];exact ZF _
theorem pJ:WOA (Str.ofString "(")/\WOA (Str.ofString ")")/\WOA (Str.ofString "try")/\WOA (Str.ofString "look")/\WOA (Str.ofString "put")/\WOA (Str.ofString "set")/\WOA (Str.ofString "plus")/\WOA (Str.ofString "leap")/\WOA (Str.ofString "wait"):=by decide +kernel
theorem Mn(d:fH):WOA d.w:=match d with
 |.look _ _=>pJ.2.2.2.1
 |.put _ _=>pJ.2.2.2.2.1
 |.set _ _=>pJ.2.2.2.2.2.1
 |.plus _ _=>pJ.2.2.2.2.2.2.1
 |.leap _ _=>pJ.2.2.2.2.2.2.2.1
 |.wait=>pJ.2.2.2.2.2.2.2.2
def Okr(n w:Int):(j:Nat)->List (Dl j)->Prop
 |0,ds=>∀d∈ds,DF.ok n w (fun _=>False) d
 |j+1,ds=>∀d∈ds,DF.ok n w (Okr n w j) d
section
variable{n w:Int}
theorem vm:∀(j:Nat) (ds:List (Dl j)),OkM n w j ds->Okr n w j ds
 |0,ds,h=>h.2
 |j+1,ds,h=>fun d hd=>by
  have:=h.2 d hd;cases d with
  |pl d=>exact this
  |tr a b=>exact⟨vm j a this.1,vm j b this.2⟩
theorem pL{α:Type}{k:List α->Prop}{wd:List α->List Str}(n1:n<=6)(w1:w<=1000)(h:∀a,k a->∀y∈wd a,WOA y):∀ds:List (DF α),(∀d∈ds,d.ok n w k)->∀y∈wdF wd ds,WOA y
 |[],_,y,hy=>by cases hy
 |.pl d::r,oa,y,hy=>by
  simp only[wdF,Qz,Qt]at hy;rcases hy with rfl|hy|hy
  ·exact Mn d
  ·obtain⟨x,hx,rfl⟩:=List.mem_map.mp hy;have:=jv n1 w1 (oa _ QY) x hx;exact t5 this.1 (by omega)
  ·exact pL n1 w1 h r (fun z hz=>oa z (QZ _ hz)) y hy
 |.tr a b::r,oa,y,hy=>by
  obtain⟨ka,kb⟩:k a/\k b:=oa _ QY;simp only[wdF,Qz,Qt]at hy;rcases hy with rfl|hy|hy|hy
  ·exact pJ.2.2.1
  ·exact h a ka y hy
  ·exact h b kb y hy
  ·exact pL n1 w1 h r (fun z hz=>oa z (QZ _ hz)) y hy
theorem xM{α:Type}{wd:List α->List Str}{ds:List (DF α)}(h:∀y∈wdF wd ds,WOA y):∀y∈wdL wd ds,WOA y:=fun y hy=>by
 unfold wdL at hy;simp only[Qz,Qt,Qo,or_false]at hy;rcases hy with rfl|hy|rfl
 ·exact pJ.1
 ·exact h y hy
 ·exact pJ.2.1
theorem sZ(n1:n<=6)(w1:w<=1000):∀(j:Nat) (ds:List (Dl j)),Okr n w j ds->∀y∈wdD j ds,WOA y
 |0,ds,ok=>xM (pL (n:=n) (w:=w) (k:=fun _=>False) n1 w1 (fun _ z=>z.elim) ds ok)
 |j+1,ds,ok=>xM (pL (n:=n) (w:=w) n1 w1 (sZ n1 w1 j) ds ok)
theorem yN(n1:n<=6)(w1:w<=1000):∀J j:Nat,j<=J->HvT (LwJ J) (Dl.u j) (Okr n w j) (wdD j)
 |0,0,_=>fun a S ka hl=>nM (n:=n) (w:=w) (k:=fun _=>False) (fun _ _ z=>z.elim) n1 w1 a S ka hl
 |J+1,0,_=>fun a S ka hl=>nM (n:=n) (w:=w) (k:=fun _=>False) (fun _ _ z=>z.elim) n1 w1 a S ka hl
 |J+1,j+1,h=>fun a S ka hl=>nM (n:=n) (w:=w) (yN n1 w1 J j (by omega)) n1 w1 a S ka hl
end
abbrev E0:CE:=b7 (ae (cC (.str "(")) (ae (cC (.str ")")) (ae (cC (.str "try")) (ae (cC (.str "look")) (ae (cC (.str "put")) (ae (cC (.str "set")) (ae (cC (.str "plus")) (ae (cC (.str "leap")) aB))))))))
abbrev E1:CE:=b7 (ae (cC (.str "wait")) (ae (cC (.str "0")) (ae (cC (.str "1")) (ae (cC (.str "3")) (ae (cC (.str "4")) (ae (cC (.str "12")) (ae (cC (.str "13")) (ae (cC (.str "")) (ae (cC (.str "x")) (ae (cC (.str "Look")) aB))))))))))
abbrev E2:CE:=b7 (ae (cCB mj (ae (cOp fIx (ah 1) (cC (.int 0))) aB)) (ae (cCB mj (ae (cOp gM (cOp fIx (ah 1) (cC (.int 0))) (cC (.int 1))) aB)) (ae (cCB mj (ae (cOp fIx (ah 1) (cC (.int 1))) aB)) aB)))
abbrev E3:CE:=b7 (ae (cCB mj (ae (cOp gM (cOp fIx (ah 1) (cC (.int 1))) (cC (.int 1))) aB)) (ae (cC (.str "00")) (ae (cC (.str "01")) (ae (cC (.str "-1")) (ae (cC (.str "+1")) (ae (cC (.str "1_0")) (ae (cC (.str "1\n")) aB)))))))
abbrev E4:CE:=b7 (ae (cC (.str "\t1")) (ae (cC (.str "wait\n")) (ae (cC (.str "((")) (ae (cC (.str "1000")) (ae (cC (.str "10000")) (ae (cOp wQ (cC (.str "9")) (cC (.int 40))) (ae (cC (.str "waits")) (ae (cC (.str "( )")) (ae (cC (.str "1.")) (ae (cC (.str "None")) aB))))))))))
def O0(n w:Int):List Str:=[Str.ofString "(",Str.ofString ")",Str.ofString "try",Str.ofString "look",Str.ofString "put",Str.ofString "set",Str.ofString "plus",Str.ofString "leap"]
def O1(n w:Int):List Str:=[Str.ofString "wait",Str.ofString "0",Str.ofString "1",Str.ofString "3",Str.ofString "4",Str.ofString "12",Str.ofString "13",Str.ofString "",Str.ofString "x",Str.ofString "Look"]
def O2(n w:Int):List Str:=[dA n,dA (n-1),dA w]
def O3(n w:Int):List Str:=[dA (w-1),Str.ofString "00",Str.ofString "01",Str.ofString "-1",Str.ofString "+1",Str.ofString "1_0",Str.ofString "1\n"]
def O4(n w:Int):List Str:=[Str.ofString "\t1",Str.ofString "wait\n",Str.ofString "((",Str.ofString "1000",Str.ofString "10000",Eu (Str.ofString "9") 40,Str.ofString "waits",Str.ofString "( )",Str.ofString "1.",Str.ofString "None"]
section
variable{n w:Int}{S:Sto}{ρ:Rho}{l:Nat}
theorem mD{x:Int}(h:0<=x/\x<1001)(S:Sto):mj [.int x] S=some (.str (dA x),S):=by
 have hl:x.natAbs.log2<1920:=by
  refine ZC (Nat.log2_le_self _) ?_;omega
 unfold mj;simp only;rw[if_pos hl];rfl
def BD:∀y∈O0 1 2++O1 1 2++O4 1 2++(O3 1 2).tail,WOA y:=by decide +kernel
theorem Fl(n0:1<=n)(n1:n<=6)(w0:2<=w)(w1:w<=1000):∀y∈O0 n w++O1 n w++O2 n w++O3 n w++O4 n w,WOA y:=by
 intro y hy;simp only[Qt]at hy;have c:=BD;simp only[Qt]at c;rcases hy with(((hy|hy)|hy)|hy)|hy
 ·exact c y (.inl (.inl (.inl hy)))
 ·exact c y (.inl (.inl (.inr hy)))
 ·unfold O2 at hy;simp only[Qz,Qo,or_false]at hy;rcases hy with rfl|rfl|rfl<;>exact t5 (by omega) (by omega)
 ·rcases Qz.mp hy with rfl|hy
  ·exact t5 (by omega) (by omega)
  ·exact c y (.inr hy)
 ·exact c y (.inl (.inr hy))
theorem MR:E0 ρ S=some (.ref S.length,S++[.lst ((O0 n w).map U.str)]):=by
 unfold E0 O0;rwa[]
theorem MQ:E1 ρ S=some (.ref S.length,S++[.lst ((O1 n w).map U.str)]):=by
 unfold E1 O1;rwa[]
theorem MP(n0:1<=n)(n1:n<=6)(w0:2<=w)(w1:w<=1000)(h:ah 1 ρ=fun S=>some (.tup [.int n,.int w],S)):E2 ρ S=some (.ref S.length,S++[.lst ((O2 n w).map U.str)]):=by
 have h':∀S,ah 1 ρ S=some (.tup [.int n,.int w],S):=fun S=>congrFun h S;have e1:∀S',mj [.int n] S'=some (.str (dA n),S'):=mD (by omega);have e2:∀S',mj [.int (n-1)] S'=some (.str (dA (n-1)),S'):=mD (by omega);have e3:∀S',mj [.int w] S'=some (.str (dA w),S'):=mD (by omega);unfold E2 O2;generalize ah 1=cv at h' ⊢;rwa[h',e1,e2,e3]
theorem MO(w0:2<=w)(w1:w<=1000)(h:ah 1 ρ=fun S=>some (.tup [.int n,.int w],S)):E3 ρ S=some (.ref S.length,S++[.lst ((O3 n w).map U.str)]):=by
 have h':∀S,ah 1 ρ S=some (.tup [.int n,.int w],S):=fun S=>congrFun h S;have e2:∀S',mj [.int (w-1)] S'=some (.str (dA (w-1)),S'):=mD (by omega);unfold E3 O3;generalize ah 1=cv at h' ⊢;rwa[h',e2]
theorem Fv(S:Sto):wQ (.str "9") (.int 40) S=some (.str (Eu (Str.ofString "9") 40),S):=by
 unfold wQ;simp only;rw[if_pos (by decide +kernel)];rfl
theorem MN:E4 ρ S=some (.ref S.length,S++[.lst ((O4 n w).map U.str)]):=by
 have e:=Fv;unfold E4 O4;rwa[e]
theorem mG{e:CE}{us vs:List Str}(h3:ρ[3]?=some (some (.ref l)))(hS:S[l]?=some (.lst (us.map U.str)))(he:e ρ S=some (.ref S.length,S++[.lst (vs.map U.str)]))(hz:us.length+vs.length<=9000):bj 3 (cOp bI (ah 3) e) ρ S=some (.nx,ρ.set 3 (some (.ref (S.length+1))),S++[.lst (vs.map U.str),.lst ((us++vs).map U.str)]):=by
 have h1:ah 3 ρ S=some (.ref l,S):=by unfold ah;rw[h3]
 have ec:=jd (S:=S++[.lst (vs.map U.str)]) (l:=l) (m:=S.length) (bo hS) (by rw[ga0];rfl) (by rw[QV,QV];exact hz);have el:(S++[O.lst (vs.map U.str)]).length=S.length+1:=by rw[QJ];rfl
 rw[el,<-Qm,QQ]at ec;have e1:cOp bI (ah 3) e ρ S=some (.ref (S.length+1),S++[.lst (vs.map U.str),.lst ((us++vs).map U.str)]):=by
  unfold cOp;rw[h1,Q3];simp only[he,Q3];exact ec
 unfold bj;rw[e1];rfl
theorem Fm(n0:1<=n)(n1:n<=6)(w0:2<=w)(w1:w<=1000){r0 r1 r2:Option U}{S:Sto}{rest:CS}(h1:r1=some (.tup [.int n,.int w])):∃l G,aT (bj 3 E0) (aT (bj 3 (cOp bI (ah 3) E1)) (aT (bj 3 (cOp bI (ah 3) E2)) (aT (bj 3 (cOp bI (ah 3) E3)) (aT (bj 3 (cOp bI (ah 3) E4)) rest)))) [r0,r1,r2,none,none,none,none,none] S=rest [r0,r1,r2,some (.ref (S.length+l)),none,none,none,none] (S++G)/\G[l]?=some (.lst ((O0 n w++O1 n w++O2 n w++O3 n w++O4 n w).map U.str)):=by
 subst h1;obtain⟨S1,hS1⟩:∃S1,S1=S++[O.lst ((O0 n w).map U.str)]:=⟨_,rfl⟩;have l1:S1.length=S.length+1:=by rw[hS1,QJ];rfl
 have g1:S1[S.length]?=some (.lst ((O0 n w).map U.str)):=by rw[hS1,ga0];rfl
 have hv:∀r3,ah 1 [r0,some (.tup [.int n,.int w]),r2,r3,none,none,none,none]=fun S=>some (.tup [.int n,.int w],S):=fun _=>rfl;have s0:bj 3 E0 [r0,some (.tup [.int n,.int w]),r2,none,none,none,none,none] S=some (.nx,[r0,some (.tup [.int n,.int w]),r2,some (.ref S.length),none,none,none,none],S1):=by
  unfold bj;rw[MR (n:=n) (w:=w),hS1];rfl
 have s1:=mG (ρ:=[r0,some (.tup [.int n,.int w]),r2,some (.ref S.length),none,none,none,none]) (vs:=O1 n w) rfl g1 MQ (Qd rfl);obtain⟨S2,hS2⟩:∃S2,S2=S1++[.lst ((O1 n w).map U.str),.lst ((O0 n w++O1 n w).map U.str)]:=⟨_,rfl⟩;have g2:S2[S1.length+1]?=some (.lst ((O0 n w++O1 n w).map U.str)):=by rw[hS2,ga];rfl
 have l2:S2.length=S1.length+2:=by rw[hS2,QJ];rfl
 rw[<-hS2]at s1;have s2:=mG (ρ:=[r0,some (.tup [.int n,.int w]),r2,some (.ref (S1.length+1)),none,none,none,none]) (vs:=O2 n w) rfl g2 (MP n0 n1 w0 w1 (hv _)) (Qd rfl);obtain⟨S3,hS3⟩:∃S3,S3=S2++[.lst ((O2 n w).map U.str),.lst ((O0 n w++O1 n w++O2 n w).map U.str)]:=⟨_,rfl⟩;have g3:S3[S2.length+1]?=some (.lst ((O0 n w++O1 n w++O2 n w).map U.str)):=by rw[hS3,ga];rfl
 have l3:S3.length=S2.length+2:=by rw[hS3,QJ];rfl
 rw[<-hS3]at s2;have s3:=mG (ρ:=[r0,some (.tup [.int n,.int w]),r2,some (.ref (S2.length+1)),none,none,none,none]) (vs:=O3 n w) rfl g3 (MO w0 w1 (hv _)) (Qd rfl);obtain⟨S4,hS4⟩:∃S4,S4=S3++[.lst ((O3 n w).map U.str),.lst ((O0 n w++O1 n w++O2 n w++O3 n w).map U.str)]:=⟨_,rfl⟩;have g4:S4[S3.length+1]?=some (.lst ((O0 n w++O1 n w++O2 n w++O3 n w).map U.str)):=by rw[hS4,ga];rfl
 have l4:S4.length=S3.length+2:=by rw[hS4,QJ];rfl
 rw[<-hS4]at s3;have s4:=mG (ρ:=[r0,some (.tup [.int n,.int w]),r2,some (.ref (S3.length+1)),none,none,none,none]) (vs:=O4 n w) rfl g4 MN (Qd rfl);refine⟨8,[.lst ((O0 n w).map U.str)]++[.lst ((O1 n w).map U.str),.lst ((O0 n w++O1 n w).map U.str)]++[.lst ((O2 n w).map U.str),.lst ((O0 n w++O1 n w++O2 n w).map U.str)]++[.lst ((O3 n w).map U.str),.lst ((O0 n w++O1 n w++O2 n w++O3 n w).map U.str)]++[.lst ((O4 n w).map U.str),.lst ((O0 n w++O1 n w++O2 n w++O3 n w++O4 n w).map U.str)],?_,rfl⟩;rw[bL s0,bL s1];dsimp only[List.set];rw[bL s2];dsimp only[List.set];rw[bL s3];dsimp only[List.set];rw[bL s4];dsimp only[List.set];rw[show S4.length+1=S.length+8 from by omega];congr 1;rw[hS4,hS3,hS2,hS1];simp only[QQ]
end
def Wt(T:Sto)(l B:Nat):Prop:=∃(ws:List Str) (k:Nat),l=k+2/\T[k]?=some (.lst (ws.map U.str))/\ws.length<=B/\∀y∈ws,WOA y
section
variable{ns:List Int}{a c n w:Int}{T G:Sto}{l m B B' B1 B2:Nat}{ρ:Rho}{e e1 e2 ca:CE}{cl ch:Option CE}{lo hi:Option Int}
theorem Wt.app(h:Wt T l B)(G:Sto):Wt (T++G) l B:=by
 obtain⟨ws,k,h1,h2,h3,h4⟩:=h;exact⟨ws,k,h1,bo h2,h3,h4⟩
theorem Wt.get(h:Wt T l B):∃ws:List Str,(scr ns::pen a c::T)[l]?=some (.lst (ws.map U.str))/\ws.length<=B/\∀y∈ws,WOA y:=by
 obtain⟨ws,k,rfl,h2,h3,h4⟩:=h;exact⟨ws,h2,h3,h4⟩
theorem Wt.new{ws:List Str}(hl:ws.length<=B)(hw:∀y∈ws,WOA y):Wt (T++[.lst (ws.map U.str)]) (T.length+2) B:=⟨ws,T.length,rfl,by rw[ga0];rfl,hl,hw⟩
def EvW(ns:List Int)(ρ:Rho)(T:Sto)(e:CE)(B:Nat):Prop:=∀(a c:Int) (G:Sto),∃l G',e ρ (scr ns::pen a c::(T++G))=some (.ref l,scr ns::pen a c::(T++G++G'))/\Wt (T++G++G') l B
theorem uy{i:Nat}(h:ρ[i]?=some (some (.ref l)))(hw:Wt T l B):EvW ns ρ T (ah i) B:=fun a c G=>⟨l,[],by rw[QN];unfold ah;rw[h],by rw[QN];exact hw.app G⟩
theorem F9(ws:List Str):∃ws':List Str,zM (ws.map U.str) lo hi=ws'.map U.str/\∀y∈ws',y∈ws:=by
 refine⟨(ws.drop (HT.sIx ws.length 0 lo)).take (HT.sIx ws.length ws.length hi-HT.sIx ws.length 0 lo),?_,fun y hy=>List.mem_of_mem_drop (List.mem_of_mem_take hy)⟩;unfold zM;rw[QV,<-List.map_drop,<-List.map_take]
def sv(us:List U):(zM us lo hi).length<=us.length:=by unfold zM;rw[List.length_take,List.length_drop];omega
theorem zK{us:List U}{i j:Nat}:(zM us (some (i:Int)) (some (j:Int))).length<=j-i:=by
 unfold zM;rw[HT.sIx_nat,HT.sIx_nat,List.length_take,List.length_drop];omega
theorem jw{e:CE}{i:Int}{S S':Sto}(h:e ρ S=some (.int i,S')):kI (some e) ρ S=some (some i,S'):=by
 show(e ρ S).bind _=_;rw[h];rfl
theorem n4(h:EvW ns ρ T ca B)(hl:∀S,kI cl ρ S=some (lo,S))(hh:∀S,kI ch ρ S=some (hi,S))(hb:∀us:List U,us.length<=B->(zM us lo hi).length<=B'):EvW ns ρ T (cSl ca cl ch) B':=fun a c G=>by
 obtain⟨l,G',e,hw⟩:=h a c G;obtain⟨ws,g,h3,h4⟩:=hw.get (ns:=ns) (a:=a) (c:=c);obtain⟨ws',ew,hm⟩:=F9 (lo:=lo) (hi:=hi) ws;have hlen:=hb (ws.map U.str) (by rw[QV];exact h3);rw[ew,QV]at hlen;refine⟨(T++G++G').length+2,G'++[.lst (ws'.map U.str)],?_,by rw[<-QQ (T++G)];exact .new hlen fun y hy=>h4 y (hm y hy)⟩;unfold cSl;rw[e,Q3];dsimp only;rw[hl,Q3];dsimp only;rw[hh,Q3];simp only[fSl,g,ew];rw[<-QQ (T++G)];rfl
theorem fX(h1:EvW ns ρ T e1 B1)(h2:EvW ns ρ T e2 B2)(hz:B1+B2<=9000):EvW ns ρ T (cOp bI e1 e2) (B1+B2):=fun a c G=>by
 obtain⟨l,G1,x1,w1⟩:=h1 a c G;obtain⟨m,G2,x2,w2⟩:=h2 a c (G++G1);rw[<-QQ]at x2 w2;have w1':=w1.app G2;obtain⟨ws1,g1,b1,c1⟩:=w1'.get (ns:=ns) (a:=a) (c:=c);obtain⟨ws2,g2,b2,c2⟩:=w2.get (ns:=ns) (a:=a) (c:=c);have ec:=jd g1 g2 (by rw[QV,QV];omega);rw[<-Qm]at ec;refine⟨(T++G++G1++G2).length+2,G1++G2++[.lst ((ws1++ws2).map U.str)],?_,by rw[<-QQ (T++G),<-QQ (T++G)];exact .new (by rw[QJ];omega) fun y hy=>(Qt.mp hy).elim (c1 y) (c2 y)⟩;unfold cOp;rw[x1,Q3];simp only[x2,Q3,ec];rw[<-QQ (T++G),<-QQ (T++G)];rfl
theorem F1{i:Nat}{y:Str}(h:ρ[i]?=some (some (.str y)))(hy:WOA y):EvW ns ρ T (b7 (ae (ah i) aB)) 1:=fun a c G=>by
 refine⟨(T++G).length+2,[.lst ([y].map U.str)],?_,.new (QU _) fun z hz=>by rw[List.mem_singleton.mp hz];exact hy⟩;have hv:∀S,ah i ρ S=some (.str y,S):=fun S=>by unfold ah;rw[h]
 generalize ah i=cv at hv ⊢;rwa[hv]
theorem Iu(h:EvW ns ρ T e B):∃l G,cm e ρ (scr ns::pen a c::T)=some (.rt (.ref l),ρ,scr ns::pen a c::(T++G))/\Wt (T++G) l B:=by
 obtain⟨l,G,x,hw⟩:=h a c [];rw[QN]at x hw;refine⟨l,G,?_,hw⟩;unfold cm;rw[x];rfl
theorem vf{t:CT}(ht:∀S,t ρ S=some (true,S))(h:EvW ns ρ T e B):∃l G,cE t (cm e) bb ρ (scr ns::pen a c::T)=some (.rt (.ref l),ρ,scr ns::pen a c::(T++G))/\Wt (T++G) l B:=by
 obtain⟨l,G,x,hw⟩:=Iu (a:=a) (c:=c) h;refine⟨l,G,?_,hw⟩;unfold cE;rw[ht];exact x
theorem nB{t:CT}{d:CS}{S:Sto}(ht:∀S,t ρ S=some (false,S)):cE t d bb ρ S=some (.nx,ρ,S):=by
 unfold cE;rw[ht];rfl
def fS:Fn:=fnU 8 3 (iB cP)
theorem q0(n0:1<=n)(n1:n<=6)(w0:2<=w)(w1:w<=1000)(ha:0<=a)(hc:0<=c)(hw:Wt T l B)(hb:B<=1000)(hne:∀ws:List Str,T[l-2]?=some (.lst (ws.map U.str))->ws≠[]):∃l' a' c' G,fS [.ref 1,.tup [.int n,.int w],.ref l] (scr ns::pen a c::T)=some (.ref l',scr ns::pen a' c'::(T++G))/\Wt (T++G) l' (2*B+2)/\0<=a'/\0<=c':=by
 obtain⟨ws,g0,h3,h4⟩:=hw.get (ns:=ns) (a:=a) (c:=c);have l1:1<=ws.length:=by
  obtain⟨ws',k,rfl,g,_,_⟩:=hw;have e:ws.map U.str=ws'.map U.str:=by
   have g0':T[k]?=some (.lst (ws.map U.str)):=g0;rw[g]at g0';injection g0' with h;injection h with h;exact h.symm
  have:=hne ws' (by rw[show k+2-2=k from by omega];exact g);have e2:=congrArg List.length e;rw[QV,QV]at e2;rw[e2];exact List.length_pos_iff.mpr this
 unfold fS;rw[Nm];unfold iB;obtain⟨lo,G0,eo,go⟩:=Fm (S:=scr ns::pen a c::T) (r0:=some (.ref 1)) (r2:=some (.ref l)) n0 n1 w0 w1 (rest:=aT (bj 4 (cCB cP (ae (ah 0) (ae (cCB gN (ae (ah 2) aB)) aB))))
  (aT (bj 5 (cOp fIx (ah 3) (cCB cP (ae (ah 0) (ae (cC (.int 38)) aB)))))
  (aT (bj 6 (cCB cP (ae (ah 0) (ae (cC (.int 7)) aB))))
  (aT (cE (aL (cOp fLt (ah 6) (cC (.int 2)))) (cm (cOp bI (cOp bI (cSl (ah 2) none (some (ah 4))) (b7 (ae (ah 5) aB))) (cSl (ah 2) (some (cOp bI (ah 4) (cC (.int 1)))) none))) bb)
  (aT (cE (aL (cOp fEq (ah 6) (cC (.int 2)))) (cm (cOp bI (cOp bI (cSl (ah 2) none (some (ah 4))) (b7 (ae (ah 5) aB))) (cSl (ah 2) (some (ah 4)) none))) bb)
  (aT (cE (aL (cOp fEq (ah 6) (cC (.int 3)))) (cm (cOp bI (cOp bI (cSl (ah 2) none (some (ah 4))) (cSl (ah 2) (some (ah 4)) (some (cOp bI (ah 4) (cC (.int 1)))))) (cSl (ah 2) (some (ah 4)) none))) bb)
  (aT (cE (aL (cOp fEq (ah 6) (cC (.int 4)))) (cm (cOp bI (cSl (ah 2) none (some (ah 4))) (cSl (ah 2) (some (cOp bI (ah 4) (cC (.int 1)))) none))) bb)
  (aT (cE (aL (cOp fEq (ah 6) (cC (.int 5)))) (aT (bj 7 (cOp bI (cSl (ah 2) (some (cOp bI (ah 4) (cC (.int 1)))) (some (cOp bI (ah 4) (cC (.int 2))))) (cSl (ah 2) (some (ah 4)) (some (cOp bI (ah 4) (cC (.int 1)))))))
  (cm (cOp bI (cOp bI (cSl (ah 2) none (some (ah 4))) (ah 7)) (cSl (ah 2) (some (cOp bI (ah 4) (cC (.int 2)))) none)))) bb)
  (cm (cOp fIx (b7 (ae (cSl (ah 2) none (some (ah 4))) (ae (cOp bI (ah 2) (b7 (ae (ah 5) aB))) aB))) (cCB cP (ae (ah 0) (ae (cC (.int 2)) aB))))))))))))) rfl
 refine(show ∀x y:Option (Out×Rho×Sto),x=y->(∃l' a' c' G,y.bind kFn=some (.ref l',scr ns::pen a' c'::(T++G))/\Wt (T++G) l' (2*B+2)/\0<=a'/\0<=c')->∃l' a' c' G,x.bind kFn=some (.ref l',scr ns::pen a' c'::(T++G))/\Wt (T++G) l' (2*B+2)/\0<=a'/\0<=c' from fun x y e h=>by rw[e];exact h) _ _ eo ?_;clear eo;rw[Qj,Qj];have els:(scr ns::pen a c::T).length+lo=T.length+lo+2:=by rw[Q5,Q5];omega
 rw[els];obtain⟨odd,hodd⟩:∃odd,odd=O0 n w++O1 n w++O2 n w++O3 n w++O4 n w:=⟨_,rfl⟩;have ho:=Fl n0 n1 w0 w1;have o38:odd.length=38:=by rw[hodd];rfl
 rw[<-hodd]at ho go;obtain⟨T1,hT1⟩:∃T1,T1=T++G0:=⟨_,rfl⟩;have w1':Wt T1 l B:=by rw[hT1];exact hw.app G0
 have go1:T1[T.length+lo]?=some (.lst (odd.map U.str)):=by
  rw[hT1,Qb (by omega),show T.length+lo-T.length=lo from by omega];exact go
 obtain⟨i,a1,c1,t1,i0,i1,ha1,hc1⟩:=cg ns T1 ha hc (m:=(ws.length:Int)) (by omega) (ZC (Nat.log2_le_self _) (by omega));obtain⟨j,a2,c2,t2,j0,j1,ha2,hc2⟩:=cg ns T1 ha1 hc1 (m:=38) (by decide) (by decide);obtain⟨v,a3,c3,t3,v0,v1,ha3,hc3⟩:=cg ns T1 ha2 hc2 (m:=7) (by decide) (by decide);obtain⟨y,hy⟩:∃y,odd[j.toNat]?=some y:=⟨_,Qr (by omega)⟩;have wy:WOA y:=ho y (ZU hy);have gl:(scr ns::pen a c::T1)[l]?=some (.lst (ws.map U.str)):=by
  obtain⟨ws',k,rfl,g,_,_⟩:=hw;have g0':T[k]?=some (.lst (ws.map U.str)):=g0;show T1[k]?=_;rw[hT1];exact bo g0'
 have t1':cP [.ref 1,.int ws.length] (scr ns::pen a c::T1)=some (.int i,scr ns::pen a1 c1::T1):=t1;have s1:bj 4 (cCB cP (ae (ah 0) (ae (cCB gN (ae (ah 2) aB)) aB))) [some (.ref 1),some (.tup [.int n,.int w]),some (.ref l),some (.ref (T.length+lo+2)),none,none,none,none] (scr ns::pen a c::T1)=some (.nx,[some (.ref 1),some (.tup [.int n,.int w]),some (.ref l),some (.ref (T.length+lo+2)),some (.int i),none,none,none],scr ns::pen a1 c1::T1):=by
  obtain⟨us,hus⟩:∃us,us=ws.map U.str:=⟨_,rfl⟩;have lu:us.length=ws.length:=by rw[hus,QV]
  rw[<-hus]at gl;rw[<-lu]at t1';generalize hS:scr ns::pen a c::T1=S at gl t1' ⊢;rwa[gl,t1']
 have s2:bj 5 (cOp fIx (ah 3) (cCB cP (ae (ah 0) (ae (cC (.int 38)) aB)))) [some (.ref 1),some (.tup [.int n,.int w]),some (.ref l),some (.ref (T.length+lo+2)),some (.int i),none,none,none] (scr ns::pen a1 c1::T1)=some (.nx,[some (.ref 1),some (.tup [.int n,.int w]),some (.ref l),some (.ref (T.length+lo+2)),some (.int i),some (.str y),none,none],scr ns::pen a2 c2::T1):=by
  have gq:(scr ns::pen a2 c2::T1)[T.length+lo+2]?=some (.lst (odd.map U.str)):=go1;have ea:atI (odd.map U.str) ((j.toNat:Nat):Int)=some (.str y):=j4 (by rw[Z0,hy];rfl);rw[Int.toNat_of_nonneg j0]at ea;generalize hS:scr ns::pen a2 c2::T1=S at gq t2 ⊢;rwa[t2,gq,ea]
 have s3:bj 6 (cCB cP (ae (ah 0) (ae (cC (.int 7)) aB))) [some (.ref 1),some (.tup [.int n,.int w]),some (.ref l),some (.ref (T.length+lo+2)),some (.int i),some (.str y),none,none] (scr ns::pen a2 c2::T1)=some (.nx,[some (.ref 1),some (.tup [.int n,.int w]),some (.ref l),some (.ref (T.length+lo+2)),some (.int i),some (.str y),some (.int v),none],scr ns::pen a3 c3::T1):=by
  rwa[t3]
 rw[<-hT1,bL s1,bL s2,bL s3];obtain⟨ρ,hρ⟩:∃ρ:Rho,ρ=[some (.ref 1),some (.tup [.int n,.int w]),some (.ref l),some (.ref (T.length+lo+2)),some (.int i),some (.str y),some (.int v),none]:=⟨_,rfl⟩;obtain⟨q,rfl⟩:∃q:Nat,i=(q:Int):=⟨i.toNat,by omega⟩;have v4:∀S,ah 4 ρ S=some (.int (q:Int),S):=fun S=>by rw[hρ];rfl
 have v6:∀S,ah 6 ρ S=some (.int v,S):=fun S=>by rw[hρ];rfl
 have p0:∀S,kI none ρ S=some (none,S):=fun S=>rfl;have p4:∀S,kI (some (ah 4)) ρ S=some (some (q:Int),S):=fun S=>jw (v4 S);have p5:∀S,kI (some (cOp bI (ah 4) (cC (.int 1)))) ρ S=some (some ((q+1:Nat):Int),S):=fun S=>by
  refine jw ?_;have:cOp bI (ah 4) (cC (.int 1)) ρ S=some (.int ((q:Int)+1),S):=by
   generalize ah 4=cv at v4 ⊢;rwa[v4]
  exact this
 have p6:∀S,kI (some (cOp bI (ah 4) (cC (.int 2)))) ρ S=some (some ((q+2:Nat):Int),S):=fun S=>by
  refine jw ?_;have:cOp bI (ah 4) (cC (.int 2)) ρ S=some (.int ((q:Int)+2),S):=by
   generalize ah 4=cv at v4 ⊢;rwa[v4]
  exact this
 have b2:ρ[2]?=some (some (.ref l)):=by rw[hρ];rfl
 have b5:ρ[5]?=some (some (.str y)):=by rw[hρ];rfl
 have x2:EvW ns ρ T1 (ah 2) B:=uy b2 w1';have x5:EvW ns ρ T1 (b7 (ae (ah 5) aB)) 1:=F1 b5 wy;have xa:EvW ns ρ T1 (cSl (ah 2) none (some (ah 4))) B:=n4 x2 p0 p4 fun us h=>Qk (sv us) h;have xb:EvW ns ρ T1 (cSl (ah 2) (some (cOp bI (ah 4) (cC (.int 1)))) none) B:=n4 x2 p5 p0 fun us h=>Qk (sv us) h;have xc:EvW ns ρ T1 (cSl (ah 2) (some (ah 4)) none) B:=n4 x2 p4 p0 fun us h=>Qk (sv us) h;have xd:EvW ns ρ T1 (cSl (ah 2) (some (ah 4)) (some (cOp bI (ah 4) (cC (.int 1))))) 1:=n4 x2 p4 p5 fun us h=>Qk zK (by omega);have xe:EvW ns ρ T1 (cSl (ah 2) (some (cOp bI (ah 4) (cC (.int 1)))) (some (cOp bI (ah 4) (cC (.int 2))))) 1:=n4 x2 p5 p6 fun us h=>Qk zK (by omega);have tlt:∀k:Int,∀S,aL (cOp fLt (ah 6) (cC (.int k))) ρ S=some (decide (v<k),S):=fun k S=>by
  generalize ah 6=cv at v6 ⊢;rwa[v6]
 have teq:∀k:Int,∀S,aL (cOp fEq (ah 6) (cC (.int k))) ρ S=some (decide (v=k),S):=fun k S=>by
  generalize ah 6=cv at v6 ⊢;rwa[v6]
 have fin:∀{C:CS} {B':Nat},B'<=2*B+2->(∃l G,C ρ (scr ns::pen a3 c3::T1)=some (.rt (.ref l),ρ,scr ns::pen a3 c3::(T1++G))/\Wt (T1++G) l B')->∀{R:CS},∃l' a' c' G,(aT C R ρ (scr ns::pen a3 c3::T1)).bind kFn=some (.ref l',scr ns::pen a' c'::(T++G))/\Wt (T++G) l' (2*B+2)/\0<=a'/\0<=c':=fun{C B'} hb ⟨l,G,h,hw⟩ {R}=>by
  refine⟨l,a3,c3,G0++G,?_,?_,ha3,hc3⟩
  ·rw[qZ h,<-QQ,<-hT1];rfl
  ·rw[<-QQ,<-hT1];obtain⟨ws,k,h1,h2,h3,h4⟩:=hw;exact⟨ws,k,h1,h2,Qk h3 hb,h4⟩
 rw[<-hρ];by_cases k1:v<2
 ·exact fin (by omega) (vf (fun S=>by rw[tlt,decide_eq_true k1]) (fX (fX xa x5 (by omega)) xb (by omega)))
 rw[bL (nB fun S=>by rw[tlt,decide_eq_false k1])];by_cases k2:v=2
 ·exact fin (by omega) (vf (fun S=>by rw[teq,decide_eq_true k2]) (fX (fX xa x5 (by omega)) xc (by omega)))
 rw[bL (nB fun S=>by rw[teq,decide_eq_false k2])];by_cases k3:v=3
 ·exact fin (by omega) (vf (fun S=>by rw[teq,decide_eq_true k3]) (fX (fX xa xd (by omega)) xc (by omega)))
 rw[bL (nB fun S=>by rw[teq,decide_eq_false k3])];by_cases k4:v=4
 ·exact fin (by omega) (vf (fun S=>by rw[teq,decide_eq_true k4]) (fX xa xb (by omega)))
 rw[bL (nB fun S=>by rw[teq,decide_eq_false k4])];by_cases k5:v=5
 ·obtain⟨l7,G7,x7,w7⟩:=fX xe xd (by omega) a3 c3 [];rw[QN]at x7 w7;obtain⟨ρ7,hρ7⟩:∃ρ7:Rho,ρ7=ρ.set 7 (some (.ref l7)):=⟨_,rfl⟩;have y2:EvW ns ρ7 (T1++G7) (ah 2) B:=uy (by rw[hρ7,hρ];rfl) (w1'.app G7);have y7:EvW ns ρ7 (T1++G7) (ah 7) 2:=uy (by rw[hρ7,hρ];rfl) w7;have q4:∀S,kI (some (ah 4)) ρ7 S=some (some (q:Int),S):=fun S=>by rw[hρ7,hρ];rfl
  have q6:∀S,kI (some (cOp bI (ah 4) (cC (.int 2)))) ρ7 S=some (some ((q+2:Nat):Int),S):=fun S=>by
   refine jw ?_;have v4':∀S,ah 4 ρ7 S=some (.int (q:Int),S):=fun S=>by rw[hρ7,hρ];rfl
   have:cOp bI (ah 4) (cC (.int 2)) ρ7 S=some (.int ((q:Int)+2),S):=by
    generalize ah 4=cv at v4' ⊢;rwa[v4']
   exact this
  have ya:EvW ns ρ7 (T1++G7) (cSl (ah 2) none (some (ah 4))) B:=n4 y2 (fun S=>rfl) q4 fun us h=>Qk (sv us) h;have yb:EvW ns ρ7 (T1++G7) (cSl (ah 2) (some (cOp bI (ah 4) (cC (.int 2)))) none) B:=n4 y2 q6 (fun S=>rfl) fun us h=>Qk (sv us) h;obtain⟨l8,G8,x8,w8⟩:=Iu (a:=a3) (c:=c3) (fX (fX ya y7 (by omega)) yb (by omega));refine⟨l8,a3,c3,G0++(G7++G8),?_,?_,ha3,hc3⟩
  ·have hs:bj 7 (cOp bI (cSl (ah 2) (some (cOp bI (ah 4) (cC (.int 1)))) (some (cOp bI (ah 4) (cC (.int 2))))) (cSl (ah 2) (some (ah 4)) (some (cOp bI (ah 4) (cC (.int 1)))))) ρ (scr ns::pen a3 c3::T1)=some (.nx,ρ7,scr ns::pen a3 c3::(T1++G7)):=by
    unfold bj;rw[x7,hρ7];rfl
   rw[qZ (c:=cE _ _ _) (v:=.ref l8) (ρ1:=ρ7) (T1:=scr ns::pen a3 c3::(T1++G7++G8)) (by
    unfold cE;rw[teq,decide_eq_true k5];exact(bL hs).trans x8)]
   rw[<-QQ T,<-QQ,<-hT1];rfl
  ·rw[<-QQ T,<-QQ,<-hT1];obtain⟨ws,k,h1,h2,h3,h4⟩:=w8;exact⟨ws,k,h1,h2,by omega,h4⟩
 rw[bL (nB fun S=>by rw[teq,decide_eq_false k5])];obtain⟨l7,G7,x7,w7⟩:=xa a3 c3 [];obtain⟨l8,G8,x8,w8⟩:=fX x2 x5 (by omega) a3 c3 G7;rw[QN]at x7 w7;obtain⟨u,a4,c4,t4,u0,u1,ha4,hc4⟩:=cg ns (T1++G7++G8++[.lst [.ref l7,.ref l8]]) ha3 hc3 (m:=2) (by decide) (by decide);have hv:∀S,ah 0 ρ S=some (.ref 1,S):=fun S=>by rw[hρ];rfl
 have hcl:b7 (ae (cSl (ah 2) none (some (ah 4))) (ae (cOp bI (ah 2) (b7 (ae (ah 5) aB))) aB)) ρ (scr ns::pen a3 c3::T1)=some (.ref (scr ns::pen a3 c3::(T1++G7++G8)).length,scr ns::pen a3 c3::(T1++G7++G8++[.lst [.ref l7,.ref l8]])):=by
  generalize cSl (ah 2) none (some (ah 4))=ce1 at x7 ⊢;generalize cOp bI (ah 2) (b7 (ae (ah 5) aB))=ce2 at x8 ⊢;rwa[x7,x8]
 have w7':Wt (T1++G7++G8++[.lst [.ref l7,.ref l8]]) l7 (2*B+2):=by
  obtain⟨ws,k,h1,h2,h3,h4⟩:=(w7.app G8).app [.lst [.ref l7,.ref l8]];exact⟨ws,k,h1,h2,by omega,h4⟩
 have w8':Wt (T1++G7++G8++[.lst [.ref l7,.ref l8]]) l8 (2*B+2):=by
  obtain⟨ws,k,h1,h2,h3,h4⟩:=w8.app [.lst [.ref l7,.ref l8]];exact⟨ws,k,h1,h2,by omega,h4⟩
 have gL:(scr ns::pen a4 c4::(T1++G7++G8++[.lst [.ref l7,.ref l8]]))[(scr ns::pen a3 c3::(T1++G7++G8)).length]?=some (.lst [.ref l7,.ref l8]):=by
  rw[Q5,Q5];show(T1++G7++G8++[O.lst [.ref l7,.ref l8]])[(T1++G7++G8).length]?=_;rw[ga0];rfl
 have eT:T++(G0++(G7++(G8++[O.lst [.ref l7,.ref l8]])))=T1++G7++G8++[O.lst [.ref l7,.ref l8]]:=by rw[hT1];simp only[QQ]
 obtain⟨lx,ex,wx⟩:∃lx,atI ([.ref l7,.ref l8]:List U) u=some (.ref lx)/\Wt (T1++G7++G8++[.lst [.ref l7,.ref l8]]) lx (2*B+2):=by
  rcases(show u=0\/u=1 from by omega)with rfl|rfl
  ·exact⟨l7,rfl,w7'⟩
  ·exact⟨l8,rfl,w8'⟩
 refine⟨lx,a4,c4,G0++(G7++(G8++[.lst [.ref l7,.ref l8]])),?_,by rw[eT];exact wx,ha4,hc4⟩;rw[eT];generalize b7 (ae (cSl (ah 2) none (some (ah 4))) (ae (cOp bI (ah 2) (b7 (ae (ah 5) aB))) aB))=ce at hcl ⊢;generalize ah 0=cv at hv ⊢;generalize (scr ns::pen a3 c3::(T1++G7++G8)).length=L at hcl gL;clear eT w7' w8' wx;generalize T1++G7++G8++[O.lst [U.ref l7,U.ref l8]]=TT at hcl t4 gL ⊢;generalize hS4:scr ns::pen a4 c4::(T1++G7++G8++[O.lst [.ref l7,.ref l8]])=S4 at t4 gL ⊢;rwa[hcl,hv,t4,gL,ex]
end
abbrev fL(cR:Cl)(CT:Addr)(f:Fn->Fn->Fn->Fn->Fn->Fn->CS):CS:=f jm fS (LwJ 4) (mB 3) cP (iE cR CT)
section
variable{cR:Cl}{CT:Addr}{ns:List Int}{a c n w:Int}{T S S1:Sto}{ρ:Rho}{l L La Lb j:Nat}{e:CE}{us:List Str}{u:U}
abbrev jdg(cR:Cl)(CT:Addr)(e:CE):CS:=cE (wV (aL (cCB (iE cR CT) (ae (ah 2) (ae (cBS kG (cC (.str " ")) (ae e aB)) aB))))) (cm (cC (.bl false))) bb
theorem JZ(hns:cR.ns.length=4)(n0:1<=n)(n1:n<=6)(w0:2<=w)(w1:w<=1000)(h2:ρ[2]?=some (some (.tup [.int n,.int w])))(he:e ρ S=some (.ref l,S1))(hg:S1[l]?=some (.lst (us.map U.str)))(hu:∀y∈us,WOA y)(hl:us.length<=450):∃G,jdg cR CT e ρ S=some (.nx,ρ,S1++G):=by
 have ej:=FK hu hl hg;obtain⟨G,er⟩:=tN (cR:=cR) (CT:=CT) (S:=S1) hns hu hl n0 n1 w0 w1;refine⟨G,?_⟩;have hv:∀S,ah 2 ρ S=some (.tup [.int n,.int w],S):=fun S=>by unfold ah;rw[h2]
 obtain⟨wd,hwd⟩:∃wd,wd=U.tup [.int n,.int w]:=⟨_,rfl⟩;rw[<-hwd]at hv er;obtain⟨tx,htx⟩:∃tx,tx=Str.join ⟨#[32]⟩ us:=⟨_,rfl⟩;rw[<-htx]at ej er;obtain⟨Y,hY⟩:∃Y,Y=S1++G:=⟨_,rfl⟩;rw[<-hY]at er ⊢;have hbs:cBS kG (cC (.str " ")) (ae e aB) ρ S=some (.str tx,S1):=by
  unfold cBS;rw[x_c,Q3];simp only[ke,he,jM,sT,jL,Q3,ej]
 unfold jdg;generalize ah 2=cv at hv ⊢;rwa[hv,hbs,er]
def wt:U:=.tup [.str "wait"]
def HG:(j:Nat)->Dl j
 |0=>.pl .wait
 |_+1=>.pl .wait
def Dv(n w:Int)(j L:Nat)(u:U):Prop:=∃ds:List (Dl j),u=.tup (ds.map (Dl.u j))/\Okr n w j ds/\(wdD j ds).length<=L
theorem tf{α:Type}{wd:List α->List Str}:∀k:Nat,(wdF wd (Q9 k (.pl .wait))).length=k
 |0=>rfl
 |k+1=>by
  rw[Qs,gQ,QJ,tf k];simp only[wdO,fH.ns,Qc,Q5,Z7];omega
theorem xN{α:Type}{wd:List α->List Str}:∀a b:List (DF α),wdF wd (a++b)=wdF wd a++wdF wd b
 |[],b=>rfl
 |d::a,b=>by rw[Qj,gQ,gQ,xN a b,QQ]
theorem Ec:∀j,Dl.u j (HG j)=wt
 |0=>rfl
 |_+1=>rfl
theorem ml(k:Nat):Dv n w j (k+2) (.tup (Q9 k wt)):=by
 refine⟨Q9 k (HG j),by rw[List.map_replicate,Ec],?_,?_⟩
 ·cases j<;>(intro d hd;rw[List.eq_of_mem_replicate hd];exact trivial)
 ·cases j with
  |zero=>exact Nat.le_of_eq ((gP (α:=Empty) (wd:=fun _=>[]) _).trans (congrArg (· + 2) (tf k)))
  |succ j=>exact Nat.le_of_eq ((gP (α:=Dl j) (wd:=wdD j) _).trans (congrArg (· + 2) (tf k)))
theorem Ea{α:Type}{wd:List α->List Str}(a b:List (DF α)):(wdL wd (a++b)).length<=(wdL wd a).length+(wdL wd b).length:=by
 rw[gP,gP,gP,xN,QJ];omega
theorem zB{a b:U}(ha:Dv n w j La a)(hb:Dv n w j Lb b):Dv n w (j+1) (La+Lb+3) (.tup [.tup [.str "try",a,b]]):=by
 obtain⟨da,rfl,oa,la⟩:=ha;obtain⟨db,rfl,ob,lb⟩:=hb;refine⟨[.tr da db],rfl,fun d hd=>by rw[List.mem_singleton.mp hd];exact⟨oa,ob⟩,?_⟩;show(wdL (wdD j) [.tr da db]).length<=_;rw[gP];simp only[wdF,Q5,QJ,Z7];omega
theorem Di{a b:List U}(ha:Dv n w (j+1) La (.tup a))(hb:Dv n w (j+1) Lb (.tup b)):Dv n w (j+1) (La+Lb) (.tup (a++b)):=by
 obtain⟨da,ea,oa,la⟩:=ha;obtain⟨db,eb,ob,lb⟩:=hb;injection ea with ea;injection eb with eb;exact⟨da++db,by rw[ea,eb,Qm],fun d hd=>(Qt.mp hd).elim (oa d) (ob d),Qk (Ea (α:=Dl j) (wd:=wdD j) da db) (Nat.add_le_add la lb)⟩
theorem Dv.le(h:Dv n w j La u)(hl:La<=Lb):Dv n w j Lb u:=by
 obtain⟨ds,h1,h2,h3⟩:=h;exact⟨ds,h1,h2,Qk h3 hl⟩
theorem vG{p:U}:∀k:Nat,(Q9 k [p]).flatten=Q9 k p
 |0=>rfl
 |k+1=>by rw[Qs,ZH,vG k,Qs];rfl
theorem ph{k:Int}(k0:0<=k)(k1:k<=100)(S:Sto):iM (.tup [wt]) (.int k) S=some (.tup (Q9 k.toNat wt),S):=by
 by_cases h:k=0
 ·subst h;unfold iM;dsimp only;rw[if_pos rfl,if_pos (Qh _ _)];rfl
 ·simp only[iM,BU];rw[if_neg h,if_pos ⟨Qh _ _,by omega,by simp;omega⟩,vG]
theorem yY{i:Nat}(hns:cR.ns.length=4)(n0:1<=n)(n1:n<=6)(w0:2<=w)(w1:w<=1000)(h2:ρ[2]?=some (some (.tup [.int n,.int w])))(hi:ρ[i]?=some (some u))(hd:Dv n w j L u)(hj:j<=4)(hL:L<=450):∃G,jdg cR CT (cCB (LwJ 4) (ae (ah i) aB)) ρ S=some (.nx,ρ,S++G):=by
 obtain⟨ds,rfl,ok,hl⟩:=hd;obtain⟨l,G,e,g⟩:=yN n1 w1 4 j hj ds S ok (by omega);have hv:∀S,ah i ρ S=some (.tup (ds.map (Dl.u j)),S):=fun S=>by unfold ah;rw[hi]
 have he:cCB (LwJ 4) (ae (ah i) aB) ρ S=some (.ref l,S++G):=by
  generalize U.tup (ds.map (Dl.u j))=v at e hv;generalize ah i=cv at hv ⊢;rwa[hv,e]
 obtain⟨G2,ej⟩:=JZ (CT:=CT) hns n0 n1 w0 w1 h2 he g (sZ n1 w1 j ds ok) (by omega);exact⟨G++G2,by rw[ej,QQ]⟩
theorem Mi(h:(scr ns::pen a c::T)[l]?=some (.lst (us.map U.str)))(hn:us≠[])(hu:∀y∈us,WOA y)(hl:us.length<=L):Wt T l L:=by
 obtain⟨y,r,rfl⟩:∃y r,us=y::r:=by cases us with
  |nil=>exact absurd rfl hn
  |cons y r=>exact⟨y,r,rfl⟩
 cases l with
 |zero=>
  have h':scr ns=.lst ((y::r).map U.str):=Option.some.inj h;injection h' with h';cases ns with
  |nil=>cases h'
  |cons x s=>injection h' with h1 _;cases h1
 |succ l=>
  cases l with
  |zero=>
   have h':pen a c=.lst ((y::r).map U.str):=Option.some.inj h;injection h' with h';injection h' with h1 _;cases h1
  |succ l=>exact⟨y::r,l,rfl,h,hl,hu⟩
theorem qW(hns:cR.ns.length=4)(n0:1<=n)(n1:n<=6)(w0:2<=w)(w1:w<=1000)(ns:List Int):∀(us:List U) (T:Sto) (a c:Int) (r3 r4 r5 r6 r7 r8 r9 r10:Option U),0<=a->0<=c->
  ∃r3' r4' a' c' G,d7 (fun _=>True) (gNm 3) (fL cR CT oh) us [none,some (.ref 1),some (.tup [.int n,.int w]),r3,r4,r5,r6,r7,r8,r9,r10] (scr ns::pen a c::T)=some (.nx,[none,some (.ref 1),some (.tup [.int n,.int w]),r3',r4',r5,r6,r7,r8,r9,r10],scr ns::pen a' c'::(T++G))/\0<=a'/\0<=c'
 |[],T,a,c,r3,r4,r5,r6,r7,r8,r9,r10,ha,hc=>⟨r3,r4,a,c,[],by rw[QN];exact eD trivial,ha,hc⟩
 |u::us,T,a,c,r3,r4,r5,r6,r7,r8,r9,r10,ha,hc=>by
  obtain⟨ds,a1,c1,G1,e1,kd,sz,_,ha1,hc1,_⟩:=vK n0 n1 w0 w1 3 3 3 (by omega) (by omega) ns T a c 12 ha hc (by omega) (by omega);have hlen:=tu (n:=n) (w:=w) 3 ds kd;obtain⟨l,G2,e2,g2⟩:=yN n1 w1 4 3 (by omega) ds (scr ns::pen a1 c1::(T++G1)) (vm 3 ds kd) (by omega);rw[Qj,Qj]at e2 g2;have wt1:Wt (T++G1++G2) l 62:=Mi g2 (Qh _ _) (sZ n1 w1 3 ds (vm 3 ds kd)) (by omega);obtain⟨l3,a3,c3,G3,e3,wt3,ha3,hc3⟩:=q0 (ns:=ns) n0 n1 w0 w1 ha1 hc1 wt1 (by omega) (fun ws hws=>by
   obtain⟨ws',k,rfl,g,_,_⟩:=wt1;have g2':(T++G1++G2)[k]?=some (.lst ((wdD 3 ds).map U.str)):=g2;rw[show k+2-2=k from by omega,g2']at hws;injection hws with h;injection h with h;intro z;rw[z]at h;exact absurd (ZD.mp h) Cy)
  have c3':((3:Nat):Int)=3:=rfl;rw[c3']at e1;obtain⟨T3,hT3⟩:∃T3,T3=T++G1++G2++G3:=⟨_,rfl⟩;rw[<-hT3]at e3 wt3;have s1:bj 4 (cCB fS (ae (ah 1) (ae (ah 2) (ae (cCB (LwJ 4) (ae (cCB (mB 3) (ae (ah 1) (ae (ah 2) (ae (cC (.int 12)) (ae (cC (.int 3)) aB))))) aB)) aB)))) [none,some (.ref 1),some (.tup [.int n,.int w]),some u,r4,r5,r6,r7,r8,r9,r10] (scr ns::pen a c::T)=some (.nx,[none,some (.ref 1),some (.tup [.int n,.int w]),some u,some (.ref l3),r5,r6,r7,r8,r9,r10],scr ns::pen a3 c3::T3):=by
   generalize U.tup (ds.map (Dl.u 3))=x at e1 e2;generalize U.tup [.int n,.int w]=wd at e1 e3 ⊢;generalize scr ns::pen a3 c3::T3=Z3 at e3 ⊢;generalize scr ns::pen a1 c1::(T++G1++G2)=Z2 at e2 e3;generalize scr ns::pen a1 c1::(T++G1)=Z1 at e1 e2;rwa[e1,e2,e3]
  obtain⟨ws,g3,lw,hw⟩:=wt3.get (ns:=ns) (a:=a3) (c:=c3);have s2:∃l4 a4 c4 G4,cE (qu (aL (cOp (sR true) (ah 4) (b7 aB))) (aL (cOp fEq (cCB cP (ae (ah 1) (ae (cC (.int 3)) aB))) (cC (.int 0))))) (bj 4 (cCB fS (ae (ah 1) (ae (ah 2) (ae (ah 4) aB))))) bb [none,some (.ref 1),some (.tup [.int n,.int w]),some u,some (.ref l3),r5,r6,r7,r8,r9,r10] (scr ns::pen a3 c3::T3)=some (.nx,[none,some (.ref 1),some (.tup [.int n,.int w]),some u,some (.ref l4),r5,r6,r7,r8,r9,r10],scr ns::pen a4 c4::(T3++G4))/\Wt (T3++G4) l4 450/\0<=a4/\0<=c4:=by
   have el:∀ρ:Rho,b7 aB ρ (scr ns::pen a3 c3::T3)=some (.ref (scr ns::pen a3 c3::T3).length,scr ns::pen a3 c3::(T3++[.lst []])):=fun ρ=>rfl;have g4:(scr ns::pen a3 c3::(T3++[.lst []]))[l3]?=some (.lst (ws.map U.str)):=by
    obtain⟨ws',k,rfl,g,_,_⟩:=wt3;have g3':T3[k]?=some (.lst (ws.map U.str)):=g3;show(T3++[O.lst []])[k]?=_;exact bo g3'
   have g5:(scr ns::pen a3 c3::(T3++[.lst []]))[(scr ns::pen a3 c3::T3).length]?=some (.lst []):=by
    rw[Q5,Q5];show(T3++[O.lst []])[T3.length]?=_;rw[ga0];rfl
   have wt4:Wt (T3++[.lst []]) l3 450:=by
    obtain⟨ws',k,h1,h2,h3,h4⟩:=wt3.app [.lst []];exact⟨ws',k,h1,h2,by omega,h4⟩
   by_cases hne:ws=[]
   ·subst hne;have eq:sR true (.ref l3) (.ref (scr ns::pen a3 c3::T3).length) (scr ns::pen a3 c3::(T3++[.lst []]))=some (.bl false,scr ns::pen a3 c3::(T3++[.lst []])):=(qy.lst (k:=0) g4 g5 .nil).ne (by omega);refine⟨l3,a3,c3,[.lst []],?_,wt4,ha3,hc3⟩;generalize b7 aB=cl at el ⊢;generalize (scr ns::pen a3 c3::T3).length=q at el eq;generalize scr ns::pen a3 c3::(T3++[O.lst []])=Z at el eq ⊢;rwa[el,eq]
   ·have eq:=nX (x:=.ref l3) (y:=.ref (scr ns::pen a3 c3::T3).length) (S:=scr ns::pen a3 c3::(T3++[.lst []])) true (.inr ⟨_,_,_,_,rfl,rfl,g4,g5,by rw[QV];exact fun z=>hne (List.length_eq_zero_iff.mp z),rfl⟩);rw[if_pos rfl,Bool.not_false]at eq;obtain⟨i,a4,c4,t4,i0,i1,ha4,hc4⟩:=cg ns (T3++[.lst []]) ha3 hc3 (m:=3) (by decide) (by decide);by_cases hi:i=0
    ·subst hi;have d1:decide ((0:Int)=0)=true:=decide_eq_true rfl;obtain⟨ws',k,h1,h2,h3,h4⟩:=wt4;have wt5:Wt (T3++[.lst []]) l3 126:=by
      obtain⟨ws',k,h1,h2,h3,h4⟩:=wt3.app [.lst []];exact⟨ws',k,h1,h2,by omega,h4⟩
     obtain⟨l5,a5,c5,G5,e5,wt6,ha5,hc5⟩:=q0 (ns:=ns) n0 n1 w0 w1 ha4 hc4 wt5 (by omega) (fun ws2 hws=>by
      subst h1;have g4':(T3++[O.lst []])[k]?=some (.lst (ws.map U.str)):=g4;rw[show k+2-2=k from by omega,g4']at hws;injection hws with h;injection h with h;intro z;rw[z]at h;exact hne (ZD.mp h))
     rw[QQ]at e5 wt6;refine⟨l5,a5,c5,[.lst []]++G5,?_,?_,ha5,hc5⟩
     ·generalize b7 aB=cl at el ⊢;generalize (scr ns::pen a3 c3::T3).length=q at el eq;generalize U.tup [.int n,.int w]=wd at e5 ⊢;generalize scr ns::pen a3 c3::(T3++[O.lst []])=Z at el eq t4 ⊢;generalize scr ns::pen a5 c5::(T3++([O.lst []]++G5))=Z5 at e5 ⊢;have t4':cP [.ref 1,.int 3] Z=some (.int 0,scr ns::pen a4 c4::(T3++[.lst []])):=t4;generalize scr ns::pen a4 c4::(T3++[O.lst []])=Z4 at t4' e5;rwa[el,eq,t4',d1,e5]
     ·obtain⟨ws',k,h1,h2,h3,h4⟩:=wt6;exact⟨ws',k,h1,h2,by omega,h4⟩
    ·have d1:decide (i=0)=false:=decide_eq_false hi;refine⟨l3,a4,c4,[.lst []],?_,wt4,ha4,hc4⟩;generalize b7 aB=cl at el ⊢;generalize (scr ns::pen a3 c3::T3).length=q at el eq;generalize scr ns::pen a3 c3::(T3++[O.lst []])=Z at el eq t4 ⊢;have t4':cP [.ref 1,.int 3] Z=some (.int i,scr ns::pen a4 c4::(T3++[.lst []])):=t4;generalize scr ns::pen a4 c4::(T3++[O.lst []])=Z4 at t4' ⊢;rwa[el,eq,t4',d1]
  obtain⟨l4,a4,c4,G4,e4,wt4,ha4,hc4⟩:=s2;obtain⟨ws4,g4,lw4,hw4⟩:=wt4.get (ns:=ns) (a:=a4) (c:=c4);obtain⟨G5,e5⟩:=JZ (CT:=CT) (e:=ah 4) (ρ:=[none,some (.ref 1),some (.tup [.int n,.int w]),some u,some (.ref l4),r5,r6,r7,r8,r9,r10]) (S:=scr ns::pen a4 c4::(T3++G4)) hns n0 n1 w0 w1 rfl rfl g4 hw4 lw4;rw[Qj,Qj]at e5;obtain⟨r3',r4',a6,c6,G6,ih,ha6,hc6⟩:=qW hns n0 n1 w0 w1 ns us (T3++G4++G5) a4 c4 (some u) (some (.ref l4)) r5 r6 r7 r8 r9 r10 ha4 hc4;refine⟨r3',r4',a6,c6,G1++G2++G3++G4++G5++G6,(bM trivial rfl ?_).trans (ih.trans ?_),ha6,hc6⟩
  ·show oh jm fS (LwJ 4) (mB 3) cP (iE cR CT) [none,some (.ref 1),some (.tup [.int n,.int w]),some u,r4,r5,r6,r7,r8,r9,r10] _=_;unfold oh;rw[bL s1,bL e4];exact e5
  ·rw[hT3];simp only[QQ]
theorem rD(hns:cR.ns.length=4)(n0:1<=n)(n1:n<=6)(w0:2<=w)(w1:w<=1000)(ns:List Int):∀(us:List U) (T:Sto) (a c:Int) (j L:Nat) (x:U) (r3 r4 r7 r8 r9 r10:Option U),0<=a->0<=c->j+us.length<=5->L+7*us.length<=450->Dv n w j L x->
  ∃r7' x' a' c' G,d7 (fun _=>True) (gNm 7) (fL cR CT og) us [none,some (.ref 1),some (.tup [.int n,.int w]),r3,r4,some (.tup [wt]),some x,r7,r8,r9,r10] (scr ns::pen a c::T)=some (.nx,[none,some (.ref 1),some (.tup [.int n,.int w]),r3,r4,some (.tup [wt]),some x',r7',r8,r9,r10],scr ns::pen a' c'::(T++G))/\0<=a'/\0<=c'
 |[],T,a,c,j,L,x,r3,r4,r7,r8,r9,r10,ha,hc,_,_,_=>⟨r7,x,a,c,[],by rw[QN];exact eD trivial,ha,hc⟩
 |u::us,T,a,c,j,L,x,r3,r4,r7,r8,r9,r10,ha,hc,hj,hL,hx=>by
  rw[Q5]at hj hL;obtain⟨G1,e1⟩:=yY (CT:=CT) (i:=6) (ρ:=[none,some (.ref 1),some (.tup [.int n,.int w]),r3,r4,some (.tup [wt]),some x,some u,r8,r9,r10]) (S:=scr ns::pen a c::T) hns n0 n1 w0 w1 rfl rfl hx (by omega) (by omega);rw[Qj,Qj]at e1;obtain⟨i,a1,c1,t1,i0,i1,ha1,hc1⟩:=cg ns (T++G1) ha hc (m:=3) (by decide) (by decide);have em:=ph (k:=i) i0 (by omega);have hy:=zB hx (ml (n:=n) (w:=w) (j:=j) i.toNat);obtain⟨y,hyy⟩:∃y,y=U.tup [.tup [.str "try",x,.tup (Q9 i.toNat wt)]]:=⟨_,rfl⟩;rw[<-hyy]at hy;obtain⟨r7',x',a2,c2,G2,ih,ha2,hc2⟩:=rD hns n0 n1 w0 w1 ns us (T++G1) a1 c1 (j+1) (L+7) y r3 r4 (some u) r8 r9 r10 ha1 hc1 (by omega) (by omega) (hy.le (by omega));refine⟨r7',x',a2,c2,G1++G2,(bM trivial rfl ?_).trans (ih.trans ?_),ha2,hc2⟩
  ·show og jm fS (LwJ 4) (mB 3) cP (iE cR CT) [none,some (.ref 1),some (.tup [.int n,.int w]),r3,r4,some (.tup [wt]),some x,some u,r8,r9,r10] _=_;unfold og;rw[bL e1,hyy];generalize Q9 i.toNat wt=rr at em ⊢;generalize U.tup [wt]=p at em ⊢;rwa[t1,em]
  ·simp only[QQ]
theorem vP(hns:cR.ns.length=4)(n0:1<=n)(n1:n<=6)(w0:2<=w)(w1:w<=1000){vs:List U}:∀(us:List U) (S:Sto) (r1 r3 r4 r5 r6 r7 r8 r9 r10:Option U),S[l]?=some (.lst vs)->(∀u∈us,∃j L,j<=4/\L<=450/\Dv n w j L u)->
  ∃r10' G,d7 (fun S=>S[l]?=some (.lst vs)) (gNm 10) (fL cR CT Aa) us [none,r1,some (.tup [.int n,.int w]),r3,r4,r5,r6,r7,r8,r9,r10] S=some (.nx,[none,r1,some (.tup [.int n,.int w]),r3,r4,r5,r6,r7,r8,r9,r10'],S++G)
 |[],S,r1,r3,r4,r5,r6,r7,r8,r9,r10,h,_=>⟨r10,[],by rw[QN];exact eD h⟩
 |u::us,S,r1,r3,r4,r5,r6,r7,r8,r9,r10,h,hu=>by
  obtain⟨j,L,hj,hL,hd⟩:=hu u QY;obtain⟨G1,e1⟩:=yY (CT:=CT) (i:=10) (ρ:=[none,r1,some (.tup [.int n,.int w]),r3,r4,r5,r6,r7,r8,r9,some u]) (S:=S) hns n0 n1 w0 w1 rfl rfl hd hj hL;obtain⟨r10',G2,ih⟩:=vP hns n0 n1 w0 w1 us (S++G1) r1 r3 r4 r5 r6 r7 r8 r9 (some u) (bo h) fun v hv=>hu v (QZ _ hv);exact⟨r10',G1++G2,(bM h rfl e1).trans (ih.trans (by rw[QQ]))⟩
theorem rN(hns:cR.ns.length=4)(n0:1<=n)(n1:n<=6)(w0:2<=w)(w1:w<=1000)(ns:List Int):∀(us:List U) (T:Sto) (a c:Int) (r3 r4 r6 r7 r8 r9 r10:Option U),0<=a->0<=c->(∀u∈us,∃m:Int,u=.int m/\1<=m/\m<=13)->
  ∃r8' r9' r10' a' c' G,d7 (fun _=>True) (gNm 8) (fL cR CT n9) us [none,some (.ref 1),some (.tup [.int n,.int w]),r3,r4,some (.tup [wt]),r6,r7,r8,r9,r10] (scr ns::pen a c::T)=some (.nx,[none,some (.ref 1),some (.tup [.int n,.int w]),r3,r4,some (.tup [wt]),r6,r7,r8',r9',r10'],scr ns::pen a' c'::(T++G))/\0<=a'/\0<=c'
 |[],T,a,c,r3,r4,r6,r7,r8,r9,r10,ha,hc,_=>⟨r8,r9,r10,a,c,[],by rw[QN];exact eD trivial,ha,hc⟩
 |u::us,T,a,c,r3,r4,r6,r7,r8,r9,r10,ha,hc,hu=>by
  obtain⟨m,rfl,m0,m1⟩:=hu u QY;obtain⟨i,a1,c1,t1,i0,i1,ha1,hc1⟩:=cg ns T ha hc (m:=3) (by decide) (by decide);obtain⟨s,a2,c2,t2,s0,s1,ha2,hc2⟩:=cg ns T ha1 hc1 (m:=4) (by decide) (by decide);have m12:=ph (k:=12) (by decide) (by decide);have mm:=ph (k:=m) (by omega) (by omega);have mi:=ph (k:=i) (by omega) (by omega);have m10:=ph (k:=10) (by decide) (by decide);have ms:=ph (k:=s) (by omega) (by omega);have d12:=ml (n:=n) (w:=w) (j:=0) (12:Int).toNat;have dm:=ml (n:=n) (w:=w) (j:=0) m.toNat;have dm1:=ml (n:=n) (w:=w) (j:=1) m.toNat;have di:=ml (n:=n) (w:=w) (j:=0) i.toNat;have d10:=ml (n:=n) (w:=w) (j:=0) (10:Int).toNat;have ds:=ml (n:=n) (w:=w) (j:=1) s.toNat;have th:Dv n w 1 60 (.tup [.tup [.str "try",.tup (Q9 (12:Int).toNat wt),.tup (Q9 m.toNat wt)],.tup [.str "try",.tup (Q9 i.toNat wt),.tup (Q9 (10:Int).toNat wt)]]):=Dv.le (Di (j:=0) (zB d12 dm) (zB di d10)) (by omega);have th2:=Di (j:=0) th ds;obtain⟨yp,hyp⟩:∃yp,yp=U.tup (Q9 m.toNat wt):=⟨_,rfl⟩;obtain⟨tt,htt⟩:∃tt:List U,tt=[.tup [.str "try",.tup (Q9 (12:Int).toNat wt),.tup (Q9 m.toNat wt)],.tup [.str "try",.tup (Q9 i.toNat wt),.tup (Q9 (10:Int).toNat wt)]]:=⟨_,rfl⟩;rw[<-htt]at th th2;have ead:∀S,bI (.tup tt) (.tup (Q9 s.toNat wt)) S=some (.tup (tt++Q9 s.toNat wt),S):=fun S=>Gd (by rw[htt,ZP];simp;omega);obtain⟨z,hz⟩:∃z,z=U.tup (tt++Q9 s.toNat wt):=⟨_,rfl⟩;rw[<-hz]at th2 ead;rw[<-hyp]at dm1;obtain⟨vs,hvs⟩:∃vs:List U,vs=[yp,.tup tt,z]:=⟨_,rfl⟩;have hS:∃S,S=scr ns::pen a2 c2::(T++[.lst vs]):=⟨_,rfl⟩;obtain⟨S,hS⟩:=hS;have gS:S[T.length+2]?=some (.lst vs):=by
   rw[hS];show(T++[O.lst vs])[T.length]?=_;rw[ga0];rfl
  obtain⟨r10',G1,e1⟩:=vP (CT:=CT) (cR:=cR) (n:=n) (w:=w) hns n0 n1 w0 w1 vs S (some (.ref 1)) r3 r4 (some (.tup [wt])) r6 r7 (some (.int m)) (some (.tup tt)) r10 gS (fun u hu=>by
   rw[hvs]at hu;simp only[Qz,Qo,or_false]at hu;rcases hu with rfl|rfl|rfl
   ·exact⟨1,_,by decide,by omega,dm1⟩
   ·exact⟨1,_,by decide,by omega,th⟩
   ·exact⟨1,_,by decide,by omega,th2⟩)
  have e1':S++G1=scr ns::pen a2 c2::(T++([.lst vs]++G1)):=by rw[hS,Qj,Qj,QQ]
  rw[e1']at e1;obtain⟨r8',r9',r10'',a3,c3,G2,ih,ha3,hc3⟩:=rN hns n0 n1 w0 w1 ns us (T++([.lst vs]++G1)) a2 c2 r3 r4 r6 r7 (some (.int m)) (some (.tup tt)) r10' ha2 hc2 fun u hm=>hu u (QZ _ hm);refine⟨r8',r9',r10'',a3,c3,[.lst vs]++G1++G2,(bM trivial rfl ?_).trans (ih.trans ?_),ha3,hc3⟩
  ·show n9 jm fS (LwJ 4) (mB 3) cP (iE cR CT) [none,some (.ref 1),some (.tup [.int n,.int w]),r3,r4,some (.tup [wt]),r6,r7,some (.int m),r9,r10] _=_;unfold n9;have q1:bj 9 (fY (ae (fY (ae (cC (.str "try")) (ae (cOp iM (ah 5) (cC (.int 12))) (ae (cOp iM (ah 5) (ah 8)) aB)))) (ae (fY (ae (cC (.str "try")) (ae (cOp iM (ah 5) (cCB cP (ae (ah 1) (ae (cC (.int 3)) aB)))) (ae (cOp iM (ah 5) (cC (.int 10))) aB)))) aB))) [none,some (.ref 1),some (.tup [.int n,.int w]),r3,r4,some (.tup [wt]),r6,r7,some (.int m),r9,r10] (scr ns::pen a c::T)=some (.nx,[none,some (.ref 1),some (.tup [.int n,.int w]),r3,r4,some (.tup [wt]),r6,r7,some (.int m),some (.tup tt),r10],scr ns::pen a1 c1::T):=by
    rw[htt];generalize Q9 (12:Int).toNat wt=x12 at m12 ⊢;generalize Q9 (10:Int).toNat wt=x10 at m10 ⊢;generalize Q9 m.toNat wt=xm at mm ⊢;generalize Q9 i.toNat wt=xi at mi ⊢;generalize U.tup [wt]=p at m12 m10 mm mi ⊢;rwa[m12,m10,mm,mi,t1]
   rw[bL q1];have q2:b7 (ae (cOp iM (ah 5) (ah 8)) (ae (ah 9) (ae (cOp bI (ah 9) (cOp iM (ah 5) (cCB cP (ae (ah 1) (ae (cC (.int 4)) aB))))) aB))) [none,some (.ref 1),some (.tup [.int n,.int w]),r3,r4,some (.tup [wt]),r6,r7,some (.int m),some (.tup tt),r10] (scr ns::pen a1 c1::T)=some (.ref (T.length+2),S):=by
    rw[hS,hvs,hyp];generalize Q9 m.toNat wt=xm at mm ⊢;generalize Q9 s.toNat wt=xs at ms ead ⊢;generalize U.tup tt=ut at ead ⊢;generalize U.tup [wt]=p at ms mm ⊢;rwa[mm,ms,t2,ead]
   unfold gO iTp;rw[q2,Q3];simp only[gS,Q3];exact e1
  ·simp only[QQ]
theorem JN(hns:cR.ns.length=4)(ns:List Int)(a c:Int)(ha:0<=a)(hc:0<=c):∃ρ' S',(fL cR CT zU) [none,some (.ref 1),none,none,none,none,none,none,none,none,none] [.lst (ns.map U.int),.lst [.ref 0,.int a,.int c]]=some (.rt (.bl true),ρ',S'):=by
 obtain⟨n,w,a1,c1,G,e1,n0,n1,w0,w1,ha1,hc1⟩:=AH ns [] ha hc;rw[Qi]at e1;obtain⟨r3,r4,a2,c2,G2,e2,ha2,hc2⟩:=qW (CT:=CT) hns n0 n1 w0 w1 ns (fV 0 6) G a1 c1 none none none none none none none none ha1 hc1;obtain⟨r7,x,a3,c3,G3,e3,ha3,hc3⟩:=rD (CT:=CT) hns n0 n1 w0 w1 ns (fV 0 5) (G++G2) a2 c2 0 3 (.tup [wt]) r3 r4 none none none none ha2 hc2 (by decide) (by decide) (ml 1);obtain⟨r8,r9,r10,a4,c4,G4,e4,ha4,hc4⟩:=rN (CT:=CT) hns n0 n1 w0 w1 ns (fV 11 3) (G++G2++G3) a3 c3 r3 r4 (some x) r7 none none none ha3 hc3 (fun u hu=>by
  have e:fV 11 3=[.int 11,.int 12,.int 13]:=rfl;rw[e]at hu;simp only[Qz,Qo,or_false]at hu;rcases hu with rfl|rfl|rfl
  ·exact⟨11,rfl,by decide,by decide⟩
  ·exact⟨12,rfl,by decide,by decide⟩
  ·exact⟨13,rfl,by decide,by decide⟩)
 refine⟨[none,some (.ref 1),some (.tup [.int n,.int w]),r3,r4,some (.tup [wt]),some x,r7,r8,r9,r10],scr ns::pen a4 c4::(G++G2++G3++G4),?_⟩;have q1:ib (ae (cC (.int 6)) aB)=fun ρ S=>some (fV 0 6,fun _=>True,S):=rfl;have q2:ib (ae (cC (.int 5)) aB)=fun ρ S=>some (fV 0 5,fun _=>True,S):=rfl;have q3:h9 (ae (cC (.int 11)) (ae (cC (.int 14)) aB))=fun ρ S=>some (fV 11 3,fun _=>True,S):=rfl;have s0:bj 2 (cCB jm (ae (ah 1) aB)) [none,some (.ref 1),none,none,none,none,none,none,none,none,none] (scr ns::pen a c::[])=some (.nx,[none,some (.ref 1),some (.tup [.int n,.int w]),none,none,none,none,none,none,none,none],scr ns::pen a1 c1::G):=by
  rwa[e1]
 have s1:gO (ib (ae (cC (.int 6)) aB)) (gNm 3) (fL cR CT oh) [none,some (.ref 1),some (.tup [.int n,.int w]),none,none,none,none,none,none,none,none] (scr ns::pen a1 c1::G)=some (.nx,[none,some (.ref 1),some (.tup [.int n,.int w]),r3,r4,none,none,none,none,none,none],scr ns::pen a2 c2::(G++G2)):=by
  unfold gO;rw[q1];exact e2
 have s2:bj 5 (fY (ae (fY (ae (cC (.str "wait")) aB)) aB)) [none,some (.ref 1),some (.tup [.int n,.int w]),r3,r4,none,none,none,none,none,none] (scr ns::pen a2 c2::(G++G2))=some (.nx,[none,some (.ref 1),some (.tup [.int n,.int w]),r3,r4,some (.tup [wt]),none,none,none,none,none],scr ns::pen a2 c2::(G++G2)):=rfl;have s3:bj 6 (ah 5) [none,some (.ref 1),some (.tup [.int n,.int w]),r3,r4,some (.tup [wt]),none,none,none,none,none] (scr ns::pen a2 c2::(G++G2))=some (.nx,[none,some (.ref 1),some (.tup [.int n,.int w]),r3,r4,some (.tup [wt]),some (.tup [wt]),none,none,none,none],scr ns::pen a2 c2::(G++G2)):=rfl;have s4:gO (ib (ae (cC (.int 5)) aB)) (gNm 7) (fL cR CT og) [none,some (.ref 1),some (.tup [.int n,.int w]),r3,r4,some (.tup [wt]),some (.tup [wt]),none,none,none,none] (scr ns::pen a2 c2::(G++G2))=some (.nx,[none,some (.ref 1),some (.tup [.int n,.int w]),r3,r4,some (.tup [wt]),some x,r7,none,none,none],scr ns::pen a3 c3::(G++G2++G3)):=by
  unfold gO;rw[q2];exact e3
 have s5:gO (h9 (ae (cC (.int 11)) (ae (cC (.int 14)) aB))) (gNm 8) (fL cR CT n9) [none,some (.ref 1),some (.tup [.int n,.int w]),r3,r4,some (.tup [wt]),some x,r7,none,none,none] (scr ns::pen a3 c3::(G++G2++G3))=some (.nx,[none,some (.ref 1),some (.tup [.int n,.int w]),r3,r4,some (.tup [wt]),some x,r7,r8,r9,r10],scr ns::pen a4 c4::(G++G2++G3++G4)):=by
  unfold gO;rw[q3];exact e4
 show zU jm fS (LwJ 4) (mB 3) cP (iE cR CT) _ (scr ns::pen a c::[])=_;unfold zU;rw[bL s0,bL s1,bL s2,bL s3,bL s4,bL s5];rfl
end
end OL
namespace OP
open PySem PySem.Spec PyProof PyProof.Rows L2 OG
section
variable{X:Cx}{v1 e:QK}{fp pos:Pos}{x1:Str}{te:TE}
def NU(x1:Str)(te:TE):TE:=fun σ H Q=>te σ H fun v H1=>∃i,v=.int i/\(0<=i/\i<1000)/\Q (.str (x1++Str.ofString (toString i))) H1
theorem Jl(l1:x1.length<=500)(h1:PE X v1 (tC (.str x1)))(he:PE X e te):PE X (.JoinedStr [v1,.FormattedValue e (-1) none fp] pos) (NU x1 te):=by
 intro pins s σ H Q I h;have big:(2000:Nat)<=QB:=by unfold QB;decide
 refine wpAny_JoinedStr (Joins_cons (thn (h1 pins s σ H (fun v H1=>v=.str x1/\NU x1 te σ H1 Q) I ⟨rfl,h⟩) fun v s1 hz=>?_));obtain⟨y,H1,I1,r1,rfl,h⟩:=hz;obtain⟨t1,rfl⟩:=(show ∃t,v=Value.str x1 t from r1);have hs0:(Str.empty++x1).length=x1.length:=by rw[Str.length_append];exact Nat.zero_add _
 refine⟨x1,t1,rfl,by omega,Joins_cons (wpAny_FormattedValue_plain (thn (he pins s1 σ H1 _ I1 h) fun w s2 hz=>?_))⟩;obtain⟨z,H2,I2,r2,i,rfl,⟨i0,i1⟩,q⟩:=hz;obtain⟨t2,rfl⟩:=(show ∃t,w=Value.int i t from r2);have dl:=F5 i0 i1;have hlog:i.natAbs.log2<1920:=ZC (Nat.log2_le_self _) (by omega);have hs1:(Str.empty++x1++Str.ofString (toString i)).length<=510:=by rw[Str.length_append,hs0];omega
 refine wpAny_formatField_int hlog ⟨_,_,rfl,by omega,Joins_nil ⟨by omega,?_⟩⟩;have e0:Str.empty++x1=x1:=Str.empty_append _;rw[e0];exact⟨.str _,H2,(I2.tok _).tok _,⟨_,rfl⟩,q⟩
end
section
variable{P:QL}{w:Qu}{K:Q1}{mg:Str->Option Q2}{base:Heap}{CT CG fI:Addr}
theorem Pc{x q:Str}{st:Qg}{f:Addr}{oc:Q2}{od an:Option Addr}{osl:Array (Option Q2)}{kV doc pm cdv ct:Q2}(l:K.lookup f=some (fAt x q st oc od an osl kV doc pm cdv ct))(c:PySem.W.codeIn K cdv q=true)(k:PySem.W.keepIn K (.ref f)=true):KC K x q st f:=⟨_,zm l c k⟩
theorem oz:a7 ["self","at"] ["self","at"] (aG OL.gZ):=⟨rfl,rfl,rfl,by decide +kernel,rfl,by decide +kernel,by decide +kernel⟩
theorem MT(V:XF K CT CG fI)(F:KC K "__init__" "NoText.__init__" OL.gZ fI)(hg:mg "GlanceError"=some (.ref CG))(ty:PySem.W.typeIn K (.ref fI)=some (.type "function")):XNt P w K mg base CT CG 1:=by
 obtain⟨fd,F⟩:=F;refine⟨fI,fd,V,Fun.okW (k:=0) F oz (fun vs H Q E h=>?_) fun cdv A outer s H vs Q E hr h=>?_,F.binds fun _ _ _ _ _ _ us hl=>match us,hl with|[_,_],_=>rfl,ty⟩
 ·obtain⟨e,n,rfl,_⟩:=h;rfl
 obtain⟨e,n,rfl,he,hn,post⟩:=h;refine⟨_,iQ (pG ⟨Bp V rfl hg (bK (wpv 0) (bK ⟨Jl (by decide) (ay).h (wpv 1).h⟩ fU)).h⟩) (pF ⟨IZ V (wpv 0).h (wpv 1).h⟩),?_⟩;exact⟨.ref e,rfl,.int n,rfl,n,rfl,hn,e,_,rfl,he,.int n,rfl,.ref e,rfl,e,n,rfl,rfl,he,fun dx ob t h1 h2 h3=>post dx ob t h1 h2 h3⟩
theorem MtD.noR{cl:Cl}{x q:Str}{st:Qg}{ps:List Str}{k:Nat}(d:MtD K cl.C x q st ps):dC CT P w K mg base cl x k ps (fun _ _=>none):=by
 obtain⟨fa,fd,F,b,m⟩:=d;have no:∀vs H Q E,¬spX K (fun _ _=>none) vs H Q E:=fun vs H Q E h=>by
  obtain⟨m,us,S,u,S',i,sr,hf,post⟩:=h;cases hf
 exact⟨fa,fd,m,⟨fun vs H Q E h=>absurd h (no vs H Q E),fun A outer s H args us vs Q E _ _ _ _ h=>absurd h (no vs H Q E)⟩,b⟩
end
end OP
namespace OL
open PySem PySem.Spec PyProof.Rows L2 OG OP OQ
section
variable{P:QL}{w:Qu}{K:Q1}{mg:Str->Option Q2}{base:Heap}
def nE:a7 ["script"] ["script"] (aG kX):=⟨rfl,rfl,rfl,by decide +kernel,rfl,by decide +kernel,by decide +kernel⟩
theorem FU{k:Nat}(B:Blt mg)(d:Def K mg "_law_pen" kX ["script"]):Has P w K mg base "_law_pen" (k+1) ["script"] (CJ K):=by
 refine d.has nE (fun vs H Q E h=>?_) (fun f cdv A outer s H vs Q E hr h=>?_)
 ·obtain⟨a,ns,rfl,_⟩:=h;rfl
 obtain⟨a,ns,rfl,hS,q⟩:=h;have nd:=nE.nd;refine⟨_,(pF (sX (xD (bK (oV sy rfl B.list OG.zY (bK (qM ye (wpv 0) uR (uQ aq)) fU)) (bK aq (bK aq fU)))))),?_⟩;refine⟨_,rfl,_,rfl,a,_,rfl,hS,fun p hp=>⟨p,_,rfl,.inl (SqL.of aU),fun l hl=>⟨(by show 3<=QB;decide),fun r hr'=>?_⟩⟩⟩;obtain⟨ms,em⟩:∃ms:List Int,zL (ns.map V.int) none (some 63)=ms.map V.int:=⟨_,B6 _ _ _⟩;rw[em]at hl hr' ⊢;refine q r l _ (((cS hp _).trans (cS hl _)).trans (cS hr' _)) ⟨ms,0,0,aU,?_,dS aU hr',by decide,by decide⟩ ?_
 ·rw[aY (dS aU hr')];exact aU
 ·exact(((cS hp _).trans (cS hl _))).free hr'
end
theorem Ku{l:PySem.W.OpenLaw}{w:Qu}{K:Q1}{h:Heap}{mg:Str->Option Q2}{fa:Addr}(X:K.In h)(G:h.Ns mainGlobals mg)(hfa:mg "law"=some (.ref fa))
  {y90:Addr}
  {tk1_0 tk1_1:Tok} {pt1:Addr} {pn1:Nat} {pl1:Array (Option Q2)}
  {tk2_0 tk2_1:Tok} {pt2:Addr} {pn2:Nat} {pl2:Array (Option Q2)}
  {tk3:Tok}
  {tk4:Tok}
  {tk5:Tok}
  {tk6:Tok}
  {tk7:Tok}
  (ds:KD K [("bounds_of",jS),("number_in",jR),("read_dealing",fi),("words_of",kW),("dealing_text",gx),("_law_take",jT),("_law_world",iX),("_law_size",jU),("_law_plain_deed",e9),("_law_dealing",gy),("_law_words",iY),("_law_number",gW),("_law_takes",iZ),("_law_wrong",iW),("_law_spoilt",gU),("_law_right",i6),("_law_pen",kX),("law",Er)])
  (y88:KI K "Reader" y90 ["world","words","place","many"] [("__init__","Reader.__init__",gY),("word","Reader.word",gX),("check","Reader.check",fj),("go_on","Reader.go_on",gB),("read_number","Reader.read_number",cI),("read_deed","Reader.read_deed",dh),("read_try","Reader.read_try",dM),("read_run","Reader.read_run",dN),("read_all","Reader.read_all",dP)])
  (g1:PySem.W.nsIn K mainGlobals "HAND"=some (some (.ref pt1))) (h1:K.lookup pt1=some ⟨.type "tuple",none,.seq #[.int 0 tk1_0,.int 3 tk1_1] pn1,pl1⟩)
  (g2:PySem.W.nsIn K mainGlobals "LEAP"=some (some (.ref pt2))) (h2:K.lookup pt2=some ⟨.type "tuple",none,.seq #[.int 1 tk2_0,.int 12 tk2_1] pn2,pl2⟩)
  (g3:PySem.W.nsIn K mainGlobals "MOST_FIGURES"=some (some (.int (4) tk3)))
  (g4:PySem.W.nsIn K mainGlobals "FIGURES"=some (some (.str "0123456789" tk4)))
  (g5:PySem.W.nsIn K mainGlobals "MOST_IN_TUPLE"=some (some (.int (12) tk5)))
  (g6:PySem.W.nsIn K mainGlobals "MOST_IN_ALL"=some (some (.int (40) tk6)))
  (g7:PySem.W.nsIn K mainGlobals "MOST_TRIES"=some (some (.int (3) tk7)))
  (zs:Ld K Oq) {y93 y97 y95 y94 y92 y96 fI:Addr} (x0:PySem.W.nsIn K mainGlobals "NoText"=some (some (.ref y93))) (x1:PySem.W.findIn K (.ref y93) "__init__"=some (some (.ref fI))) (xk:NI K y93 y97 y95 y94 y92 y96 fI) (xt:PySem.W.typeIn K (.ref fI)=some (.type "function")) (xf:KC K "__init__" "NoText.__init__" gZ fI) :
  ∃fd:Z8,(∀(s:Q8) (v:Q2),BindsTo s fd ⟨[v],[]⟩ [("script",v)])/\∀base:Heap,K.In base->base.Ns mainGlobals mg->j9 l.prog w K mg base CX0 19 fa fd ["script"] (AU K):=by
 obtain⟨y79,y75,y45,y87,y47,y83,y70,y76,y28,y42,y68,y59,y64,y71,y56,y63,y86,y91,-⟩:=ds;obtain⟨y60,y49,y48,y40,y1,y21,y34,y30,y32,-⟩:=y88.ms;have y89:=y88.tc;have C_HAND:KA K mg "HAND" [0,3]:=⟨_,_,_,_,PySem.W.mg_of X G g1,h1,⟨rfl,rfl⟩,rfl,(show 2<=QB by decide),(.cons ⟨tk1_0,rfl⟩ (.cons ⟨tk1_1,rfl⟩ .nil))⟩;have C_LEAP:KA K mg "LEAP" [1,12]:=⟨_,_,_,_,PySem.W.mg_of X G g2,h2,⟨rfl,rfl⟩,rfl,(show 2<=QB by decide),(.cons ⟨tk2_0,rfl⟩ (.cons ⟨tk2_1,rfl⟩ .nil))⟩;have C_MOST_FIGURES:=K6 X G g3;have C_FIGURES:=Pg X G g4;have C_MOST_IN_TUPLE:=K6 X G g5;have C_MOST_IN_ALL:=K6 X G g6;have C_MOST_TRIES:=K6 X G g7;have B:=zs.blt X G;have V:=xk.k X G;refine JO y91 X G hfa fun fd F_law base=>?_;have Gp:=FU (P:=l.prog) (w:=w) (base:=base) (k:=0) B (y86.df X G);have y80:=uq (P:=l.prog) (w:=w) (base:=base) (k:=0) (y79.df X G) B C_HAND C_LEAP;have y84:=uo (P:=l.prog) (w:=w) (base:=base) (k:=0) (y75.df X G) B C_MOST_FIGURES C_FIGURES;have y55:=ql (P:=l.prog) (w:=w) (base:=base) (k:=0) (y88.mkd y60 X G) B y89;have y50:=qk (P:=l.prog) (w:=w) (base:=base) (k:=0) (y49.mt) B y89;have y44:=oM (cReader:=⟨y90,["world","words","place","many"]⟩) (P:=l.prog) (w:=w) (base:=base) (k:=0) (y48.mt) B;have y46:=oK (P:=l.prog) (w:=w) (base:=base) (k:=0) (y40.mt) B y89;have y0:=jA (P:=l.prog) (w:=w) (base:=base) (k:=1) (y1.mt) B y89 y84 y50 y44 y46;have y20:ef l.prog w K mg base (⟨y90,["world","words","place","many"]⟩:Cl) "read_try" 2 ["self","tries_left"] (bH (⟨y90,["world","words","place","many"]⟩:Cl) (fun _ _=>none)):=dW (P:=l.prog) (w:=w) (base:=base) (k:=1) (y34.mt) B y89 y44 y46 (MtD.no (y30.mt (ps:=["self","tries_left"])));have y9:ef l.prog w K mg base (⟨y90,["world","words","place","many"]⟩:Cl) "read_deed" 3 ["self","tries_left"] (dJ (⟨y90,["world","words","place","many"]⟩:Cl) (bH (⟨y90,["world","words","place","many"]⟩:Cl) (fun _ _=>none))):=dr (P:=l.prog) (w:=w) (base:=base) (k:=2) (y21.mt) B y89 (Has.mono y80 (by decide)) (y50.mono (by decide)) y20 (y44.mono (by decide)) (y46.mono (by decide)) y0;have y18:ef l.prog w K mg base (⟨y90,["world","words","place","many"]⟩:Cl) "read_run" 4 ["self","tries_left"] (lF (⟨y90,["world","words","place","many"]⟩:Cl) 0):=dX (P:=l.prog) (w:=w) (base:=base) (k:=3) (fuel:=100) (y30.mt) B C_MOST_IN_TUPLE C_MOST_IN_ALL y89 (y44.mono (by decide)) (y50.mono (by decide)) (y46.mono (by decide)) y9;have y23:ef l.prog w K mg base (⟨y90,["world","words","place","many"]⟩:Cl) "read_try" 5 ["self","tries_left"] (bH (⟨y90,["world","words","place","many"]⟩:Cl) (lF (⟨y90,["world","words","place","many"]⟩:Cl) 0)):=dW (P:=l.prog) (w:=w) (base:=base) (k:=4) (y34.mt) B y89 (y44.mono (by decide)) (y46.mono (by decide)) y18;have y6:ef l.prog w K mg base (⟨y90,["world","words","place","many"]⟩:Cl) "read_deed" 6 ["self","tries_left"] (dJ (⟨y90,["world","words","place","many"]⟩:Cl) (bH (⟨y90,["world","words","place","many"]⟩:Cl) (lF (⟨y90,["world","words","place","many"]⟩:Cl) 0))):=dr (P:=l.prog) (w:=w) (base:=base) (k:=5) (y21.mt) B y89 (Has.mono y80 (by decide)) (y50.mono (by decide)) y23 (y44.mono (by decide)) (y46.mono (by decide)) (y0.mono (by decide));have y22:ef l.prog w K mg base (⟨y90,["world","words","place","many"]⟩:Cl) "read_run" 7 ["self","tries_left"] (lF (⟨y90,["world","words","place","many"]⟩:Cl) 1):=dX (P:=l.prog) (w:=w) (base:=base) (k:=6) (fuel:=100) (y30.mt) B C_MOST_IN_TUPLE C_MOST_IN_ALL y89 (y44.mono (by decide)) (y50.mono (by decide)) (y46.mono (by decide)) y6;have y11:ef l.prog w K mg base (⟨y90,["world","words","place","many"]⟩:Cl) "read_try" 8 ["self","tries_left"] (bH (⟨y90,["world","words","place","many"]⟩:Cl) (lF (⟨y90,["world","words","place","many"]⟩:Cl) 1)):=dW (P:=l.prog) (w:=w) (base:=base) (k:=7) (y34.mt) B y89 (y44.mono (by decide)) (y46.mono (by decide)) y22;have y3:ef l.prog w K mg base (⟨y90,["world","words","place","many"]⟩:Cl) "read_deed" 9 ["self","tries_left"] (dJ (⟨y90,["world","words","place","many"]⟩:Cl) (bH (⟨y90,["world","words","place","many"]⟩:Cl) (lF (⟨y90,["world","words","place","many"]⟩:Cl) 1))):=dr (P:=l.prog) (w:=w) (base:=base) (k:=8) (y21.mt) B y89 (Has.mono y80 (by decide)) (y50.mono (by decide)) y11 (y44.mono (by decide)) (y46.mono (by decide)) (y0.mono (by decide));have y15:ef l.prog w K mg base (⟨y90,["world","words","place","many"]⟩:Cl) "read_run" 10 ["self","tries_left"] (lF (⟨y90,["world","words","place","many"]⟩:Cl) 2):=dX (P:=l.prog) (w:=w) (base:=base) (k:=9) (fuel:=100) (y30.mt) B C_MOST_IN_TUPLE C_MOST_IN_ALL y89 (y44.mono (by decide)) (y50.mono (by decide)) (y46.mono (by decide)) y3;have y12:ef l.prog w K mg base (⟨y90,["world","words","place","many"]⟩:Cl) "read_try" 11 ["self","tries_left"] (bH (⟨y90,["world","words","place","many"]⟩:Cl) (lF (⟨y90,["world","words","place","many"]⟩:Cl) 2)):=dW (P:=l.prog) (w:=w) (base:=base) (k:=10) (y34.mt) B y89 (y44.mono (by decide)) (y46.mono (by decide)) y15;have y7:ef l.prog w K mg base (⟨y90,["world","words","place","many"]⟩:Cl) "read_deed" 12 ["self","tries_left"] (dJ (⟨y90,["world","words","place","many"]⟩:Cl) (bH (⟨y90,["world","words","place","many"]⟩:Cl) (lF (⟨y90,["world","words","place","many"]⟩:Cl) 2))):=dr (P:=l.prog) (w:=w) (base:=base) (k:=11) (y21.mt) B y89 (Has.mono y80 (by decide)) (y50.mono (by decide)) y12 (y44.mono (by decide)) (y46.mono (by decide)) (y0.mono (by decide));have y26:ef l.prog w K mg base (⟨y90,["world","words","place","many"]⟩:Cl) "read_run" 13 ["self","tries_left"] (lF (⟨y90,["world","words","place","many"]⟩:Cl) 3):=dX (P:=l.prog) (w:=w) (base:=base) (k:=12) (fuel:=100) (y30.mt) B C_MOST_IN_TUPLE C_MOST_IN_ALL y89 (y44.mono (by decide)) (y50.mono (by decide)) (y46.mono (by decide)) y7;have y31:=lq (P:=l.prog) (w:=w) (base:=base) (k:=13) (y32.mt) B C_MOST_TRIES y89 y26 (y44.mono (by decide));have y41:=Has.mono (oH (P:=l.prog) (w:=w) (base:=base) (k:=13) (y45.df X G) B y89 y31 (y55.mono (by decide))) (show 15<=17 by decide);have y78:eM l.prog w K mg base "words_of" 1 ["dealing"] (mq 0):=ju (P:=l.prog) (w:=w) (base:=base) (k:=0) (y87.df X G) B ((y87.df X G (ps:=["dealing"])).no);have y82:eM l.prog w K mg base "words_of" 2 ["dealing"] (mq 1):=ju (P:=l.prog) (w:=w) (base:=base) (k:=1) (y87.df X G) B y78;have y85:eM l.prog w K mg base "words_of" 3 ["dealing"] (mq 2):=ju (P:=l.prog) (w:=w) (base:=base) (k:=2) (y87.df X G) B y82;have y81:eM l.prog w K mg base "words_of" 4 ["dealing"] (mq 3):=ju (P:=l.prog) (w:=w) (base:=base) (k:=3) (y87.df X G) B y85;have y43:=oJ (P:=l.prog) (w:=w) (base:=base) (k:=4) (y47.df X G) B y81;have y77:=ur (P:=l.prog) (w:=w) (base:=base) (k:=0) (y83.df X G) B;have y65:=rW (P:=l.prog) (w:=w) (base:=base) (k:=1) (y70.df X G) B y77;have y67:eM l.prog w K mg base "_law_size" 1 ["dealing"] (uK 0):=ic (P:=l.prog) (w:=w) (base:=base) (k:=0) (y76.df X G) B ((y76.df X G (ps:=["dealing"])).no);have y74:eM l.prog w K mg base "_law_size" 2 ["dealing"] (uK 1):=ic (P:=l.prog) (w:=w) (base:=base) (k:=1) (y76.df X G) B y67;have y62:eM l.prog w K mg base "_law_size" 3 ["dealing"] (uK 2):=ic (P:=l.prog) (w:=w) (base:=base) (k:=2) (y76.df X G) B y74;have y66:eM l.prog w K mg base "_law_size" 4 ["dealing"] (uK 3):=ic (P:=l.prog) (w:=w) (base:=base) (k:=3) (y76.df X G) B y62;have y29:=lj (P:=l.prog) (w:=w) (base:=base) (k:=1) (y28.df X G) B y77;have y36:eM l.prog w K mg base "_law_dealing" 3 ["pen","world","room","tries"] (mB 0):=fq (P:=l.prog) (w:=w) (base:=base) (k:=2) (y42.df X G) B (Has.mono y77 (by decide)) y29 ((y42.df X G (ps:=["pen","world","room","tries"])).no) ((y76.df X G (ps:=["dealing"])).no);have y35:eM l.prog w K mg base "_law_dealing" 4 ["pen","world","room","tries"] (mB 1):=fq (P:=l.prog) (w:=w) (base:=base) (k:=3) (y42.df X G) B (Has.mono y77 (by decide)) (Has.mono y29 (by decide)) y36 (Has.mono y67 (by decide));have y38:eM l.prog w K mg base "_law_dealing" 5 ["pen","world","room","tries"] (mB 2):=fq (P:=l.prog) (w:=w) (base:=base) (k:=4) (y42.df X G) B (Has.mono y77 (by decide)) (Has.mono y29 (by decide)) y35 (Has.mono y74 (by decide));have y37:eM l.prog w K mg base "_law_dealing" 6 ["pen","world","room","tries"] (mB 3):=fq (P:=l.prog) (w:=w) (base:=base) (k:=5) (y42.df X G) B (Has.mono y77 (by decide)) (Has.mono y29 (by decide)) y38 (Has.mono y62 (by decide));have y57:eM l.prog w K mg base "_law_words" 1 ["dealing"] (LwJ 0):=fF (P:=l.prog) (w:=w) (base:=base) (k:=0) (y68.df X G) B ((y68.df X G (ps:=["dealing"])).no);have y53:eM l.prog w K mg base "_law_words" 2 ["dealing"] (LwJ 1):=fF (P:=l.prog) (w:=w) (base:=base) (k:=1) (y68.df X G) B y57;have y52:eM l.prog w K mg base "_law_words" 3 ["dealing"] (LwJ 2):=fF (P:=l.prog) (w:=w) (base:=base) (k:=2) (y68.df X G) B y53;have y58:eM l.prog w K mg base "_law_words" 4 ["dealing"] (LwJ 3):=fF (P:=l.prog) (w:=w) (base:=base) (k:=3) (y68.df X G) B y52;have y51:eM l.prog w K mg base "_law_words" 5 ["dealing"] (LwJ 4):=fF (P:=l.prog) (w:=w) (base:=base) (k:=4) (y68.df X G) B y58;have y61:=qj (P:=l.prog) (w:=w) (base:=base) (k:=0) (y59.df X G) B;have y69:=rX (P:=l.prog) (w:=w) (base:=base) (k:=1) (y64.df X G) B y61;have y72:=rV (P:=l.prog) (w:=w) (base:=base) (k:=2) (y71.df X G) B y69;have y54:=qi (P:=l.prog) (w:=w) (base:=base) (k:=1) (y56.df X G) B y77;have xz:=MT (P:=l.prog) (w:=w) (base:=base) V.xf xf V.gg xt;have y39:=oB (P:=l.prog) (w:=w) (base:=base) (k:=1) (y48.mt) B V y89 xz;have y2:=jy (P:=l.prog) (w:=w) (base:=base) (k:=3) (y1.mt) B V y89 (Has.mono y84 (by decide)) (y50.mono (by decide)) (y44.mono (by decide)) (y46.mono (by decide)) y39;have y24:dC y93 l.prog w K mg base (⟨y90,["world","words","place","many"]⟩:Cl) "read_try" 4 ["self","tries_left"] (gJ (⟨y90,["world","words","place","many"]⟩:Cl) (fun _ _=>none) (fun _ _=>none)):=dQ (P:=l.prog) (w:=w) (base:=base) (k:=3) (y34.mt) B V y89 (y44.mono (by decide)) (y46.mono (by decide)) (MtD.no (y30.mt (ps:=["self","tries_left"]))) y39 (MtD.noR (y30.mt (ps:=["self","tries_left"])));have y4:dC y93 l.prog w K mg base (⟨y90,["world","words","place","many"]⟩:Cl) "read_deed" 5 ["self","tries_left"] (jj (⟨y90,["world","words","place","many"]⟩:Cl) (bH (⟨y90,["world","words","place","many"]⟩:Cl) (fun _ _=>none)) (gJ (⟨y90,["world","words","place","many"]⟩:Cl) (fun _ _=>none) (fun _ _=>none))):=dj (P:=l.prog) (w:=w) (base:=base) (k:=4) (y21.mt) B V y89 (Has.mono y80 (by decide)) (y50.mono (by decide)) (y20.mono (by decide)) (y44.mono (by decide)) (y46.mono (by decide)) (y0.mono (by decide)) y24 (y39.mono (by decide)) y2;have y25:dC y93 l.prog w K mg base (⟨y90,["world","words","place","many"]⟩:Cl) "read_run" 6 ["self","tries_left"] (lE (⟨y90,["world","words","place","many"]⟩:Cl) 0):=dR (P:=l.prog) (w:=w) (base:=base) (k:=5) (fuel:=100) (y30.mt) B V C_MOST_IN_TUPLE C_MOST_IN_ALL y89 (y44.mono (by decide)) (y50.mono (by decide)) (y46.mono (by decide)) (y9.mono (by decide)) (y39.mono (by decide)) y4;have y16:dC y93 l.prog w K mg base (⟨y90,["world","words","place","many"]⟩:Cl) "read_try" 7 ["self","tries_left"] (gJ (⟨y90,["world","words","place","many"]⟩:Cl) (lF (⟨y90,["world","words","place","many"]⟩:Cl) 0) (lE (⟨y90,["world","words","place","many"]⟩:Cl) 0)):=dQ (P:=l.prog) (w:=w) (base:=base) (k:=6) (y34.mt) B V y89 (y44.mono (by decide)) (y46.mono (by decide)) (y18.mono (by decide)) (y39.mono (by decide)) y25;have y5:dC y93 l.prog w K mg base (⟨y90,["world","words","place","many"]⟩:Cl) "read_deed" 8 ["self","tries_left"] (jj (⟨y90,["world","words","place","many"]⟩:Cl) (bH (⟨y90,["world","words","place","many"]⟩:Cl) (lF (⟨y90,["world","words","place","many"]⟩:Cl) 0)) (gJ (⟨y90,["world","words","place","many"]⟩:Cl) (lF (⟨y90,["world","words","place","many"]⟩:Cl) 0) (lE (⟨y90,["world","words","place","many"]⟩:Cl) 0))):=dj (P:=l.prog) (w:=w) (base:=base) (k:=7) (y21.mt) B V y89 (Has.mono y80 (by decide)) (y50.mono (by decide)) (y23.mono (by decide)) (y44.mono (by decide)) (y46.mono (by decide)) (y0.mono (by decide)) y16 (y39.mono (by decide)) (y2.mono (by decide));have y27:dC y93 l.prog w K mg base (⟨y90,["world","words","place","many"]⟩:Cl) "read_run" 9 ["self","tries_left"] (lE (⟨y90,["world","words","place","many"]⟩:Cl) 1):=dR (P:=l.prog) (w:=w) (base:=base) (k:=8) (fuel:=100) (y30.mt) B V C_MOST_IN_TUPLE C_MOST_IN_ALL y89 (y44.mono (by decide)) (y50.mono (by decide)) (y46.mono (by decide)) (y6.mono (by decide)) (y39.mono (by decide)) y5;have y13:dC y93 l.prog w K mg base (⟨y90,["world","words","place","many"]⟩:Cl) "read_try" 10 ["self","tries_left"] (gJ (⟨y90,["world","words","place","many"]⟩:Cl) (lF (⟨y90,["world","words","place","many"]⟩:Cl) 1) (lE (⟨y90,["world","words","place","many"]⟩:Cl) 1)):=dQ (P:=l.prog) (w:=w) (base:=base) (k:=9) (y34.mt) B V y89 (y44.mono (by decide)) (y46.mono (by decide)) (y22.mono (by decide)) (y39.mono (by decide)) y27;have y8:dC y93 l.prog w K mg base (⟨y90,["world","words","place","many"]⟩:Cl) "read_deed" 11 ["self","tries_left"] (jj (⟨y90,["world","words","place","many"]⟩:Cl) (bH (⟨y90,["world","words","place","many"]⟩:Cl) (lF (⟨y90,["world","words","place","many"]⟩:Cl) 1)) (gJ (⟨y90,["world","words","place","many"]⟩:Cl) (lF (⟨y90,["world","words","place","many"]⟩:Cl) 1) (lE (⟨y90,["world","words","place","many"]⟩:Cl) 1))):=dj (P:=l.prog) (w:=w) (base:=base) (k:=10) (y21.mt) B V y89 (Has.mono y80 (by decide)) (y50.mono (by decide)) (y11.mono (by decide)) (y44.mono (by decide)) (y46.mono (by decide)) (y0.mono (by decide)) y13 (y39.mono (by decide)) (y2.mono (by decide));have y19:dC y93 l.prog w K mg base (⟨y90,["world","words","place","many"]⟩:Cl) "read_run" 12 ["self","tries_left"] (lE (⟨y90,["world","words","place","many"]⟩:Cl) 2):=dR (P:=l.prog) (w:=w) (base:=base) (k:=11) (fuel:=100) (y30.mt) B V C_MOST_IN_TUPLE C_MOST_IN_ALL y89 (y44.mono (by decide)) (y50.mono (by decide)) (y46.mono (by decide)) (y3.mono (by decide)) (y39.mono (by decide)) y8;have y17:dC y93 l.prog w K mg base (⟨y90,["world","words","place","many"]⟩:Cl) "read_try" 13 ["self","tries_left"] (gJ (⟨y90,["world","words","place","many"]⟩:Cl) (lF (⟨y90,["world","words","place","many"]⟩:Cl) 2) (lE (⟨y90,["world","words","place","many"]⟩:Cl) 2)):=dQ (P:=l.prog) (w:=w) (base:=base) (k:=12) (y34.mt) B V y89 (y44.mono (by decide)) (y46.mono (by decide)) (y15.mono (by decide)) (y39.mono (by decide)) y19;have y10:dC y93 l.prog w K mg base (⟨y90,["world","words","place","many"]⟩:Cl) "read_deed" 14 ["self","tries_left"] (jj (⟨y90,["world","words","place","many"]⟩:Cl) (bH (⟨y90,["world","words","place","many"]⟩:Cl) (lF (⟨y90,["world","words","place","many"]⟩:Cl) 2)) (gJ (⟨y90,["world","words","place","many"]⟩:Cl) (lF (⟨y90,["world","words","place","many"]⟩:Cl) 2) (lE (⟨y90,["world","words","place","many"]⟩:Cl) 2))):=dj (P:=l.prog) (w:=w) (base:=base) (k:=13) (y21.mt) B V y89 (Has.mono y80 (by decide)) (y50.mono (by decide)) (y12.mono (by decide)) (y44.mono (by decide)) (y46.mono (by decide)) (y0.mono (by decide)) y17 (y39.mono (by decide)) (y2.mono (by decide));have y14:dC y93 l.prog w K mg base (⟨y90,["world","words","place","many"]⟩:Cl) "read_run" 15 ["self","tries_left"] (lE (⟨y90,["world","words","place","many"]⟩:Cl) 3):=dR (P:=l.prog) (w:=w) (base:=base) (k:=14) (fuel:=100) (y30.mt) B V C_MOST_IN_TUPLE C_MOST_IN_ALL y89 (y44.mono (by decide)) (y50.mono (by decide)) (y46.mono (by decide)) (y7.mono (by decide)) (y39.mono (by decide)) y10;have y33:=k8 (P:=l.prog) (w:=w) (base:=base) (k:=15) (y32.mt) B V C_MOST_TRIES y89 (y26.mono (by decide)) (y44.mono (by decide)) y14 (y39.mono (by decide));have X_read_dealing:=oA (P:=l.prog) (w:=w) (base:=base) (k:=15) (y45.df X G) B V y89 (y31.mono (by decide)) y33 (y55.mono (by decide));have y73:=rY (P:=l.prog) (w:=w) (base:=base) (k:=17) (y63.df X G) B V (Has.mono y72 (by decide)) y41 (Has.mono y43 (by decide)) X_read_dealing;exact Nk (P:=l.prog) (w:=w) (base:=base) (k:=18) F_law B (Has.mono Gp (by decide)) (Has.mono y65 (by decide)) (Has.mono y54 (by decide)) (Has.mono y51 (by decide)) (Has.mono y37 (by decide)) (Has.mono y77 (by decide)) y73 fun ns a c ha hc=>JN (cR:=⟨y90,["world","words","place","many"]⟩) rfl ns a c ha hc
theorem OU{l:PySem.W.OpenLaw}{q:QL}{loose:List Str}{XP:(Str->Option Q2)->Heap->Prop}{YP:Qu->Heap->Prop}{d:DefRec}{K:Params->Q1}(hn:l.most=some 63)(hdf:d.params.defaults=[])
  (hY:∀(w:Qu) (h:Heap),YP w h->(K w.params).In h)
  (F:∀(w:Qu) (mg:Str->Option Q2) (fa:Addr) (h:Heap),(K w.params).In h->h.Ns mainGlobals mg->mg d.name=some (.ref fa)->
   ∃fd:Z8,(∀(s:Q8) (u:Q2),BindsTo s fd ⟨[u],[]⟩ [("script",u)])/\∀base:Heap,(K w.params).In base->base.Ns mainGlobals mg->j9 l.prog w (K w.params) mg base CX0 19 fa fd ["script"] (AU (K w.params))) :
  PySem.W.WalkO q loose XP YP l.row.toRowW d [] (fun f vs=>PySem.call f vs):=
 L2.Eb (n:=63) (k:=19) (x:="script") (CX:=fun _=>CX0) (sp:=fun w=>AU (K w.params)) hn (by decide) hdf ⟨rfl,by decide,by decide,rfl⟩ hY F (fun _ _ a ns hl _ hS=>⟨a,ns,rfl,hS,hl,fun _=>rfl⟩) fun _ _ _ _ _ z=>z
end OL
namespace PySem.W.Fast
def tw14284490382215746347:=0
def tw13081307202087788999:=0
def tw17982141492790551973:=0
def tw249085809413299415:=0
def tw16527493122480757964:=0
def tw13398137227114702358:=0
def tw7371218662919410924:=0
def tw12824122548674706572:=0
def tw3944533812115829794:=0
def tw15167084214425891467:=0
def tw4716233474204785278:=0
def tw5177341359231479762:=0
def tw3214343488549366227:=0
def tw7496418046742754837:=0
def tw10443744540931963648:=0
def tw8964358102218374553:=0
def tw12807424634570823894:=0
def tw17671398836158961376:=0
def tw4461686815835523873:=0
def tw6677281671177825394:=0
def tw17234604177130161471:=0
def tw12054585246030269900:=0
def tw6514843073862204625:=0
def tw10808988200862402688:=0
def tw14619636981515659953:=0
def tw3930830854013514444:=0
def tw1232543521594756835:=0
def tw13426076005013591627:=0
def tw8130523965401236037:=0
def tw18030841881595700461:=0
def tw4559151834438625157:=0
def tw12252273636744932475:=0
def tw11554844945528726387:=0
def tw2824137665113084595:=0
def tw18011959429445641126:=0
def tw13158552755175740244:=0
def tw9173946247033584464:=0
def tw5452909223729992112:=0
def tw4618266390414157461:=0
def tw2203281379220791233:=0
def tw10203766693187594009:=0
def tw654761690441624174:=0
def tw6106609164134941105:=0
def tw17369798742753917182:=0
def tw17396955594637846231:=0
def tw6747167765056419140:=0
def tw16471417377946105729:=0
def tw2865544023999109705:=0
def tw16856566368916207208:=0
def tw7376498860782224817:=0
def tw787843572492098325:=0
def tw4951057984562147817:=0
def tw6888949519008389442:=0
def tw3589361505136360214:=0
def tw1384507849857811683:=0
def tw3985725114350990005:=0
def tw7238763008486265706:=0
def tw15089244413824687642:=0
def tw9428739544649086926:=0
def tw17782692070792814940:=0
def tw10476342056345240151:=0
def tw18198643012775353865:=0
def tw16927814057679106678:=0
def tw1051120611524926882:=0
def tw6274942639635439265:=0
def tw15727848349478183282:=0
def tw16481135652270397500:=0
def tw11681242653999069024:=0
def tw2382220884709447575:=0
def tw4008194911003302561:=0
def tw1251001608537875243:=0
def tw13707807263256687391:=0
def tw15836822330118147962:=0
def tw15714724091670974366:=0
def tw16613233790115381273:=0
def tw5644338870505972098:=0
def tw18249950805439949823:=0
def tw13815168700933843503:=0
def tw12375086331234693454:=0
def tw7034663017273606688:=0
def tw12982736873976771351:=0
def tw14531361562498864474:=0
def tw10937037091227126141:=0
def tw7583350432137628297:=0
def tw1744631329336212947:=0
def tw15838861350115861015:=0
def tw11051380613465816896:=0
def tw18317836339358528536:=0
def tw15462850311537344429:=0
def tw11193381652477690083:=0
def tw6627762318099074349:=0
def tw4141317301539811417:=0
def tw4222342815228767904:=0
def tw5286907975142787641:=0
def tw9260354239231698425:=0
def tw12248915305514760219:=0
def tw14278848299468851619:=0
def tw875252431708410347:=0
def tw7954937119175358683:=0
def tw563798394008642369:=0
def tw6496312216980581866:=0
def tw12947588979152609054:=0
def tw2102403156654851603:=0
def tw13118809182783680606:=0
def tw567140023452233327:=0
def tw4575031880832539720:=0
def tw9062434114346261466:=0
def tw7008227982837287519:=0
def tw10153780699948714208:=0
def tw11409693104113057298:=0
def tw11448783794547417825:=0
def tw1901026158503023602:=0
def tw13979449010173104693:=0
def tw7117224725223728083:=0
def tw9933959671935233629:=0
def tw10056837916859832207:=0
def tw13776888421954996137:=0
def tw5245995580484012640:=0
def tw12016218489172232621:=0
def tw6408611326056898085:=0
def tw4980434868767855844:=0
def tw7221691300404005127:=0
def tw4482878170951236540:=0
def tw16441361137051573046:=0
def tw13545287932482892364:=0
def tw1983962942446522710:=0
def tw7199250655562695419:=0
def tw10984124404508353688:=0
def tw15964019363295897222:=0
def tw10191261700712723590:=0
def tw17472772666098128211:=0
def tw16064300772019334190:=0
def tw14788257278166166317:=0
def tw17011687816422771167:=0
def tw16725059919765077498:=0
def tw2632268744940664725:=0
def tw8283458656953441458:=0
def tw13425092482731538122:=0
def tw14484185223122430514:=0
def tw5585579657382009608:=0
def tw13041261789167343681:=0
def tw4046388064092990294:=0
def tw13550477919266533662:=0
def tw16681224374691860959:=0
def tw14456869737322013563:=0
def tw15431247658601272991:=0
def tw16178196130116820396:=0
def tw4220772008203158853:=0
def tw7615062939143727622:=0
def tw10615098628702806085:=0
def tw11734303863767768592:=0
def tw14757714732996389918:=0
def tw14921696326535553676:=0
def tw14063073391570908512:=0
def tw18255454703811886874:=0
def tw12823848196948005804:=0
def tw8388631954648529864:=0
def tw15999033914123505294:=0
def tw17517028247327304091:=0
def tw8546987386627945123:=0
def tw9331878547303635368:=0
def tw13183279588913006680:=0
def tw17998888375767556392:=0
def tw14938130108565146922:=0
def tw2959641859325247775:=0
def tw8539955751710379282:=0
def tw5735962765171264341:=0
def tw6985773140283838397:=0
def tw14283954876312796622:=0
def tw3958314348935644179:=0
def tw6640407182394710464:=0
end PySem.W.Fast
open PySem PySem.W PyProof.Rows
open OP in
set_option maxRecDepth 100000 in
set_option maxHeartbeats 0 in
theorem PySem.Challenge.cw_oneglance_k61_texts_judged_holds : PySem.Challenge.rw_oneglance_k61_texts_judged.Holds := by
 w_on; o_law; k_head; (case hw => w_witness2)
 k_fill
 refine OL.OU (l := PySem.Challenge.rw_oneglance_k61_texts_judged) rfl rfl (fun w h Y => PySem.W.kIn_of Y) ?F;case F =>
  intro w mg fa h KX G hmg;refine' OL.Ku KX G hmg ?ds ?y88 ?g1 ?h1 ?g2 ?h2 ?g3 ?g4 ?g5 ?g6 ?g7 ?zs ?x0 ?x1 ?xk ?xt ?xf
  (case ds => (repeat (refine' ⟨Pe ?a ?l ?c ?k, ?_⟩; (case a => k_is); (case l => k_is); (case c => k_is); (case k => k_is))); exact trivial)
  (case y88 => (refine' ⟨?a, ?b, ?c, ?d, ?e, ?f, ?g, ?n, ?m⟩; (case a => k_is); (case b => k_is); (case c => k_is); (case d => k_is); (case e => k_is); (case f => k_is); (case g => k_is); (case n => (repeat (refine' ⟨?a, ?_⟩; (case a => k_is))); exact trivial); (case m => (repeat (refine' ⟨Pa ?a ?i ?l ?c ?k, ?_⟩; (case a => k_is); (case i => k_is); (case l => k_is); (case c => k_is); (case k => k_is))); exact trivial)))
  (case g1 => k_is)
  (case h1 => k_is)
  (case g2 => k_is)
  (case h2 => k_is)
  (case g3 => k_is)
  (case g4 => k_is)
  (case g5 => k_is)
  (case g6 => k_is)
  (case g7 => k_is)
  (case zs => (repeat (refine' ⟨?a, ?_⟩; (case a => k_is))); exact trivial)
  (case x0 => k_is)
  (case x1 => k_is)
  (case xk => (refine' ⟨?zgt, ?zgg, ?zga, ?zgr, ?zgs, ?zgm, ?zgv, ?zxf, ?zex, ?zva, ?ztt, ?zoa⟩; (case zgt => k_is); (case zgg => k_is); (case zga => k_is); (case zgr => k_is); (case zgs => k_is); (case zgm => k_is); (case zgv => k_is); (case zxf => (refine' ⟨?yini, ?ygs, ?ygr, ?ygf, ?ymr, ?ysa, ?yfa, ?yga, ?ygn, ?ymb, ?ymo, ?yfc, ?ysp, ?ytk, ?yks⟩; (case yini => kernel_rfl); (case ygs => k_is); (case ygr => k_is); (case ygf => k_is); (case ymr => kernel_rfl); (case ysa => k_is); (case yfa => k_is); (case yga => k_is); (case ygn => k_is); (case ymb => k_is); (case ymo => k_is); (case yfc => k_is); (case ysp => k_is); (case ytk => k_is); (case yks => kernel_rfl))); (case zex => kernel_rfl); (case zva => kernel_rfl); (case ztt => kernel_rfl); (case zoa => kernel_rfl)))
  (case xt => k_is)
  (case xf => (refine' Pc ?l ?c ?k; (case l => k_is); (case c => k_is); (case k => k_is)))
