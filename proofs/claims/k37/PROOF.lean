import PyProof.Rows.All
import Wide.All
import OpenK.AllK
import Wide.FinOn
import Lean
import PyProof.EqAt
import PyProof.EqKinds
import PyProof.TupleCall
import PySem.Challenge.RW_oneglance_k37_two_keepers_by_turns
local macro_rules|`(tactic|trivial)=>`(tactic|exact Or.inl rfl)
local macro_rules|`(tactic|trivial)=>`(tactic|exact Or.inr rfl)
set_option maxHeartbeats 4000000
set_option Elab.async false
set_option linter.all false
set_option maxRecDepth 100000
noncomputable section
open Option renaming bind_eq_some_iff→Q0, bind_some→Q6, isSome_iff_exists→Qp, map_eq_some_iff→Qo, map_some→Z6
open PySem.W renaming Frag→Q1
open PySem renaming wpAny_bind→Q2, wpAny_pure→QY, wpAny_mono→Qh
open PySem.Heap renaming get?_push_of_some→Q3, lt_size→Q9, get?_push_size→QN
open List renaming getElem?_eq_some_iff→Q4, mem_cons_of_mem→Q8, replicate→QQ, length_map→QZ, size_toArray→QX, length_cons→QJ, getElem?_eq_getElem→QV, mem_append_right→QK, map_cons→QU, mem_cons_self→QB, length_append→QH, range→QF, mem_cons→QC, getElem?_set_ne→QM, getElem?_map→Qq, mem_singleton→Qz, find?_cons→Qx, getElem?_append_right→Qj, getElem?_append_left→Qk, append_assoc→Qy, mem_map→Qw, map_map→Qr, nil_append→Qu, mem_append→Qb, map_congr_left→Qg, getElem?_set→Qd, cons_append→Qa, mem_range→Qc, length_set→Qm, lookup_cons→Qn, getElem?_replicate→Ql, replicate_succ→Qi, map_nil→Qs, any_cons→Z0, getElem?_cons_zero→Z8, getElem?_cons_succ→Z9, nodup_cons→ZZ, flatten_cons→ZX, getD_eq_getElem?_getD→ZV
open Nat renaming le_refl→Q5, lt_of_lt_of_le→QR, ne_of_lt→QD, le_trans→QL, zero_le→Qe, lt_irrefl→Qt
open Bool renaming false_ne_true→Q7, eq_iff_iff→Z7, false_eq_true→ZQ
open Array renaming length_toList→Qv, getD_eq_getD_getElem?→ZJ
namespace L2
open PySem PySem.Spec PyProof.Rows
abbrev Key:=Sum Int Str
def mW:Key->Value->Bool
 |.inl k,v=>Value.isInt k v
 |.inr x,v=>Value.isStrOf x v
def He(w:World):Key->Int
 |.inl k=>hashInt k
 |.inr x=>hashStr w x
theorem bo:∀{k:Key} {v:Value},mW k v=true->(∃i t,k=Sum.inl i/\v=Value.int i t)\/(∃x t,k=Sum.inr x/\v=Value.str x t)
 |.inl i,v,h=>by
  obtain⟨t,e⟩:=Value.isInt_shape (k:=i) (v:=v) h;exact .inl ⟨i,t,rfl,e⟩
 |.inr x,v,h=>by
  obtain⟨t,e⟩:=Value.isStrOf_shape (x:=x) (v:=v) h;exact .inr ⟨x,t,rfl,e⟩
def tN(i:Int)(t:Tok):mW (.inl i) (.int i t)=true:=by simp[mW,Value.isInt]
def tM(x:Str)(t:Tok):mW (.inr x) (.str x t)=true:=by simp[mW,Value.isStrOf]
theorem CK(a b:Int):decide ((Sum.inl a:Key)=Sum.inl b)=(a == b):=by
 by_cases e:a=b
 ·subst e;simp
 ·have h:¬(Sum.inl a:Key)=Sum.inl b:=fun q=>e (Sum.inl.inj q);rw[decide_eq_false h];exact(beq_eq_false_iff_ne.mpr e).symm
theorem CF(a b:Str):decide ((Sum.inr a:Key)=Sum.inr b)=decide (a=b):=by
 by_cases e:a=b
 ·subst e;simp
 ·have h:¬(Sum.inr a:Key)=Sum.inr b:=fun q=>e (Sum.inr.inj q);rw[decide_eq_false h,decide_eq_false e]
def CJ(a:Int)(b:Str):decide ((Sum.inl a:Key)=Sum.inr b)=false:=decide_eq_false (fun q=>nomatch q)
def CH(a:Str)(b:Int):decide ((Sum.inr a:Key)=Sum.inl b)=false:=decide_eq_false (fun q=>nomatch q)
def bY(prog:Program)(w:World):PySem.KeyKind prog w Key where
 is:=mW
 hash:=He w
 inj:=fun v a b ha hb=>by
  rcases bo ha with⟨i,t,rfl,rfl⟩|⟨x,t,rfl,rfl⟩
  ·rcases bo hb with⟨j,u,rfl,e⟩|⟨y,u,rfl,e⟩
   ·injection e with e1 _;rw[e1]
   ·exact nomatch e
  ·rcases bo hb with⟨j,u,rfl,e⟩|⟨y,u,rfl,e⟩
   ·exact nomatch e
   ·injection e with e1 _;rw[e1]
 byValue:=fun k v h=>by
  rcases bo h with⟨i,t,rfl,rfl⟩|⟨x,t,rfl,rfl⟩<;>rfl
 pyHash:=fun hv h=>by
  rcases bo hv with⟨i,t,rfl,rfl⟩|⟨x,t,rfl,rfl⟩
  ·exact wpAny_pyHash_int h
  ·exact wpAny_pyHash_str h
 eqBool:=fun hu hv h=>by
  rcases bo hu with⟨i,t,rfl,rfl⟩|⟨x,t,rfl,rfl⟩
  ·rcases bo hv with⟨j,u,rfl,rfl⟩|⟨y,u,rfl,rfl⟩
   ·rw[CK]at h;exact wpAny_eqBool_int h
   ·rw[CJ]at h;exact SeqAt.EqAt.int_str i t y u _ _ _ _ h
  ·rcases bo hv with⟨j,u,rfl,rfl⟩|⟨y,u,rfl,rfl⟩
   ·rw[CH]at h;exact SeqAt.EqAt.str_int x t j u _ _ _ _ h
   ·rw[CF]at h;exact wpAny_eqBool_str h
 «strs»:=fun k x t v h=>by
  rcases bo h with⟨i,u,rfl,e⟩|⟨y,u,rfl,e⟩
  ·exact nomatch e
  ·injection e with e1 _;subst e1;cases v<;>rfl
def oo(prog:Program)(w:World)(i:Int)(t:Tok):(bY prog w).is (.inl i) (.int i t)=true:=tN i t
def om(prog:Program)(w:World)(x:Str)(t:Tok):(bY prog w).is (.inr x) (.str x t)=true:=tM x t
inductive V where
 |non|bl (b:Bool)|int (i:Int)|str (x:Str)|byt (b:Array UInt8)|flt (b:UInt64)|ref (a:Addr)|ty (n:String)
 deriving DecidableEq
def cu:V->Value->Prop
 |.non,u=>u=Value.none
 |.bl b,u=>u=Value.bool b
 |.int i,u=>∃t,u=Value.int i t
 |.str x,u=>∃t,u=Value.str x t
 |.byt b,u=>∃t,u=Value.bytes b t
 |.flt b,u=>∃t,u=Value.float b t
 |.ref a,u=>u=Value.ref a
 |.ty n,u=>u=Value.type n
abbrev bK:List V->List Value->Prop:=Paired cu
def bK.length{xs:List V}{us:List Value}(r:bK xs us):xs.length=us.length:=Paired.length r
theorem bK.get:∀{xs:List V} {us:List Value} {i:Nat} {x:V},bK xs us->xs[i]?=some x->∃u,us[i]?=some u/\cu x u
 |_,_,_,_,.nil,e=>by simp at e
 |_,_,0,_,.cons r _,e=>by simp at e;subst e;exact⟨_,rfl,r⟩
 |_,_,i+1,x,.cons _ t,e=>by
  obtain⟨u,h1,h2⟩:=bK.get (i:=i) (x:=x) t (by simpa using e);exact⟨u,by simpa using h1,h2⟩
theorem bK.set{x:V}{u:Value}(r:cu x u):∀{xs:List V} {us:List Value} (i:Nat),bK xs us->bK (xs.set i x) (us.set i u)
 |_,_,_,.nil=>.nil
 |_,_,0,.cons _ t=>.cons r t
 |_,_,i+1,.cons q t=>.cons q (bK.set r i t)
theorem bK.append:∀{xs ys:List V} {us ws:List Value},bK xs us->bK ys ws->bK (xs++ys) (us++ws)
 |_,_,_,_,.nil,s=>s
 |_,_,_,_,.cons r t,s=>.cons r (bK.append t s)
theorem bK.take:∀{xs:List V} {us:List Value} (n:Nat),bK xs us->bK (xs.take n) (us.take n)
 |_,_,0,_=>.nil
 |_,_,_+1,.nil=>.nil
 |_,_,n+1,.cons r t=>.cons r (bK.take n t)
theorem bK.drop:∀{xs:List V} {us:List Value} (n:Nat),bK xs us->bK (xs.drop n) (us.drop n)
 |_,_,0,r=>r
 |_,_,_+1,.nil=>.nil
 |_,_,n+1,.cons _ t=>bK.drop n t
def l0:Option V->Option Value->Prop
 |some v,some u=>cu v u
 |none,none=>True
 |_,_=>False
def KV{κ:Type}:List (κ×V)->List (κ×Value)->Prop:=Paired fun(p:κ×V) (q:κ×Value)=>p.1=q.1/\cu p.2 q.2
def kV:Key->V
 |.inl i=>.int i
 |.inr x=>.str x
inductive HO where
 |lst (xs:List V)
 |tup (xs:List V)
 |dK (kvs:List (Key×V))|dT (kvs:List (List Key×V))
 |set (S:Int->Bool) (n:Nat)
 |ins (C dx:Addr) (fs:List (Str×V))
 |own (x:Addr)
 |xd (fs:List (Str×V))
 |met (f x:Addr)
 |rng (lo hi:Int)
 |frz (o:Obj) (u:HO)
 |tbl (ps:Array Value)
 |ext (φ:Heap->Prop)
abbrev Hp:=Addr->Option HO
def upd(H:Hp)(a:Addr)(o:HO):Hp:=fun b=>if b=a then some o else H b
def aI{H:Hp}{a:Addr}{o:HO}:upd H a o a=some o:=by unfold upd;rw[if_pos rfl]
def aK{H:Hp}{a b:Addr}{o:HO}(h:b≠a):upd H a o b=H b:=by unfold upd;rw[if_neg h]
theorem FA{H:Hp}{a b:Addr}{o u:HO}(h:H a=some o)(h':H b=some u)(d:o≠u):a≠b:=by
 intro e;subst e;rw[h]at h';exact d (Option.some.inj h')
theorem cV{H:Hp}{a b:Addr}{o:HO}(h:H a=some o)(h':H b=none):a≠b:=by
 intro e;subst e;rw[h]at h';cases h'
section
variable(P:Program)(w:World)
def dE(H:Hp)(h:Heap)(a:Addr):HO->Prop
 |.lst xs=>xs.length<=sizeLine/\∃(its:List Value) (n:Nat),bK xs its/\h.get? a=some { cls:=.type "list",data:=.seq its.toArray n }
 |.tup xs=>xs.length<=sizeLine/\∃its:List Value,bK xs its/\IsTup h a its.toArray
 |.dK kvs=>kvs.length<=sizeLine/\(a == sysModules)=false/\∃vs,KV kvs vs/\h.DictOf (bY P w) a vs
 | .dT kvs=>kvs.length<=sizeLine/\(a == sysModules)=false/\∃xs:List (List Key×Addr×Value),
   Paired (fun(p:List Key×V) (q:List Key×Addr×Value)=>p.1=q.1/\H q.2.1=some (.tup (p.1.map kV))/\cu p.2 q.2.2) kvs xs/\
   ∃o es ep,h.get? a=some o/\o.ExactDict/\o.data=.dict es ep/\es.toList=xs.map (entryOfKey (tupleKind (bY P w)))/\(xs.map (·.1)).Nodup
 |.set S n=>h.SetOf (intKind P w) a S n
 | .ins C dx fs=>H dx=some (.own a)/\fs.length<=1000/\dx≠a/\h.get? a=some (PySem.W.instObj C dx)/\
   ∃mA,h.Ns1 dx mA/\(∀f,l0 (fs.lookup f) (mA f))/\PySem.Within mA (fs.map (·.1))
 |.own _=>∃o,h.get? a=some o
 |.xd fs=>∃mA,h.Ns1 a mA/\∀f,l0 (fs.lookup f) (mA f)
 |.rng lo hi=>∃t u v,h.get? a=some { cls:=.type "range",data:=.fields #[.int lo t,.int hi u,.int 1 v] }
 |.frz o u=>h.get? a=some o/\dE H h a u
 |.tbl ps=>h.get? a=some { cls:=.none,data:=.fields ps }
 |.met f x=>h.get? a=some (PySem.W.methodObj (.ref f) (.ref x))
 |.ext φ=>φ h/\(∃o,h.get? a=some o)/\∀h1 h2:Heap,φ h1->(∀o,h1.get? a=some o->h2.get? a=some o)->φ h2
def HOk(H:Hp)(h:Heap):Prop:=∀a o,H a=some o->dE P w H h a o
end
section
variable{P:Program}{w:World}{H H':Hp}{h h':Heap}{a:Addr}{o:HO}
theorem dE.lt(x:dE P w H h a o):a<h.objs.size:=by
 cases o with
 |lst xs=>obtain⟨_,_,_,_,e⟩:=x;exact Q9 e
 |tup xs=>obtain⟨_,_,_,p⟩:=x;exact p.lt
 |dK kvs=>obtain⟨_,_,_,_,o,_,_,e,_⟩:=x;exact Q9 e
 |dT kvs=>obtain⟨_,_,_,_,o,_,_,e,_⟩:=x;exact Q9 e
 |set S n=>obtain⟨o,_,_,_,e,_⟩:=x;exact Q9 e
 |ins C dx fs=>obtain⟨_,_,_,e,_⟩:=x;exact Q9 e
 |own y=>obtain⟨_,e⟩:=x;exact Q9 e
 |xd fs=>obtain⟨_,⟨_,_,_,e,_⟩,_⟩:=x;exact Q9 e
 |rng lo hi=>obtain⟨_,_,_,e⟩:=x;exact Q9 e
 |frz ob u=>obtain⟨e,_⟩:=x;exact Q9 e
 |tbl ps=>exact Q9 (show h.get? a=some _ from x)
 |met f y=>exact Q9 (show h.get? a=some _ from x)
 |ext φ=>obtain⟨_,⟨_,e⟩,_⟩:=x;exact Q9 e
theorem Paired.mapP{α β:Type}{F G:α->β->Prop}:∀{l₁:List α} {l₂:List β},Paired F l₁ l₂->(∀a b,F a b->G a b)->Paired G l₁ l₂
 |_,_,.nil,_=>.nil
 |_,_,.cons r t,f=>.cons (f _ _ r) (Paired.mapP t f)
theorem dE.stay(x:dE P w H h a o)(k:∀b u,(b=a\/H b=some (.own a))->h.get? b=some u->h'.get? b=some u)
  (ho:∀b,H b=some (.own a)->H' b=some (.own a)) (ht:∀b xs,H b=some (.tup xs)->H' b=some (.tup xs)):dE P w H' h' a o:=by
 induction o with
 |lst xs=>obtain⟨z,its,n,r,e⟩:=x;exact⟨z,its,n,r,k _ _ (.inl rfl) e⟩
 |tup xs=>obtain⟨z,its,r,ob,e,c⟩:=x;exact⟨z,its,r,ob,k _ _ (.inl rfl) e,c⟩
 |dK kvs=>obtain⟨z,y,vs,r,ob,es,ep,e,c⟩:=x;exact⟨z,y,vs,r,ob,es,ep,k _ _ (.inl rfl) e,c⟩
 |dT kvs=>
  obtain⟨z,y,xs,r,ob,es,ep,e,c⟩:=x;exact⟨z,y,xs,Paired.mapP r fun p q z=>⟨z.1,ht _ _ z.2.1,z.2.2⟩,ob,es,ep,k _ _ (.inl rfl) e,c⟩
 |set S n=>obtain⟨ob,es,ep,t,e,c⟩:=x;exact⟨ob,es,ep,t,k _ _ (.inl rfl) e,c⟩
 |ins C dx fs=>
  obtain⟨d,z,ne,e,mA,⟨od,es,ep,e2,c⟩,r⟩:=x;exact⟨ho _ d,z,ne,k _ _ (.inl rfl) e,mA,⟨od,es,ep,k _ _ (.inr d) e2,c⟩,r⟩
 |own y=>obtain⟨ob,e⟩:=x;exact⟨ob,k _ _ (.inl rfl) e⟩
 |xd fs=>obtain⟨mA,⟨od,es,ep,e,c⟩,r⟩:=x;exact⟨mA,⟨od,es,ep,k _ _ (.inl rfl) e,c⟩,r⟩
 |rng lo hi=>obtain⟨t,u,v,e⟩:=x;exact⟨t,u,v,k _ _ (.inl rfl) e⟩
 |frz ob u ih=>obtain⟨e,q⟩:=x;exact⟨k _ _ (.inl rfl) e,ih q⟩
 |tbl ps=>
  have e:h.get? a=some { cls:=.none,data:=.fields ps }:=x;show h'.get? a=some { cls:=.none,data:=.fields ps };exact k a _ (.inl rfl) e
 |met f y=>
  have e:h.get? a=some (PySem.W.methodObj (.ref f) (.ref y)):=x;show h'.get? a=some (PySem.W.methodObj (.ref f) (.ref y));exact k a _ (.inl rfl) e
 |ext φ=>obtain⟨p,⟨o,e⟩,st⟩:=x;exact⟨st _ _ p fun o q=>k _ _ (.inl rfl) q,⟨o,k _ _ (.inl rfl) e⟩,st⟩
def HOk.lt(x:HOk P w H h)(e:H a=some o):a<h.objs.size:=(x a o e).lt
theorem HOk.fresh(x:HOk P w H h)(e:h.objs.size<=a):H a=none:=by
 cases q:H a with
 |none=>rfl
 |some u=>exact absurd (QR (x.lt q) e) (Qt _)
theorem HOk.kept(x:HOk P w H h)(k:∀b u,h.get? b=some u->h'.get? b=some u):HOk P w H h':=fun a o e=>
 (x a o e).stay (fun b u _ q=>k b u q) (fun _ q=>q) fun _ _ q=>q
theorem HOk.laid(x:HOk P w H h)(k:∀b u,h.get? b=some u->h'.get? b=some u)(hp:h.objs.size<=a)(new:dE P w (upd H a o) h' a o):HOk P w (upd H a o) h':=fun b u e=>by
 have hn:=x.fresh hp;by_cases hb:b=a
 ·subst hb;rw[aI]at e;cases e;exact new
 ·rw[aK hb]at e;exact(x b u e).stay (fun c v _ q=>k c v q) (fun c q=>by rw[aK (cV q hn)];exact q) fun c xs q=>by rw[aK (cV q hn)];exact q
end
def Rd(H:Hp)(a:Addr)(u:HO):Prop:=H a=some u\/∃o,H a=some (.frz o u)
theorem Rd.ok{P:Program}{w:World}{H:Hp}{h:Heap}{a:Addr}{u:HO}(r:Rd H a u)(x:HOk P w H h):dE P w H h a u:=by
 rcases r with r|⟨o,r⟩
 ·exact x a u r
 ·obtain⟨_,q⟩:=x a _ r;exact q
def Mut:Option HO->Prop
 |some (.lst _)=>True
 |some (.dK _)=>True
 |some (.dT _)=>True
 |some (.set _ _)=>True
 |some (.ins _ _ _)=>True
 |some (.ext _)=>True
 |_=>False
section
variable{P:Program}{w:World}{H:Hp}{h h':Heap}{x e:Addr}{o':HO}
theorem HOk.write(ok:HOk P w H h)(mu:Mut (H x))(he:e=x\/H e=some (.own x))(k:∀b u,b≠e->h.get? b=some u->h'.get? b=some u)(heo:∃u,h'.get? e=some u)
  (new:dE P w (upd H x o') h' x o'):HOk P w (upd H x o') h':=fun b u q=>by
 have nown:∀c y,H c=some (.own y)->c≠x:=fun c y r z=>by subst z;rw[r]at mu;exact mu
 have ntup:∀c xs,H c=some (.tup xs)->c≠x:=fun c xs r z=>by subst z;rw[r]at mu;exact mu
 by_cases hb:b=x
 ·subst hb;rw[aI]at q;cases q;exact new
 ·rw[aK hb]at q;by_cases hbe:b=e
  ·have q':H b=some (.own x):=by
    rcases he with z|z
    ·exact absurd (hbe.trans z) hb
    ·rw[hbe];exact z
   rw[q]at q';cases q';obtain⟨v,hv⟩:=heo;exact⟨v,by rw[hbe];exact hv⟩
  ·refine(ok b u q).stay (fun c v hc r=>k c v ?_ r) (fun c r=>by rw[aK (nown c b r)];exact r) fun c xs r=>by rw[aK (ntup c xs r)];exact r
   rcases hc with rfl|hc
   ·exact hbe
   ·rintro rfl;rcases he with z|z
    ·exact nown c b hc z
    ·rw[hc]at z;cases z;exact hb rfl
end
structure Un(fs ex:List Addr)(H H':Hp)(h h':Heap):Prop where
 keep:∀b o,h.get? b=some o->H b=none->b∉fs->b∉ex->h'.get? b=some o
 slot:∀b o,h.get? b=some o->H b=none->b∈fs->b∉ex->∃sl,h'.get? b=some { o with slots:=sl }
 free:∀b o,h.get? b=some o->H b=none->b∉ex->H' b=none
 there:∀b o,h.get? b=some o->b∉ex->∃o',h'.get? b=some o'
 tups:∀b xs,H b=some (.tup xs)->H' b=some (.tup xs)
 frzs:∀b o u,H b=some (.frz o u)->H' b=some (.frz o u)
 tbls:∀b ps,H b=some (.tbl ps)->∃more,H' b=some (.tbl (ps++more))
section
variable{fs ex:List Addr}{H H1:Hp}{h h1 h':Heap}{a x e:Addr}{o:HO}
theorem Un.any(u:Un fs ex H H1 h h1){b:Addr}{ob:Obj}(q:h.get? b=some ob)(n:H b=none)(hx:b∉ex):∃sl,h1.get? b=some { ob with slots:=sl }:=by
 by_cases hb:b∈fs
 ·exact u.slot b ob q n hb hx
 ·exact⟨ob.slots,u.keep b ob q n hb hx⟩
theorem Un.kept(k:∀b u,h.get? b=some u->h'.get? b=some u):Un fs ex H H h h':=
 ⟨fun b ob q _ _ _=>k b ob q,fun b ob q _ _ _=>⟨ob.slots,k b ob q⟩,fun _ _ _ n _=>n,fun b ob q _=>⟨ob,k b ob q⟩,fun _ _ q=>q,fun _ _ _ q=>q,fun _ ps q=>⟨#[],by rw[q];simp⟩⟩
def Un.refl:Un fs ex H H h h:=Un.kept fun _ _ q=>q
theorem Un.laid(k:∀b u,h.get? b=some u->h'.get? b=some u)(hp:h.objs.size<=a)(hn:H a=none):Un fs ex H (upd H a o) h h' where
 keep:=fun b u q _ _ _=>k b u q
 slot:=fun b u q _ _ _=>⟨u.slots,k b u q⟩
 free:=fun b u q n _=>by rw[aK (QD (QR (Q9 q) hp))];exact n
 there:=fun b u q _=>⟨u,k b u q⟩
 tups:=fun b xs q=>by rw[aK (cV q hn)];exact q
 frzs:=fun b u xs q=>by rw[aK (cV q hn)];exact q
 tbls:=fun b ps q=>⟨#[],by rw[aK (cV q hn),q];simp⟩
theorem Un.write(mu:Mut (H x))(he:e=x\/H e=some (.own x))(k:∀b u,b≠e->h.get? b=some u->h'.get? b=some u)(heo:∃u,h'.get? e=some u):Un fs ex H (upd H x o) h h':=by
 have hx:∀b,H b=none->b≠x:=fun b n z=>by subst z;rw[n]at mu;exact mu
 have hb:∀b,H b=none->b≠e:=fun b n z=>by
  subst z;rcases he with r|r
  ·exact hx b n r
  ·rw[n]at r;cases r
 have hm:∀b u,H b=some u->¬Mut (some u)->b≠x:=fun b u q nm z=>by subst z;rw[q]at mu;exact nm mu
 refine⟨fun b u q n _ _=>k b u (hb b n) q,fun b u q n _ _=>⟨u.slots,k b u (hb b n) q⟩,fun b u q n _=>by rw[aK (hx b n)];exact n,fun b u q _=>?_,
  fun b xs q=>by rw[aK (hm b _ q fun z=>z)];exact q,fun b u xs q=>by rw[aK (hm b _ q fun z=>z)];exact q,fun b ps q=>⟨#[],by rw[aK (hm b _ q fun z=>z),q];simp⟩⟩
 by_cases hbe:b=e
 ·subst hbe;exact heo
 ·exact⟨u,k b u hbe q⟩
end
def trk(h:Heap)(H:Hp):List Addr:=(QF h.objs.size).filter fun a=>(H a).isSome
def wJ(h:Heap)(H:Hp):Heap:=PySem.W.hideAll h (trk h H)
def t8(h:Heap)(H:Hp):(wJ h H).objs.size=h.objs.size:=PySem.W.hideAll_size _ _
theorem lG{h:Heap}{H:Hp}{b:Addr}{o:Obj}(e:h.get? b=some o)(n:H b=none):(wJ h H).get? b=some o:=
 PySem.W.hideAll_get _ e fun hm=>by
  have q:(H b).isSome=true:=(List.mem_filter.mp hm).2;rw[n]at q;simp at q
theorem zV{h:Heap}{H:Hp}{b:Addr}{o:Obj}(e:(wJ h H).get? b=some o):h.get? b=some o/\H b=none:=by
 have e':h.get? b=some o:=PySem.W.of_hideAll (trk h H) e;refine⟨e',?_⟩;cases q:H b with
 |none=>rfl
 |some x=>
  have hm:b∈trk h H:=List.mem_filter.mpr ⟨Qc.mpr (Q9 e'),by simp[q]⟩;have z:(wJ h H).get? b=none:=PySem.W.hideAll_none (trk h H) hm;rw[z]at e;cases e
structure Mod(K:Q1)(mg:Str->Option Value)(base:Heap):Prop where
 kin:K.In base
 glob:base.Ns mainGlobals mg
 blt:∃mb,base.Ns builtinsNs mb/\∀x:Str,x≠"__name__"->mb x=bootBuiltins x
 nolimit:base.NoLimit
structure Cx where
 prog:Program
 w:World
 K:Q1
 mg:Str->Option Value
 base:Heap
 A:Around
 N:List Str
 s₀:Shared
 H₀:Hp
 env:Env
 outer:List Env
 stack:List Env
 ex:List Addr
 fn:Str->Bool
 calm:Bool
 pn:List (Addr×Obj)
 xe:Value->Shared->Prop
def frs(l:List Env):List Addr:=l.filterMap (·.frame)
abbrev Cx.fs(X:Cx):List Addr:=frs X.outer
def Vis(sc:Scope)(x:Str):Prop:=sc.names.lookup x=some .local\/sc.names.lookup x=some .cell\/sc.names.lookup x=some .free
def Loc(sc:Scope)(x:Str):Prop:=sc.names.lookup x=some .local\/sc.names.lookup x=some .cell
def Hk(env:Env)(h:Heap)(m:Str->Option Value)(x:Str)(u:Value):Prop:=
 (env.kindOf x=some .local/\m x=some u)\/((env.kindOf x=some .cell\/env.kindOf x=some .free)/\∃c,env.cells.lookup x=some c/\h.IsCell c (some u))
structure Cx.Ok(X:Cx):Prop where
 mod:Mod X.K X.mg X.base
 kind:X.env.scope.kind=.function
 glob:X.env.globals=mainGlobals
 blt:X.env.builtins=builtinsNs
 above:X.s₀.heap.objs.size<=X.env.locals
 inj:∀x y c,X.env.cells.lookup x=some c->X.env.cells.lookup y=some c->x=y
 has:∀x,(X.env.kindOf x=some .cell\/X.env.kindOf x=some .free)->∃c,X.env.cells.lookup x=some c
 cab:∀x c,X.fn x=true->X.env.cells.lookup x=some c->X.s₀.heap.objs.size<=c
 hd:X.calm=true->X.A.handled=none
 frames:X.A.frames=some X.stack
 stk:X.stack=X.outer\/(X.stack=X.env::X.outer/\X.env.frame=some X.env.locals)
 exf:∀b∈X.ex,b≠X.env.locals/\∀x c,X.env.cells.lookup x=some c->c≠b
 bs:∀b o,X.base.get? b=some o->X.s₀.heap.get? b=some o/\X.H₀ b=none
 bsz:X.base.objs.size<=X.s₀.heap.objs.size
 noex:∀b o,X.base.get? b=some o->b∉X.ex
 exfs:∀b∈X.ex,b∉X.fs
 funs:X.s₀.heap.FunFrames X.base X.outer
 frf:∀b∈X.fs,X.H₀ b=none
structure Inv(X:Cx)(pins:List (Addr×Obj))(σ:List (Option V))(H:Hp)(s:Shared):Prop where
 ok:X.Ok
 os:s.os=X.s₀.os
 bare:AllBare s.gens
 base:Un X.fs X.ex X.H₀ H X.s₀.heap s.heap
 loc:∃m,s.heap.Ns X.env.locals m/\∀(i:Nat) (x:Str) (v:V),X.N[i]?=some x->σ[i]?=some (some v)->Vis X.env.scope x->∃u,cu v u/\Hk X.env s.heap m x u
 cell:∀x c,X.env.cells.lookup x=some c->∃v,s.heap.IsCell c v
 free:H X.env.locals=none
 freeC:∀x c,X.env.cells.lookup x=some c->H c=none
 pin:∀p∈X.pn++pins,s.heap.get? p.1=some p.2/\H p.1=none/\p.1≠X.env.locals/\p.1∉X.fs/\∀v,p.2.data≠.cell v
 hok:HOk X.prog X.w H s.heap
 len:σ.length=X.N.length
section
variable{X:Cx}{pins:List (Addr×Obj)}{σ:List (Option V)}{H H':Hp}{s:Shared}{h':Heap}
theorem Cx.Ok.nofr(ok:X.Ok){b:Addr}{o:Obj}(e:X.base.get? b=some o):b∉X.fs:=fun hb=>by
 have:=(ok.funs.mem hb).1;rw[e]at this;cases this
theorem Inv.bs(I:Inv X pins σ H s):∀b o,X.base.get? b=some o->s.heap.get? b=some o/\H b=none:=fun b o e=>
 ⟨I.base.keep b o (I.ok.bs b o e).1 (I.ok.bs b o e).2 (I.ok.nofr e) (I.ok.noex b o e),I.base.free b o (I.ok.bs b o e).1 (I.ok.bs b o e).2 (I.ok.noex b o e)⟩
def Inv.bk(I:Inv X pins σ H s):∀b o,X.base.get? b=some o->s.heap.get? b=some o:=fun b o e=>(I.bs b o e).1
def Inv.mod(I:Inv X pins σ H s):Mod X.K X.mg X.base:=I.ok.mod
def Inv.kIn(I:Inv X pins σ H s):X.K.In s.heap:=I.ok.mod.kin.keeps I.bk
def Inv.lt(I:Inv X pins σ H s):X.env.locals<s.heap.objs.size:=let ⟨_,hn,_⟩:=I.loc;hn.lt
def Inv.sz(I:Inv X pins σ H s):X.s₀.heap.objs.size<=s.heap.objs.size:=QL I.ok.above (Nat.le_of_lt I.lt)
theorem Inv.nofs(I:Inv X pins σ H s){a:Addr}(h:s.heap.objs.size<=a):a∉X.fs:=fun hb=>by
 obtain⟨_,o,ho,_⟩:=I.ok.funs.mem hb;exact absurd (QR (Q9 ho) (QL I.sz h)) (Qt _)
theorem Inv.cne(I:Inv X pins σ H s):∀x c,X.env.cells.lookup x=some c->c≠X.env.locals:=fun x c e z=>by
 obtain⟨v,o,ho,hd⟩:=I.cell x c e;obtain⟨m,⟨o',es,ep,ho',hd',_⟩,_⟩:=I.loc;rw[z,ho']at ho;cases ho;rw[hd']at hd;cases hd
theorem Inv.funs(I:Inv X pins σ H s):s.heap.FunFrames X.base X.outer:=by
 have all:∀(l:List Env),(∀b∈frs l,b∈X.fs)->X.s₀.heap.FunFrames X.base l->s.heap.FunFrames X.base l:=by
  intro l;induction l with
  |nil=>intro _ _;trivial
  |cons env r ih=>
   intro hs hl;obtain⟨hk,⟨L,o,hf,hn,ho,hd⟩,hr⟩:=hl;have hL:L∈X.fs:=hs L (by unfold frs;rw[List.filterMap_cons,hf];exact QB);obtain⟨sl,e⟩:=I.base.slot L o ho (I.ok.frf L hL) hL fun z=>I.ok.exfs L z hL;exact⟨hk,⟨L,_,hf,hn,e,hd⟩,ih (fun b hb=>hs b (by unfold frs;rw[List.filterMap_cons,hf];exact Q8 _ hb)) hr⟩
 exact all X.outer (fun _ hb=>hb) I.ok.funs
theorem Inv.stack(I:Inv X pins σ H s):s.heap.FunFrames X.base X.stack:=by
 rcases I.ok.stk with e|⟨e,hf⟩
 ·rw[e];exact I.funs
 ·rw[e];obtain⟨m,hn,_⟩:=I.loc;refine .cons (by rw[I.ok.kind];decide) hf hn ?_ I.funs;exact Heap.get?_none_of_le (QL I.ok.bsz I.ok.above)
theorem Inv.stkSub(I:Inv X pins σ H s):∀b∈frs X.stack,b∈X.env.locals::X.fs:=fun b hb=>by
 rcases I.ok.stk with e|⟨e,hf⟩
 ·rw[e]at hb;exact Q8 _ hb
 ·rw[e]at hb;unfold frs at hb;rw[List.filterMap_cons,hf]at hb;exact hb
theorem Inv.stkFree(I:Inv X pins σ H s):∀b∈frs X.stack,H b=none:=fun b hb=>by
 rcases QC.mp (I.stkSub b hb)with e|hb
 ·rw[e];exact I.free
 ·obtain⟨_,o,ho,_⟩:=I.ok.funs.mem hb;exact I.base.free b o ho (I.ok.frf b hb) fun z=>I.ok.exfs b z hb
theorem Inv.step{g':Array GenState}{t':Nat}{d':Drawn}{ch:List Addr}(I:Inv X pins σ H s)
  (hch:∀b∈ch,(b∈X.ex\/X.s₀.heap.objs.size<=b)/\b≠X.env.locals/\(∀x c,X.env.cells.lookup x=some c->c≠b)/\∀p∈X.pn++pins,p.1≠b)
  (keep:∀b o,b≠X.env.locals->b∉X.fs->b∉ch->s.heap.get? b=some o->H b=none->h'.get? b=some o)
  (slot:∀b o,b≠X.env.locals->b∈X.fs->b∉ch->s.heap.get? b=some o->H b=none->∃sl,h'.get? b=some { o with slots:=sl }) (free:∀b o,b∉ch->s.heap.get? b=some o->H b=none->H' b=none)
  (there:∀b o,b∉ch->s.heap.get? b=some o->∃o',h'.get? b=some o')
  (tups:∀b xs,H b=some (.tup xs)->H' b=some (.tup xs)) (frzs:∀b o u,H b=some (.frz o u)->H' b=some (.frz o u)) (tbls:∀b ps,H b=some (.tbl ps)->∃more,H' b=some (.tbl (ps++more)))
  (ns:∀m,s.heap.Ns X.env.locals m->h'.Ns X.env.locals m) (hok:HOk X.prog X.w H' h') (hg:AllBare g') :
  Inv X pins σ H' { s with heap:=h',gens:=g',drawn:=d',toks:=t' }:=by
 have neL:∀b o,X.s₀.heap.get? b=some o->b≠X.env.locals:=fun b o e=>QD (QR (Q9 e) I.ok.above);have neC:∀b o,X.s₀.heap.get? b=some o->b∉X.ex->b∉ch:=fun b o e hx hb=>by
  rcases(hch b hb).1 with z|z
  ·exact hx z
  ·exact absurd (QR (Q9 e) z) (Qt _)
 have cellK:∀x c,X.env.cells.lookup x=some c->∀v,s.heap.IsCell c v->h'.IsCell c v:=fun x c e v ⟨o,ho,hd⟩=>by
  have nch:c∉ch:=fun z=>(hch c z).2.2.1 x c e rfl;by_cases hc:c∈X.fs
  ·obtain⟨sl,q⟩:=slot c o (I.cne x c e) hc nch ho (I.freeC x c e);exact⟨_,q,hd⟩
  ·exact⟨o,keep c o (I.cne x c e) hc nch ho (I.freeC x c e),hd⟩
 refine⟨I.ok,I.os,hg,⟨fun b o e n hb hx=>?_,fun b o e n hb hx=>?_,fun b o e n hx=>?_,fun b o e hx=>?_,fun b xs e=>tups b xs (I.base.tups b xs e),fun b o xs e=>frzs b o xs (I.base.frzs b o xs e),fun b ps e=>?_⟩,?_,fun x c e=>?_,?_,fun x c e=>?_,fun p hp=>?_,hok,I.len⟩
 ·exact keep b o (neL b o e) hb (neC b o e hx) (I.base.keep b o e n hb hx) (I.base.free b o e n hx)
 ·obtain⟨sl,e1⟩:=I.base.slot b o e n hb hx;obtain⟨sl',e2⟩:=slot b _ (neL b o e) hb (neC b o e hx) e1 (I.base.free b o e n hx);exact⟨sl',e2⟩
 ·obtain⟨o',e1⟩:=I.base.there b o e hx;exact free b o' (neC b o e hx) e1 (I.base.free b o e n hx)
 ·obtain⟨o',e1⟩:=I.base.there b o e hx;exact there b o' (neC b o e hx) e1
 ·obtain⟨m1,e1⟩:=I.base.tbls b ps e;obtain⟨m2,e2⟩:=tbls b _ e1;exact⟨m1++m2,by rw[e2,Array.append_assoc]⟩
 ·obtain⟨m,hn,hl⟩:=I.loc;refine⟨m,ns m hn,fun i x v e1 e2 e3=>?_⟩;obtain⟨u,r,l⟩:=hl i x v e1 e2 e3;refine⟨u,r,?_⟩;rcases l with l|⟨k,c,e,z⟩
  ·exact .inl l
  ·exact .inr ⟨k,c,e,cellK x c e _ z⟩
 ·obtain⟨v,z⟩:=I.cell x c e;exact⟨v,cellK x c e v z⟩
 ·obtain⟨m,⟨o,_,_,ho,_⟩,_⟩:=I.loc;exact free _ o (fun z=>(hch _ z).2.1 rfl) ho I.free
 ·obtain⟨v,o,ho,hd⟩:=I.cell x c e;exact free c o (fun z=>(hch c z).2.2.1 x c e rfl) ho (I.freeC x c e)
 ·obtain⟨e,n,ne,nf,d⟩:=I.pin p hp;have nch:p.1∉ch:=fun z=>(hch p.1 z).2.2.2 p hp rfl;exact⟨keep p.1 p.2 ne nf nch e n,free p.1 p.2 nch e n,ne,nf,d⟩
theorem Inv.un{t':Nat}(I:Inv X pins σ H s)(u:Un X.fs [] H H' s.heap h')(hok:HOk X.prog X.w H' h'):Inv X pins σ H' { s with heap:=h',toks:=t' }:=by
 obtain⟨m,⟨o,es,ep,ho,r⟩,_⟩:=id I.loc;obtain⟨sl,hL⟩:=u.any ho I.free (by simp);exact I.step (g':=s.gens) (d':=s.drawn) (ch:=[]) (fun _ z=>nomatch z) (fun b o _ hb _ e n=>u.keep b o e n hb (by simp)) (fun b o _ hb _ e n=>u.slot b o e n hb (by simp)) (fun b o _ e n=>u.free b o e n (by simp)) (fun b o _ e=>u.there b o e (by simp)) u.tups u.frzs u.tbls (fun m' hm=>by
  obtain⟨o',es',ep',ho',r'⟩:=hm;rw[ho]at ho';cases ho';exact⟨_,es',ep',hL,r'⟩) hok I.bare
theorem Inv.call{g':Array GenState}{t':Nat}{d':Drawn}{ch:List Addr}(I:Inv X pins σ H s)(u:Un (frs X.stack) ch H H' s.heap h')(hok:HOk X.prog X.w H' h')(hg:AllBare g')
  (hch:∀b∈ch,(b∈X.ex\/X.s₀.heap.objs.size<=b)/\b≠X.env.locals/\(∀x c,X.env.cells.lookup x=some c->c≠b)/\∀p∈X.pn++pins,p.1≠b) :
  Inv X pins σ H' { s with heap:=h',gens:=g',drawn:=d',toks:=t' }:=by
 obtain⟨m,⟨o,es,ep,ho,r⟩,_⟩:=id I.loc;obtain⟨sl,hL⟩:=u.any ho I.free fun z=>(hch _ z).2.1 rfl;exact I.step (ch:=ch) hch (fun b o hL hb hc e n=>u.keep b o e n (fun z=>(QC.mp (I.stkSub b z)).elim hL hb) hc) (fun b o _ _ hc e n=>u.any e n hc) (fun b o hc e n=>u.free b o e n hc) (fun b o hc e=>u.there b o e hc) u.tups u.frzs u.tbls (fun m' hm=>by
  obtain⟨o',es',ep',ho',r'⟩:=hm;rw[ho]at ho';cases ho';exact⟨_,es',ep',hL,r'⟩) hok hg
theorem Inv.turned{t':Nat}{it:Addr}(I:Inv X pins σ H s)(k:∀b o,b≠it->s.heap.get? b=some o->h'.get? b=some o)(hn:H it=none)(hL:it≠X.env.locals)
  (h1:it∈X.ex\/X.s₀.heap.objs.size<=it) (h2:∀x c,X.env.cells.lookup x=some c->c≠it) (h3:∀p∈X.pn++pins,p.1≠it):Inv X pins σ H { s with heap:=h',toks:=t' }:=by
 have nit:∀b u,H b=some u->b≠it:=fun b u e z=>by rw[z,hn]at e;cases e
 refine I.step (g':=s.gens) (d':=s.drawn) (ch:=[it]) (fun b hb=>?_) (fun b o _ _ hc e _=>k b o (fun z=>hc (by simp[z])) e) (fun b o _ _ hc e _=>⟨o.slots,k b o (fun z=>hc (by simp[z])) e⟩) (fun _ _ _ _ n=>n)
  (fun b o hc e=>⟨o,k b o (fun z=>hc (by simp[z])) e⟩) (fun _ _ e=>e) (fun _ _ _ e=>e) (fun b ps e=>⟨#[],by rw[e];simp⟩) (fun m hm=>?_) (fun b u e=>?_) I.bare
 ·have e:b=it:=by simpa using hb
  subst e;exact⟨h1,hL,h2,h3⟩
 ·obtain⟨o,es,ep,ho,r⟩:=hm;exact⟨o,es,ep,k _ o (Ne.symm hL) ho,r⟩
 ·refine(I.hok b u e).stay (fun c v hc q=>k c v ?_ q) (fun _ q=>q) fun _ _ q=>q;rcases hc with z|z
  ·rw[z];exact nit b u e
  ·exact nit c _ z
def Inv.tok(I:Inv X pins σ H s)(t:Nat):Inv X pins σ H { s with toks:=t }:=I.un (h':=s.heap) (t':=t) Un.refl I.hok
theorem Inv.kept{t':Nat}(I:Inv X pins σ H s)(k:∀b u,s.heap.get? b=some u->h'.get? b=some u):Inv X pins σ H { s with heap:=h',toks:=t' }:=I.un (Un.kept k) (I.hok.kept k)
theorem Inv.laid{a:Addr}{o:HO}{t':Nat}(I:Inv X pins σ H s)(k:∀b u,s.heap.get? b=some u->h'.get? b=some u)(hp:s.heap.objs.size<=a)(new:dE X.prog X.w (upd H a o) h' a o) :
  Inv X pins σ (upd H a o) { s with heap:=h',toks:=t' }:=I.un (Un.laid k hp (I.hok.fresh hp)) (I.hok.laid k hp new)
theorem Inv.write{x e:Addr}{o:HO}{t':Nat}(I:Inv X pins σ H s)(mu:Mut (H x))(he:e=x\/H e=some (.own x))(k:∀b u,b≠e->s.heap.get? b=some u->h'.get? b=some u)(heo:∃u,h'.get? e=some u)
  (new:dE X.prog X.w (upd H x o) h' x o):Inv X pins σ (upd H x o) { s with heap:=h',toks:=t' }:=I.un (Un.write mu he k heo) (I.hok.write mu he k heo new)
theorem Inv.pins_of{pins':List (Addr×Obj)}(I:Inv X pins σ H s)(h:∀p∈pins',s.heap.get? p.1=some p.2/\H p.1=none/\p.1≠X.env.locals/\p.1∉X.fs/\∀v,p.2.data≠.cell v):Inv X pins' σ H s:=
 ⟨I.ok,I.os,I.bare,I.base,I.loc,I.cell,I.free,I.freeC,fun p hp=>(Qb.mp hp).elim (fun z=>I.pin p (List.mem_append_left _ z)) (h p),I.hok,I.len⟩
theorem pQ{N:List Str}(hN:N.Nodup){i j:Nat}{x:Str}(a:N[i]?=some x)(b:N[j]?=some x):i=j:=by
 obtain⟨h1,e1⟩:=Q4.mp a;obtain⟨h2,e2⟩:=Q4.mp b;exact(List.getElem_inj hN).mp (e1.trans e2.symm)
theorem jx{M:Model}{A:Around}{E:Value->Shared->Prop}{i:Nat}{x:Str}{v:V}{u:Value}{Q:Unit->Shared->Prop}(I:Inv X pins σ H s)(hN:X.N.Nodup)(hi:X.N[i]?=some x)(hx:Loc X.env.scope x)(r:cu v u)
  (h:∀s',Inv X pins (σ.set i (some v)) H s'->(∃a,Heap.SameBut a s.heap s'.heap/\(a=X.env.locals\/X.env.cells.lookup x=some a))->Q () s') (hf:X.fn x=true\/X.env.scope.names.lookup x=some .local:=by first|exact .inl rfl|exact .inr rfl|assumption):wpAny M A (storeName X.env x u) Q E s:=by
 obtain⟨m,hn,hl⟩:=id I.loc;have hcls:(X.env.scope.kind == .class||(X.env.scope.kind == .module&&X.env.locals !=X.env.globals))=false:=by rw[I.ok.kind];rfl
 have hiσ:i < σ.length:=by rw[I.len];exact(Q4.mp hi).1
 have cne:=I.cne;have tracked:∀{a:Addr} {h':Heap},(∃o,s.heap.get? a=some o/\H a=none)->Heap.SameBut a s.heap h'->HOk X.prog X.w H h':=fun{a h'} ha hs b ob e=>by
  obtain⟨_,_,hfree⟩:=ha;refine(I.hok b ob e).stay (fun c w' hc q=>(hs.2 c ?_).trans q) (fun _ q=>q) fun _ _ q=>q;rintro rfl;rcases hc with rfl|hc
  ·rw[hfree]at e;cases e
  ·rw[hfree]at hc;cases hc
 rcases hx with hk|hk
 ·refine wpAny_storeName_local hk hn (fun h' hn' hs=>?_) hcls;obtain⟨oL,_,_,hoL,_⟩:=id hn;refine h _ ⟨I.ok,I.os,I.bare,⟨fun b o e n hb hx=>?_,fun b o e n hb hx=>?_,I.base.free,fun b o e hx=>?_,I.base.tups,I.base.frzs,I.base.tbls⟩,⟨_,hn',fun j y v' e1 e2 e3=>?_⟩,fun y c e=>?_,I.free,I.freeC,fun p hp=>?_,tracked ⟨oL,hoL,I.free⟩ hs,by simpa using I.len⟩ ⟨_,hs,.inl rfl⟩
  ·exact(hs.2 b (QD (QR (Q9 e) I.ok.above))).trans (I.base.keep b o e n hb hx)
  ·obtain⟨sl,e1⟩:=I.base.slot b o e n hb hx;exact⟨sl,(hs.2 b (QD (QR (Q9 e) I.ok.above))).trans e1⟩
  ·obtain⟨o',e1⟩:=I.base.there b o e hx;exact⟨o',(hs.2 b (QD (QR (Q9 e) I.ok.above))).trans e1⟩
  ·by_cases hj:j=i
   ·subst hj;rw[hi]at e1;cases e1;rw[List.getElem?_set_self hiσ]at e2;cases e2;exact⟨u,r,.inl ⟨hk,by simp⟩⟩
   ·rw[QM (Ne.symm hj)]at e2;obtain⟨u',r',q⟩:=hl j y v' e1 e2 e3;refine⟨u',r',?_⟩;rcases q with⟨k,e⟩|⟨k,c,e,z⟩
    ·refine .inl ⟨k,?_⟩;have:y≠x:=fun e=>hj (pQ hN e1 (e▸hi));simp[this,e]
    ·exact .inr ⟨k,c,e,z.sameBut hs (cne y c e)⟩
  ·obtain⟨w',z⟩:=I.cell y c e;exact⟨w',z.sameBut hs (cne y c e)⟩
  ·obtain⟨e,n,ne,nf,d⟩:=I.pin p hp;exact⟨(hs.2 p.1 ne).trans e,n,ne,nf,d⟩
 ·have hfn:X.fn x=true:=by
   rcases hf with z|z
   ·exact z
   ·rw[z]at hk;cases hk
  obtain⟨c,hc⟩:=I.ok.has x (.inl hk);obtain⟨w',z⟩:=I.cell x c hc;refine wpAny_storeName_cell I.ok.kind hk hc z (fun h' hc' hs=>?_);obtain⟨oc,hoc,hocd⟩:=id z;refine h { s with heap:=h' } ⟨I.ok,I.os,I.bare,⟨fun b o e n hb hx=>?_,fun b o e n hb hx=>?_,I.base.free,fun b o e hx=>?_,I.base.tups,I.base.frzs,I.base.tbls⟩,⟨m,hn.sameBut hs (Ne.symm (cne x c hc)),fun j y v' e1 e2 e3=>?_⟩,fun y c' e=>?_,I.free,I.freeC,fun p hp=>?_,tracked ⟨oc,hoc,I.freeC x c hc⟩ hs,by simpa using I.len⟩ ⟨c,hs,.inr hc⟩
  ·exact(hs.2 b (QD (QR (Q9 e) (I.ok.cab x c hfn hc)))).trans (I.base.keep b o e n hb hx)
  ·obtain⟨sl,e1⟩:=I.base.slot b o e n hb hx;exact⟨sl,(hs.2 b (QD (QR (Q9 e) (I.ok.cab x c hfn hc)))).trans e1⟩
  ·obtain⟨o',e1⟩:=I.base.there b o e hx;exact⟨o',(hs.2 b (QD (QR (Q9 e) (I.ok.cab x c hfn hc)))).trans e1⟩
  ·by_cases hj:j=i
   ·subst hj;rw[hi]at e1;cases e1;rw[List.getElem?_set_self hiσ]at e2;cases e2;exact⟨u,r,.inr ⟨.inl hk,c,hc,hc'⟩⟩
   ·rw[QM (Ne.symm hj)]at e2;obtain⟨u',r',q⟩:=hl j y v' e1 e2 e3;refine⟨u',r',?_⟩;rcases q with q|⟨k,c',e,z'⟩
    ·exact .inl q
    ·refine .inr ⟨k,c',e,z'.sameBut hs ?_⟩;rintro rfl;exact hj (pQ hN e1 (I.ok.inj _ _ _ e hc▸hi))
  ·by_cases hcc:c'=c
   ·subst hcc;exact⟨_,hc'⟩
   ·obtain⟨w2,z2⟩:=I.cell y c' e;exact⟨w2,z2.sameBut hs hcc⟩
  ·obtain⟨e,n,ne,nf,d⟩:=I.pin p hp;refine⟨(hs.2 p.1 ?_).trans e,n,ne,nf,d⟩;intro q;rw[q,hoc]at e;have q':oc=p.2:=Option.some.inj e;exact d w' (by rw[<-q'];exact hocd)
theorem pB{M:Model}{A:Around}{E:Value->Shared->Prop}{i:Nat}{x:Str}{v:V}{u:Value}{Q:Unit->Shared->Prop}(I:Inv X pins σ H s)(hN:X.N.Nodup)(hi:X.N[i]?=some x)(hx:Loc X.env.scope x)(r:cu v u)
  (h:∀s',Inv X pins (σ.set i (some v)) H s'->Q () s') (hf:X.fn x=true\/X.env.scope.names.lookup x=some .local:=by first|exact .inl rfl|exact .inr rfl|assumption):wpAny M A (storeName X.env x u) Q E s:=
 jx I hN hi hx r (fun s' I' _=>h s' I') hf
theorem Inv.call'{s':Shared}{ch:List Addr}(I:Inv X pins σ H s)(ho:s'.os=s.os)(u:Un (frs X.stack) ch H H' s.heap s'.heap)(hok:HOk X.prog X.w H' s'.heap)(hg:AllBare s'.gens)
  (hch:∀b∈ch,(b∈X.ex\/X.s₀.heap.objs.size<=b)/\b≠X.env.locals/\(∀x c,X.env.cells.lookup x=some c->c≠b)/\∀p∈X.pn++pins,p.1≠b):Inv X pins σ H' s':=by
 obtain⟨h',g',d',t',o'⟩:=s';have e:o'=s.os:=ho;subst e;exact I.call (g':=g') (t':=t') (d':=d') u hok hg hch
end
abbrev XK:=Value->Option Addr->Hp->Prop
abbrev St:=List (Option V)
abbrev VK:=V->Hp->Prop
abbrev TE:=St->Hp->VK->Prop
abbrev TT:=St->Hp->(Bool->Hp->Prop)->Prop
abbrev TA:=St->Hp->(List V->Hp->Prop)->Prop
structure uW where
 nx:St->Hp->Prop
 rt:VK
 bk:St->Hp->Prop:=fun _ _=>False
 ct:St->Hp->Prop:=fun _ _=>False
abbrev TS:=uW->St->Hp->Prop
def EP(X:Cx)(pins:List (Addr×Obj))(σ:St)(Q:VK)(u:Value)(s':Shared):Prop:=∃v H',Inv X pins σ H' s'/\cu v u/\Q v H'
def TP(X:Cx)(pins:List (Addr×Obj))(σ:St)(Q:Bool->Hp->Prop)(b:Bool)(s':Shared):Prop:=∃H',Inv X pins σ H' s'/\Q b H'
def AP(X:Cx)(pins:List (Addr×Obj))(σ:St)(Q:List V->Hp->Prop)(us:List Value)(s':Shared):Prop:=∃vs H',Inv X pins σ H' s'/\bK vs us/\Q vs H'
def SP(X:Cx)(pins:List (Addr×Obj))(D:uW)(f:Flow)(s':Shared):Prop:=
 match f with
 |.next=>∃σ' H',Inv X pins σ' H' s'/\D.nx σ' H'
 |.brk=>∃σ' H',Inv X pins σ' H' s'/\D.bk σ' H'
 |.cont=>∃σ' H',Inv X pins σ' H' s'/\D.ct σ' H'
 |.ret u=>∃v σ' H',Inv X pins σ' H' s'/\cu v u/\D.rt v H'
def PE(X:Cx)(e:Expr)(t:TE):Prop:=
 ∀(pins:List (Addr×Obj)) (s:Shared) (σ:St) (H:Hp) (Q:VK),Inv X pins σ H s->t σ H Q->wpAny (model X.prog X.w) X.A (eval e X.env) (EP X pins σ Q) X.xe s
def PT(X:Cx)(e:Expr)(t:TT):Prop:=
 ∀(pins:List (Addr×Obj)) (s:Shared) (σ:St) (H:Hp) (Q:Bool->Hp->Prop),Inv X pins σ H s->t σ H Q->wpAny (model X.prog X.w) X.A (isTrue e X.env (eval e X.env)) (TP X pins σ Q) X.xe s
def PW(X:Cx)(e:Expr)(t:TT):Prop:=
 ∀(whole:Sem Value) (pins:List (Addr×Obj)) (s:Shared) (σ:St) (H:Hp) (Q:Bool->Hp->Prop),Inv X pins σ H s->t σ H Q->wpAny (model X.prog X.w) X.A (isTrue e X.env whole) (TP X pins σ Q) X.xe s
def PW.pt{X:Cx}{e:Expr}{t:TT}(h:PW X e t):PT X e t:=h _
def PA(X:Cx)(es:List Expr)(t:TA):Prop:=
 ∀(pos:Pos) (pins:List (Addr×Obj)) (s:Shared) (σ:St) (H:Hp) (Q:List V->Hp->Prop),Inv X pins σ H s->t σ H Q->wpAny (model X.prog X.w) X.A (spliced (backTo pos (starEach es X.env))) (AP X pins σ Q) X.xe s
def PS(X:Cx)(st:Stmt)(t:TS):Prop:=
 ∀(pins:List (Addr×Obj)) (s:Shared) (σ:St) (H:Hp) (D:uW),Inv X pins σ H s->t D σ H->wpAny (model X.prog X.w) X.A (exec st X.env) (SP X pins D) X.xe s
def PSs(X:Cx)(st:List Stmt)(t:TS):Prop:=
 ∀(pins:List (Addr×Obj)) (s:Shared) (σ:St) (H:Hp) (D:uW),Inv X pins σ H s->t D σ H->wpAny (model X.prog X.w) X.A (execs st X.env) (SP X pins D) X.xe s
theorem thn{α:Type}{t:Sem α}{Q Q':α->Shared->Prop}{M:Model}{A:Around}{E:Value->Shared->Prop}{s:Shared}(h:wpAny M A t Q E s)(hQ:∀a s,Q a s->Q' a s):wpAny M A t Q' E s:=Qh h hQ fun _ _ x=>x
section
variable{X:Cx}
def DD(i:Nat):TE:=fun σ H Q=>∃v,σ[i]?=some (some v)/\Q v H
def tC(v:V):TE:=fun _ H Q=>Q v H
theorem Ca{i:Nat}{x:Str}{pos:Pos}(hN:X.N[i]?=some x)(hv:Vis X.env.scope x)(hd:(x == ("__debug__":Str))=false:=by decide)(hcd:(x == ("__classdict__":Str))=false:=by decide):PE X (.Name x pos) (DD i):=by
 intro pins s σ H Q I h;obtain⟨v,e,h⟩:=h;obtain⟨m,hn,hl⟩:=I.loc;obtain⟨u,r,l⟩:=hl i x v hN e hv;have fin:EP X pins σ Q u s:=⟨v,H,I,r,h⟩;rcases l with⟨hk,hm⟩|⟨hk,c,hc,hcell⟩
 ·exact wpAny_Name (wpAny_loadName_local I.ok.kind hk hn hm fin) hd
 ·rcases hk with hk|hk
  ·exact wpAny_Name (wpAny_loadName_cell I.ok.kind hk hc hcell fin) hd
  ·exact wpAny_Name (wpAny_loadName_free I.ok.kind hk hc hcell fin hcd) hd
theorem Ci{i j pos}:PE X (.Constant (.int i) j pos) (tC (.int i)):=fun _ _ _ H _ I h=>wpAny_Constant_int ⟨.int i,H,I.tok _,⟨_,rfl⟩,h⟩
def Fp{b j pos}:PE X (.Constant (.bool b) j pos) (tC (.bl b)):=fun _ _ _ H _ I h=>Constant_bool ⟨.bl b,H,I,rfl,h⟩
def Ce{j pos}:PE X (.Constant .none j pos) (tC .non):=fun _ _ _ H _ I h=>Constant_none ⟨.non,H,I,rfl,h⟩
theorem Cc{x j pos}:PE X (.Constant (.str x) j pos) (tC (.str x)):=fun _ _ _ H _ I h=>Calls.Constant_str ⟨.str x,H,I.tok _,⟨_,rfl⟩,h⟩
def Gl(X:Cx)(x:Str):Prop:=X.env.kindOf x=some .globalImplicit
theorem tH{E:Value->Shared->Prop}{pins:List (Addr×Obj)}{s:Shared}{σ:St}{H:Hp}{x:Str}{u:Value}{pos:Pos}{Q:Value->Shared->Prop}(I:Inv X pins σ H s)(hg:Gl X x)(hm:X.mg x=some u)(h:Q u s)
  (hd:(x == ("__debug__":Str))=false:=by decide):wpAny (model X.prog X.w) X.A (eval (.Name x pos) X.env) Q E s:=
 Calls.Name_function_global I.ok.kind hg (Calls.loadGlobal_global (by rw[I.ok.glob];exact I.mod.glob.keeps I.bk) hm h) hd
theorem pW{E:Value->Shared->Prop}{pins:List (Addr×Obj)}{s:Shared}{σ:St}{H:Hp}{x:Str}{u:Value}{pos:Pos}{Q:Value->Shared->Prop}(I:Inv X pins σ H s)(hg:Gl X x)(hm:X.mg x=none)(hv:bootBuiltins x=some u)(h:Q u s)
  (hn:x≠"__name__":=by decide) (hd:(x == ("__debug__":Str))=false:=by decide):wpAny (model X.prog X.w) X.A (eval (.Name x pos) X.env) Q E s:=by
 obtain⟨mb,h1,h2⟩:=I.mod.blt;exact Calls.Name_function_global I.ok.kind hg (Calls.loadGlobal_builtin (by rw[I.ok.glob];exact I.mod.glob.keeps I.bk) hm (by rw[I.ok.blt];exact h1.keeps I.bk) ((h2 x hn).trans hv) h) hd
variable{a b:Expr}{ta tb:TE}{pos:Pos}
def PC(X:Cx)(op:CmpOp)(a b:Expr)(t:TE):Prop:=
 ∀(pins:List (Addr×Obj)) (s:Shared) (σ:St) (H:Hp) (Q:VK),Inv X pins σ H s->t σ H Q->
  wpAny (model X.prog X.w) X.A (eval a X.env) (fun v s₁=>wpAny (model X.prog X.w) X.A (eval b X.env) (fun u s₂=>wpAny (model X.prog X.w) X.A (compareOp op v u) (EP X pins σ Q) X.xe s₂) X.xe s₁) X.xe s
def tB(t:TE):TT:=fun σ H Q=>t σ H fun x H1=>∃c,x=.bl c/\Q c H1
theorem B0{op:CmpOp}{t:TE}(h:PC X op a b t)(h1:behindInMarks op b=false:=by first|exact nobehind _ (by decide) (by decide)|rfl):PT X (.Compare a [op] [b] pos) (tB t):=by
 intro pins s σ H Q I hw;refine wpAny_isTrue_Compare1 (thn (h pins s σ H _ I hw) fun v s1 h1=>thn h1 fun u s2 h2=>thn h2 fun c s3 hz=>?_) h1;obtain⟨x,H1,I1,r1,q1⟩:=hz;obtain⟨d,rfl,q⟩:=q1;cases r1;exact wpAny_truthy_bool ⟨H1,I1,q⟩
theorem BY{e:Expr}{t:TE}(h:PE X e t)(he:∀whole,isTrue e X.env whole=(do let v <-whole;standAt e.pos;holding [v] (truthy v)):=by intro _;rfl):PT X e (tB t):=by
 intro pins s σ H Q I hw;refine isTrue_plain (thn (h pins s σ H _ I hw) fun v s1 ⟨x,H1,I1,r1,q1⟩=>?_) (he _);obtain⟨d,rfl,q⟩:=q1;cases r1;exact wpAny_truthy_bool ⟨H1,I1,q⟩
variable{tA tB':TT}{rest:List Expr}
def Gm(t u:TT):TT:=fun σ H Q=>t σ H fun c H1=>if c=true then u σ H1 Q else Q false H1
def tOr(t u:TT):TT:=fun σ H Q=>t σ H fun c H1=>if c=true then Q true H1 else u σ H1 Q
def Gg(t:TT):TT:=fun σ H Q=>t σ H fun c H1=>Q (!c) H1
theorem zo(ha:PT X a tA):PW X (.BoolOp .And [a] pos) tA:=by
 intro wh pins s σ H Q I h;refine isTrue_and (thn (ha pins s σ H Q I h) fun c s1 e=>?_);cases c with
 |true=>exact isTrue_and_nil e
 |false=>exact e
theorem BW(ha:PT X a tA):PW X (.BoolOp .Or [a] pos) tA:=by
 intro wh pins s σ H Q I h;refine isTrue_or (thn (ha pins s σ H Q I h) fun c s1 e=>?_);cases c with
 |false=>exact isTrue_or_nil e
 |true=>exact e
theorem BX(ha:PT X a tA)(hb:PW X (.BoolOp .And (b::rest) pos) tB'):PW X (.BoolOp .And (a::b::rest) pos) (Gm tA tB'):=by
 intro wh pins s σ H Q I h;refine isTrue_and (thn (ha pins s σ H _ I h) fun c s1 ⟨H1,I1,q1⟩=>?_);cases c with
 |true=>exact hb wh pins s1 σ H1 Q I1 q1
 |false=>exact⟨H1,I1,q1⟩
theorem Ff(ha:PT X a tA)(hb:PW X (.BoolOp .Or (b::rest) pos) tB'):PW X (.BoolOp .Or (a::b::rest) pos) (tOr tA tB'):=by
 intro wh pins s σ H Q I h;refine isTrue_or (thn (ha pins s σ H _ I h) fun c s1 ⟨H1,I1,q1⟩=>?_);cases c with
 |true=>exact⟨H1,I1,q1⟩
 |false=>exact hb wh pins s1 σ H1 Q I1 q1
theorem BZ(ha:PT X a tA):PT X (.UnaryOp .Not a pos) (Gg tA):=by
 intro pins s σ H Q I h;exact isTrue_not (ha pins s σ H (fun c H1=>Q (!c) H1) I h)
def Gf(ta tb:TE):TE:=fun σ H Q=>ta σ H fun x H1=>∃c,x=.bl c/\if c=true then Q (.bl true) H1 else tb σ H1 Q
def Cd{op}{t:TE}(h:PE X a t):PE X (.BoolOp op [a] pos) t:=fun pins s σ H Q I hw=>BoolOp_one (h pins s σ H Q I hw)
theorem Fi(ha:PE X a ta)(hb:PE X (.BoolOp .Or (b::rest) pos) tb):PE X (.BoolOp .Or (a::b::rest) pos) (Gf ta tb):=by
 intro pins s σ H Q I h;refine BoolOp_or (thn (ha pins s σ H _ I h) fun v s1 hz=>?_);obtain⟨x,H1,I1,r1,q1⟩:=hz;obtain⟨c,rfl,q1⟩:=q1;cases r1;refine wpAny_truthy_bool ?_;cases c with
 |false=>exact hb pins s1 σ H1 Q I1 q1
 |true=>exact⟨.bl true,H1,I1,rfl,q1⟩
end
def SqL(K:Q1)(H:Hp)(a:Addr)(xs:List V):Prop:=
 Rd H a (.lst xs)\/
  ∃(o:Obj) (its:Array Value) (n:Nat),K.lookup a=some o/\o.cls=.type "list"/\o.dict=none/\o.data=.seq its n/\its.size<=sizeLine/\bK xs its.toList
def SqT(K:Q1)(H:Hp)(a:Addr)(xs:List V):Prop:=
 Rd H a (.tup xs)\/
  ∃(o:Obj) (its:Array Value) (n:Nat),K.lookup a=some o/\o.cls=.type "tuple"/\o.data=.seq its n/\its.size<=sizeLine/\bK xs its.toList
def Hj:Value->Option V
 |.none=>some .non
 |.bool b=>some (.bl b)
 |.int i _=>some (.int i)
 |.str x _=>some (.str x)
 |.bytes b _=>some (.byt b)
 |.float b _=>some (.flt b)
 |.ref a=>some (.ref a)
 |.type n=>some (.ty n)
 |_=>none
theorem cu.abs{x:V}{u:Value}(r:cu x u):Hj u=some x:=by
 cases x with
 |non=>cases r;rfl
 |bl _=>cases r;rfl
 |int _=>obtain⟨t,rfl⟩:=r;rfl
 |str _=>obtain⟨t,rfl⟩:=r;rfl
 |byt _=>obtain⟨t,rfl⟩:=r;rfl
 |flt _=>obtain⟨t,rfl⟩:=r;rfl
 |ref _=>cases r;rfl
 |ty _=>cases r;rfl
def cu.inj{x y:V}{u:Value}(r:cu x u)(q:cu y u):x=y:=Option.some.inj (r.abs.symm.trans q.abs)
theorem bK.inj:∀{xs ys:List V} {us:List Value},bK xs us->bK ys us->xs=ys
 |_,_,_,.nil,.nil=>rfl
 |_,_,_,.cons r t,.cons r' t'=>by rw[r.inj r',bK.inj t t']
section
variable{X:Cx}{pins:List (Addr×Obj)}{σ:St}{H:Hp}{s:Shared}{a:Addr}{xs ys:List V}
def SqL.of{K:Q1}(h:H a=some (.lst xs)):SqL K H a xs:=.inl (.inl h)
def SqT.of{K:Q1}(h:H a=some (.tup xs)):SqT K H a xs:=.inl (.inl h)
theorem Inv.list(I:Inv X pins σ H s)(h:SqL X.K H a xs):∃its:List Value,bK xs its/\PlainL s.heap a its.toArray/\xs.length<=sizeLine:=by
 rcases h with h|⟨o,its,n,hk,hc,hd,hs,hz,r⟩
 ·obtain⟨z,its,n,r,e⟩:=h.ok I.hok;exact⟨its,r,⟨_,n,e,rfl,rfl,rfl⟩,z⟩
 ·refine⟨its.toList,r,⟨o,n,I.kIn a o hk,hc,hd,by simpa using hs⟩,?_⟩;have e:=r.length;simp only[Qv]at e;omega
theorem Inv.tuple(I:Inv X pins σ H s)(h:SqT X.K H a xs):∃its:List Value,bK xs its/\IsTup s.heap a its.toArray/\xs.length<=sizeLine:=by
 rcases h with h|⟨o,its,n,hk,hc,hs,hz,r⟩
 ·obtain⟨z,its,r,p⟩:=h.ok I.hok;exact⟨its,r,p,z⟩
 ·refine⟨its.toList,r,⟨o,I.kIn a o hk,hc,n,by simpa using hs⟩,?_⟩;have e:=r.length;simp only[Qv]at e;omega
theorem Inv.list_inj(I:Inv X pins σ H s)(h:SqL X.K H a xs)(h':SqL X.K H a ys):xs=ys:=by
 obtain⟨its,r,⟨o,n,e,_,_,d⟩,_⟩:=I.list h;obtain⟨its',r',⟨o',n',e',_,_,d'⟩,_⟩:=I.list h';rw[e]at e';cases e';rw[d]at d';injection d' with d1 _;have:its=its':=by simpa using congrArg Array.toList d1
 subst this;exact r.inj r'
theorem Inv.tuple_inj(I:Inv X pins σ H s)(h:SqT X.K H a xs)(h':SqT X.K H a ys):xs=ys:=by
 obtain⟨its,r,⟨o,e,_,n,d⟩,_⟩:=I.tuple h;obtain⟨its',r',⟨o',e',_,n',d'⟩,_⟩:=I.tuple h';rw[e]at e';cases e';rw[d]at d';injection d' with d1 _;have:its=its':=by simpa using congrArg Array.toList d1
 subst this;exact r.inj r'
end
abbrev Cx.wish(X:Cx)(E:Value->Shared->Prop):Cx:={ X with xe:=E }
abbrev Cx.nox(X:Cx):Cx:=X.wish fun _ _=>False
theorem Cx.Ok.wish{X:Cx}(ok:X.Ok)(E:Value->Shared->Prop):(X.wish E).Ok:=
 ⟨ok.mod,ok.kind,ok.glob,ok.blt,ok.above,ok.inj,ok.has,ok.cab,ok.hd,ok.frames,ok.stk,ok.exf,ok.bs,ok.bsz,ok.noex,ok.exfs,ok.funs,ok.frf⟩
theorem Cx.Ok.unwish{X:Cx}{E:Value->Shared->Prop}(ok:(X.wish E).Ok):X.Ok:=
 ⟨ok.mod,ok.kind,ok.glob,ok.blt,ok.above,ok.inj,ok.has,ok.cab,ok.hd,ok.frames,ok.stk,ok.exf,ok.bs,ok.bsz,ok.noex,ok.exfs,ok.funs,ok.frf⟩
section
variable{X:Cx}{pins:List (Addr×Obj)}{σ:St}{H:Hp}{s:Shared}{E:Value->Shared->Prop}
theorem Inv.wish(I:Inv X pins σ H s)(E:Value->Shared->Prop):Inv (X.wish E) pins σ H s:=⟨I.ok.wish E,I.os,I.bare,I.base,I.loc,I.cell,I.free,I.freeC,I.pin,I.hok,I.len⟩
theorem Inv.unwish(I:Inv (X.wish E) pins σ H s):Inv X pins σ H s:=⟨I.ok.unwish,I.os,I.bare,I.base,I.loc,I.cell,I.free,I.freeC,I.pin,I.hok,I.len⟩
theorem SP.unwish{D:uW}{f:Flow}{s':Shared}(h:SP (X.wish E) pins D f s'):SP X pins D f s':=by
 cases f with
 |next=>obtain⟨σ',H',I,q⟩:=h;exact⟨σ',H',I.unwish,q⟩
 |brk=>obtain⟨σ',H',I,q⟩:=h;exact⟨σ',H',I.unwish,q⟩
 |cont=>obtain⟨σ',H',I,q⟩:=h;exact⟨σ',H',I.unwish,q⟩
 |ret u=>obtain⟨v,σ',H',I,r,q⟩:=h;exact⟨v,σ',H',I.unwish,r,q⟩
theorem PSs.nox{st:List Stmt}{t:TS}(h:PSs X.nox st t):PSs X st t:=fun pins s σ H D I hw=>
 Qh (h pins s σ H D (I.wish _) hw) (fun _ _ q=>q.unwish) fun _ _ z=>False.elim z
end
section
variable{X:Cx}{st:Stmt}{rest:List Stmt}{t u:TS}{e:Expr}{te:TE}{pos:Pos}
def BE:TS:=fun D σ H=>D.nx σ H
def Gd(t u:TS):TS:=fun D σ H=>t { D with nx:=u D } σ H
def zu:PSs X [] BE:=fun _ _ σ H _ I h=>wpAny_execs_nil ⟨σ,H,I,h⟩
theorem vH(h1:PS X st t)(h2:PSs X rest u):PSs X (st::rest) (Gd t u):=by
 intro pins s σ H D I h;refine wpAny_execs_cons (thn (h1 pins s σ H { D with nx:=u D } I h) fun f s1 q=>?_);cases f with
 |next=>
  obtain⟨σ',H',I',q⟩:=q;exact h2 pins s1 σ' H' D I' q
 |ret v=>exact q
 |brk=>exact q
 |cont=>exact q
theorem zr(h1:PS X st t):PSs X [st] t:=by
 intro pins s σ H D I h;refine wpAny_execs_cons (thn (h1 pins s σ H D I h) fun f s1 q=>?_);cases f with
 |next=>exact wpAny_execs_nil q
 |ret v=>exact q
 |brk=>exact q
 |cont=>exact q
theorem Inv.quiet{pins:List (Addr×Obj)}{σ:St}{H:Hp}{s:Shared}(I:Inv X pins σ H s):interactive X.env=false:=by simp[interactive,I.ok.kind]
def BF(te:TE):TS:=fun D σ H=>te σ H fun _ H1=>D.nx σ H1
theorem zv(he:PE X e te)(hs:swapsWith e none pos.line X.env=pure false:=by rfl):PS X (.Expr e pos) (BF te):=by
 intro pins s σ H D I h;exact wpAny_Expr_any (thn (he pins s σ H _ I h) fun v s1 ⟨x,H1,I1,r1,q1⟩=>⟨σ,H1,I1,q1⟩) I.quiet hs
def Ge(te:TE):TS:=fun D σ H=>te σ H D.rt
theorem B2(he:PE X e te):PS X (.Return (some e) pos) (Ge te):=by
 intro pins s σ H D I h;exact wpAny_Return_some (thn (he pins s σ H _ I h) fun v s1 ⟨x,H1,I1,r1,q1⟩=>⟨x,σ,H1,I1,r1,q1⟩)
def Gi(c:TT)(t u:TS):TS:=fun D σ H=>c σ H fun b H1=>if b=true then t D σ H1 else u D σ H1
theorem Fg{c:Expr}{a b:List Stmt}{tc:TT}(hc:PT X c tc)(ha:PSs X a t)(hb:PSs X b u):PS X (.If c a b pos) (Gi tc t u):=by
 intro pins s σ H D I h;refine wpAny_If (thn (hc pins s σ H _ I h) fun d s1 ⟨H1,I1,q1⟩=>?_);cases d with
 |true=>exact ha pins s1 σ H1 D I1 q1
 |false=>exact hb pins s1 σ H1 D I1 q1
def xv:TS:=fun _ _ _=>False
def vI:PS X st xv:=fun _ _ _ _ _ _ h=>h.elim
end
abbrev TG:=V->St->Hp->(St->Hp->Prop)->Prop
abbrev TGs:=List V->St->Hp->(St->Hp->Prop)->Prop
def PG(X:Cx)(target:Expr)(t:TG):Prop:=
 ∀(pins:List (Addr×Obj)) (s:Shared) (σ:St) (H:Hp) (v:V) (u:Value) (Q:St->Hp->Prop),Inv X pins σ H s->cu v u->t v σ H Q->
  wpAny (model X.prog X.w) X.A (assign target X.env u) (fun _ s'=>∃σ' H',Inv X pins σ' H' s'/\Q σ' H') X.xe s
def PGs(X:Cx)(ts:List Expr)(t:TGs):Prop:=
 ∀(pins:List (Addr×Obj)) (s:Shared) (σ:St) (H:Hp) (vs:List V) (us:List Value) (Q:St->Hp->Prop),Inv X pins σ H s->bK vs us->t vs σ H Q->
  wpAny (model X.prog X.w) X.A (assignInOrder ((assignEach ts X.env).map (·.2)) us) (fun _ s'=>∃σ' H',Inv X pins σ' H' s'/\Q σ' H') X.xe s
abbrev DW:=V->V->V->Hp->(Hp->Prop)->Prop
def F9(X:Cx)(t:DW):Prop:=
 ∀(pins:List (Addr×Obj)) (s:Shared) (σ:St) (H:Hp) (o i v:V) (ov iv u:Value) (Q:Hp->Prop),Inv X pins σ H s->cu o ov->cu i iv->cu v u->t o i v H Q->
  wpAny (model X.prog X.w) X.A (setItem ov iv u) (fun _ s'=>∃H',Inv X pins σ H' s'/\Q H') X.xe s
section
variable{X:Cx}{pos:Pos}
def qX(i:Nat):TG:=fun v σ H Q=>Q (σ.set i (some v)) H
theorem zD{i:Nat}{x:Str}(hN:X.N.Nodup)(hi:X.N[i]?=some x)(hx:Loc X.env.scope x)(hf:X.fn x=true\/X.env.scope.names.lookup x=some .local:=by first|exact .inl rfl|exact .inr rfl|assumption):PG X (.Name x pos) (qX i):=by
 intro pins s σ H v u Q I r h;exact wpAny_assign_Name (pB I hN hi hx r (fun s' I'=>⟨_,H,I',h⟩) hf)
def GK:TGs:=fun vs σ H Q=>vs=[]/\Q σ H
def C3(t:TG)(u:TGs):TGs:=fun vs σ H Q=>∃v r,vs=v::r/\t v σ H fun σ' H'=>u r σ' H' Q
theorem zC:PGs X [] GK:=by
 intro pins s σ H vs us Q I r h;obtain⟨e,h⟩:=h;subst e;cases r;exact assignInOrder_nil ⟨σ,H,I,h⟩
theorem vL{e:Expr}{es:List Expr}{t:TG}{u:TGs}(h1:PG X e t)(h2:PGs X es u)
  (hs:(assignEach (e::es) X.env).map (·.2)=assign e X.env::(assignEach es X.env).map (·.2):=by rfl):PGs X (e::es) (C3 t u):=by
 intro pins s σ H vs us Q I r h;obtain⟨v,vr,e1,h⟩:=h;subst e1;cases r with
 |cons r rr=>
  rw[hs];refine assignInOrder_cons (thn (h1 pins s σ H _ _ _ I r h) fun _ s1 hz=>?_);obtain⟨σ1,H1,I1,q1⟩:=hz;exact h2 pins s1 σ1 H1 _ _ Q I1 rr q1
def GI(K:Q1)(n:Nat)(t:TGs):TG:=fun v σ H Q=>∃a xs,v=.ref a/\SqT K H a xs/\xs.length=n/\t xs σ H Q
theorem B7{es:List Expr}{k:Nat}{t:TGs}{n:Nat}(hc:X.calm=true)(h:PGs X es t)
  (hn:(assignEach es X.env).length=n:=by rfl) (hst:(assignEach es X.env).findIdx? (·.1)=none:=by rfl):PG X (.Tuple es k pos) (GI X.K n t):=by
 intro pins s σ H v u Q I r hw;obtain⟨a,xs,e1,hq,hl,hw⟩:=hw;subst e1;cases r;obtain⟨its,rv,ht,hz⟩:=I.tuple hq;refine assign_Tuple_tuple (I.ok.hd hc) ht (by simp[hn,<-hl,rv.length]) hst fun h' hx=>?_;have I1:Inv X pins σ H { s with heap:=h' }:=I.kept (t':=s.toks) fun b o e=>hx b o (QD (Q9 e)) e;exact h pins _ σ H xs _ Q I1 (by simpa using rv) hw
def GJ(to ti:TE)(t:DW):TG:=fun v σ H Q=>to σ H fun o H1=>ti σ H1 fun i H2=>t o i v H2 fun H3=>Q σ H3
theorem B9{o i:Expr}{to ti:TE}{t:DW}(ho:PE X o to)(hi:PE X i ti)(hs:F9 X t)
  (ha:∀v,assign (.Subscript o i pos) X.env v=(do
   let ov <-holding [v] (eval o X.env)
   let iv <-holding [v,ov] (eval i X.env)
   standAt pos
   holding [v,ov,iv] (setItem ov iv v)
   release [v,ov,iv] []):=by intro _;rfl):PG X (.Subscript o i pos) (GJ to ti t):=by
 intro pins s σ H v u Q I r h;rw[ha];refine Q2 (wpAny_holding (thn (ho pins s σ H _ I h) fun ov s1 hz=>?_));obtain⟨x,H1,I1,r1,q1⟩:=hz;refine Q2 (wpAny_holding (thn (hi pins s1 σ H1 _ I1 q1) fun iv s2 hz=>?_));obtain⟨y,H2,I2,r2,q2⟩:=hz;refine Q2 (wpAny_standAt (Q2 (wpAny_holding (thn (hs pins s2 σ H2 x y v ov iv u _ I2 r1 r2 r q2) fun _ s3 ⟨H3,I3,q3⟩=>?_))));exact wpAny_release ⟨σ,H3,I3,q3⟩
def BJ(te:TE)(g:TG):TS:=fun D σ H=>te σ H fun x H1=>g x σ H1 D.nx
theorem B5{tg e:Expr}{te:TE}{g:TG}(he:PE X e te)(hg:PG X tg g)(hs:swapsWithSole [tg] e pos.line X.env=pure false:=by rfl)(hw:swappedStores [tg] e X.env=pure none:=by rfl)
  (h1:(assignEach [tg] X.env).map (·.2)=[assign tg X.env]:=by rfl):PS X (.Assign [tg] e pos) (BJ te g):=by
 intro pins s σ H D I h;refine wpAny_Assign_stores (thn (he pins s σ H _ I h) fun v s1 hz=>?_) hs hw;obtain⟨x,H1,I1,r1,q1⟩:=hz;rw[h1];exact thn (hg pins s1 σ H1 x v _ I1 r1 q1) fun _ s2 q=>q
theorem B1{i:Nat}{x:Str}{e:Expr}{te:TE}{pos':Pos}(hN:X.N.Nodup)(hi:X.N[i]?=some x)(hx:Loc X.env.scope x)(he:PE X e te)(hs:swapsWith e (some (.Name x pos')) pos.line X.env=pure false:=by rfl)(hf:X.fn x=true\/X.env.scope.names.lookup x=some .local:=by first|exact .inl rfl|exact .inr rfl|assumption) :
  PS X (.Assign [.Name x pos'] e pos) (BJ te (qX i)):=by
 intro pins s σ H D I h;refine wpAny_Assign_Name (thn (he pins s σ H _ I h) fun v s1 hz=>?_) hs;obtain⟨y,H1,I1,r1,q1⟩:=hz;exact pB I1 hN hi hx r1 (fun s2 I2=>⟨_,H1,I2,q1⟩) hf
end
structure It where
 go:Nat->Hp->Prop
 yld:Nat->Hp->V->Hp->Prop
 stop:Nat->Hp->Prop
def uQ(X:Cx)(pins:List (Addr×Obj))(H:Hp)(b:Addr):Prop:=
 H b=none/\b≠X.env.locals/\b∉X.fs/\(b∈X.ex\/X.s₀.heap.objs.size<=b)/\(∀x c,X.env.cells.lookup x=some c->c≠b)/\∀p∈X.pn++pins,p.1≠b
theorem Inv.fpOk{X:Cx}{pins:List (Addr×Obj)}{σ:St}{H H':Hp}{s:Shared}{b:Addr}(I:Inv X pins σ H s)(hb:s.heap.objs.size<=b)(hn:H' b=none):uQ X pins H' b:=by
 refine⟨hn,Nat.ne_of_gt (QR I.lt hb),I.nofs hb,.inr (QL I.sz hb),fun x c e z=>?_,fun p hp z=>?_⟩
 ·obtain⟨v,q⟩:=I.cell x c e;exact absurd (QR q.lt (by rw[z];exact hb)) (Qt _)
 ·exact absurd (QR (Q9 (I.pin p hp).1) (by rw[z];exact hb)) (Qt _)
structure Dk(P:Program)(w:World)(K:Q1)(tg:Expr)(J:It)(fp:List Addr)(it:Addr)(tn:Nat->Heap->Prop):Prop where
 mem:it∈fp
 obj:∀i h,tn i h->∀b∈fp,∃o,h.get? b=some o/\∀v,o.data≠.cell v
 keep:∀i h h',tn i h->(∀b∈fp,∀o,h.get? b=some o->h'.get? b=some o)->tn i h'
 item:∀(X:Cx),X.prog=P->X.w=w->X.K=K->X.calm=true->∀(i:Nat) (pins:List (Addr×Obj)) (s:Shared) (σ:St) (H:Hp) (E:Value->Shared->Prop),Inv X pins σ H s->(∀b∈fp,uQ X pins H b)->tn i s.heap->J.go i H->
  wpAny (model P w) X.A (pyNext (.ref it)) (fun r s1=>∃u,r=some u/\
   wpAny (model P w) X.A (letOwnedTupleGo tg (.ref it) u) (fun _ s2=>∃x H',Inv X pins σ H' s2/\cu x u/\J.yld i H x H'/\tn (i+1) s2.heap/\∀b∈fp,H' b=none) E s1) E s
 done:∀(X:Cx),X.prog=P->X.w=w->X.K=K->X.calm=true->∀(i:Nat) (pins:List (Addr×Obj)) (s:Shared) (σ:St) (H:Hp) (E:Value->Shared->Prop),Inv X pins σ H s->(∀b∈fp,uQ X pins H b)->tn i s.heap->J.stop i H->
  wpAny (model P w) X.A (pyNext (.ref it)) (fun r s1=>r=none/\Inv X pins σ H s1) E s
 self:∀(A:Around) (i:Nat) (s:Shared) (Q:Value->Shared->Prop) (E:Value->Shared->Prop),tn i s.heap->Q (.ref it) s->wpAny (model P w) A (pyIter (.ref it)) Q E s
abbrev TI:=St->Hp->(It->Hp->Prop)->Prop
def PIE(X:Cx)(pins:List (Addr×Obj))(σ:St)(tg:Expr)(R:It->Hp->Prop)(itv:Value)(s2:Shared):Prop:=
 ∃(it:Addr) (fp:List Addr) (tn:Nat->Heap->Prop) (J:It) (H':Hp),itv=.ref it/\Inv X pins σ H' s2/\Dk X.prog X.w X.K tg J fp it tn/\tn 0 s2.heap/\(∀b∈fp,uQ X pins H' b)/\R J H'
def PI(X:Cx)(tg iter:Expr)(wi:TI):Prop:=
 ∀(pins:List (Addr×Obj)) (s:Shared) (σ:St) (H:Hp) (R:It->Hp->Prop),Inv X pins σ H s->wi σ H R->
  wpAny (model X.prog X.w) X.A (eval iter X.env) (fun v s1=>wpAny (model X.prog X.w) X.A (pyIter v) (PIE X pins σ tg R) X.xe s1) X.xe s
theorem wK {M : Model} {A : Around} {E : Value -> Shared -> Prop} {s : Shared} {tg : Expr} {it : Addr} {u : Value} {o : Obj} {n : String} {vs : Array Value} {Q : Unit -> Shared -> Prop} (ho : s.heap.get? it = some o) (hc : o.cls = .type n) (hd : o.data = .fields vs)
    (hn:["enumerate","zip","dict_itemiterator","dict_reverseitemiterator","odict_iterator","itertools.zip_longest","itertools.pairwise"].contains n=false) (hQ:Q () s):wpAny M A (letOwnedTupleGo tg (.ref it) u) Q E s:=by
  unfold letOwnedTupleGo;cases tg<;>first
    |exact QY hQ
    | (cases u <;> first
        |exact QY hQ
        | (refine Q2 (wpAny_load ho ?_)
           rw[hc,hd];show wpAny M A (if (["enumerate","zip","dict_itemiterator","dict_reverseitemiterator","odict_iterator","itertools.zip_longest","itertools.pairwise"].contains n&&vs[0]? == some (rawInt _))=true then _ else _) Q E s;rw[if_neg (by intro h;rw[hn,Bool.false_and]at h;cases h)];exact QY hQ))
def Itl(K:Q1)(a:Addr):It:=
 ⟨fun i H=>∃xs x,SqL K H a xs/\xs[i]?=some x,fun i H x H'=>H'=H/\∀xs,SqL K H a xs->xs[i]?=some x,fun i H=>∃xs,SqL K H a xs/\xs.length<=i⟩
def Itt(K:Q1)(a:Addr):It:=
 ⟨fun i H=>∃xs x,SqT K H a xs/\xs[i]?=some x,fun i H x H'=>H'=H/\∀xs,SqT K H a xs->xs[i]?=some x,fun i H=>∃xs,SqT K H a xs/\xs.length<=i⟩
def Itr(lo:Int)(n:Nat):It:=⟨fun i _=>i<n,fun i H x H'=>H'=H/\x=.int (lo+i),fun i _=>n<=i⟩
theorem sd{P:Program}{w:World}{K:Q1}{tg:Expr}(a it:Addr):Dk P w K tg (Itl K a) [it] it (fun i h=>h.IsListIter it a i) where
 mem:=by simp
 obj:=fun i h st b hb=>by
  have e:b=it:=by simpa using hb
  subst e;obtain⟨o,e,c,d⟩:=st;exact⟨o,e,fun v z=>by rw[d]at z;cases z⟩
 keep:=fun i h h' st k=>st.at fun o e=>k it (by simp) o e
 item:=by
  intro X hP hw hK hc i pins s σ H E I hf st hg;subst hP hw hK;obtain⟨xs,x,hq,hx⟩:=hg;obtain⟨its,rv,p,hz⟩:=I.list hq;obtain⟨u,hu,ru⟩:=rv.get hx;obtain⟨f0,f1,f2,f3,f4,f5⟩:=hf it (by simp);refine wpAny_pyNext_list_item st p.isList (x:=u) (by simpa using hu) fun h' st' sb=>?_;have I1:Inv X pins σ H { s with heap:=h' }:=I.turned (t':=s.toks) (fun b o hb e=>(sb.2 b hb).trans e) f0 f1 f3 f4 f5;obtain⟨o,e,c,d⟩:=id st';exact⟨u,rfl,wK (s:={ s with heap:=h' }) e c d (by decide) ⟨x,H,I1,ru,⟨rfl,fun ys hy=>by rw[I.list_inj hy hq];exact hx⟩,st',fun b hb=>(hf b hb).1⟩⟩
 done:=by
  intro X hP hw hK hc i pins s σ H E I hf st hg;subst hP hw hK;obtain⟨xs,hq,hx⟩:=hg;obtain⟨its,rv,p,hz⟩:=I.list hq;obtain⟨f0,f1,f2,f3,f4,f5⟩:=hf it (by simp);have hl:=rv.length;exact wpAny_pyNext_list_end (I.ok.hd hc) st p.isList (by simp;omega) fun h' eb=>⟨rfl,I.turned (t':=s.toks) (fun b o hb e=>eb b o hb e) f0 f1 f3 f4 f5⟩
 self:=fun _ _ _ _ _ st h=>wpAny_pyIter_listiter st h
theorem qF{P:Program}{w:World}{K:Q1}{tg:Expr}(a it:Addr):Dk P w K tg (Itt K a) [it] it (fun i h=>h.IsTupleIter it a i) where
 mem:=by simp
 obj:=fun i h st b hb=>by
  have e:b=it:=by simpa using hb
  subst e;obtain⟨o,e,c,d⟩:=st;exact⟨o,e,fun v z=>by rw[d]at z;cases z⟩
 keep:=fun i h h' st k=>st.at fun o e=>k it (by simp) o e
 item:=by
  intro X hP hw hK hc i pins s σ H E I hf st hg;subst hP hw hK;obtain⟨xs,x,hq,hx⟩:=hg;obtain⟨its,rv,p,hz⟩:=I.tuple hq;obtain⟨u,hu,ru⟩:=rv.get hx;obtain⟨f0,f1,f2,f3,f4,f5⟩:=hf it (by simp);refine wpAny_pyNext_tuple_item st (show s.heap.IsTuple a its.toArray from p) (x:=u) (by simpa using hu) fun h' st' sb=>?_;have I1:Inv X pins σ H { s with heap:=h' }:=I.turned (t':=s.toks) (fun b o hb e=>(sb.2 b hb).trans e) f0 f1 f3 f4 f5;obtain⟨o,e,c,d⟩:=id st';exact⟨u,rfl,wK (s:={ s with heap:=h' }) e c d (by decide) ⟨x,H,I1,ru,⟨rfl,fun ys hy=>by rw[I.tuple_inj hy hq];exact hx⟩,st',fun b hb=>(hf b hb).1⟩⟩
 done:=by
  intro X hP hw hK hc i pins s σ H E I hf st hg;subst hP hw hK;obtain⟨xs,hq,hx⟩:=hg;obtain⟨its,rv,p,hz⟩:=I.tuple hq;obtain⟨f0,f1,f2,f3,f4,f5⟩:=hf it (by simp);have hl:=rv.length;exact wpAny_pyNext_tuple_end (I.ok.hd hc) st (show s.heap.IsTuple a its.toArray from p) (by simp;omega) fun h' eb=>⟨rfl,I.turned (t':=s.toks) (fun b o hb e=>eb b o hb e) f0 f1 f3 f4 f5⟩
 self:=fun _ _ _ _ _ st h=>wpAny_pyIter_tupleiter st h
theorem qG{P:Program}{w:World}{K:Q1}{tg:Expr}(it:Addr)(lo:Int)(n:Nat):Dk P w K tg (Itr lo n) [it] it (fun i h=>IsRangeIter h it (lo+(i:Nat)*1) ((n:Int)-(i:Nat)) 1) where
 mem:=by simp
 obj:=fun i h st b hb=>by
  have e:b=it:=by simpa using hb
  subst e;exact⟨_,st,fun v z=>by
   have z':Data.fields _=Data.cell v:=z;cases z'⟩
 keep:=fun i h h' st k=>k it (by simp) _ st
 item:=by
  intro X hP hw hK hc i pins s σ H E I hf st hg;subst hP hw hK;obtain⟨f0,f1,f2,f3,f4,f5⟩:=hf it (by simp);have W:=Walks.range (prog:=X.prog) (w:=X.w) (I.ok.hd hc) it lo 1 n;refine W.item i s _ _ hg st fun v h' tk hv st' kk=>?_;obtain⟨t,rfl⟩:=hv;have I1:Inv X pins σ H { s with heap:=h',toks:=tk }:=I.turned (fun b o hb e=>kk b o (by simpa using hb) e) f0 f1 f3 f4 f5;refine⟨_,rfl,wK (s:={ s with heap:=h',toks:=tk }) (n:="range_iterator") st' rfl rfl (by decide) ⟨.int (lo+i),H,I1,⟨t,?_⟩,⟨rfl,rfl⟩,st',fun b hb=>(hf b hb).1⟩⟩;rw[Int.mul_one]
 done:=by
  intro X hP hw hK hc i pins s σ H E I hf st hg;subst hP hw hK;obtain⟨f0,f1,f2,f3,f4,f5⟩:=hf it (by simp);exact wpAny_pyNext_range_end (I.ok.hd hc) st (by have:n<=i:=hg;omega) fun h' eb=>⟨rfl,I.turned (t':=s.toks) (fun b o hb e=>eb b o hb e) f0 f1 f3 f4 f5⟩
 self:=fun _ _ _ _ _ st h=>wpAny_pyIter_rangeiter st h
section
variable{X:Cx}{tg:Expr}
def C2(K:Q1)(tl:TE):TI:=fun σ H R=>tl σ H fun x H1=>∃a,x=.ref a/\(∃xs,SqL K H1 a xs)/\R (Itl K a) H1
def GH(K:Q1)(tl:TE):TI:=fun σ H R=>tl σ H fun x H1=>∃a,x=.ref a/\(∃xs,SqT K H1 a xs)/\R (Itt K a) H1
theorem zB{l:Expr}{tl:TE}(hl:PE X l tl):PI X tg l (C2 X.K tl):=by
 intro pins s σ H R I h;refine thn (hl pins s σ H _ I h) fun v s1 hz=>?_;obtain⟨x,H1,I1,r1,q1⟩:=hz;obtain⟨a,e,⟨xs,hq⟩,q⟩:=q1;subst e;cases r1;obtain⟨its,rv,p,hz⟩:=I1.list hq;refine wpAny_pyIter_list p.isList ?_;refine⟨s1.heap.objs.size,[s1.heap.objs.size],_,_,H1,rfl,I1.kept (t':=s1.toks) fun b o e=>Q3 _ e,sd a _,⟨_,QN _ rfl,rfl,rfl⟩,fun b hb=>?_,q⟩;have e:b=s1.heap.objs.size:=by simpa using hb
 subst e;exact I1.fpOk (Q5 _) (I1.hok.fresh (Q5 _))
theorem B6{l:Expr}{tl:TE}(hl:PE X l tl):PI X tg l (GH X.K tl):=by
 intro pins s σ H R I h;refine thn (hl pins s σ H _ I h) fun v s1 hz=>?_;obtain⟨x,H1,I1,r1,q1⟩:=hz;obtain⟨a,e,⟨xs,hq⟩,q⟩:=q1;subst e;cases r1;obtain⟨its,rv,p,hz⟩:=I1.tuple hq;refine wpAny_pyIter_tuple (show s1.heap.IsTuple a its.toArray from p) ?_;refine⟨s1.heap.objs.size,[s1.heap.objs.size],_,_,H1,rfl,I1.kept (t':=s1.toks) fun b o e=>Q3 _ e,qF a _,⟨_,QN _ rfl,rfl,rfl⟩,fun b hb=>?_,q⟩;have e:b=s1.heap.objs.size:=by simpa using hb
 subst e;exact I1.fpOk (Q5 _) (I1.hok.fresh (Q5 _))
theorem vz{pins:List (Addr×Obj)}{σ:St}{H:Hp}{s:Shared}{R:It->Hp->Prop}{E:Value->Shared->Prop}{lo hi:Int}{t u v:Tok}{tk:Nat}(I:Inv X pins σ H s)(h1:-(2^62)<=lo)(h2:lo<2^62)(h3:-(2^62)<=hi)(h4:hi<2^62)
  (q:R (Itr lo (hi-lo).toNat) H):wpAny (model X.prog X.w) X.A (pyIter (.ref s.heap.objs.size)) (PIE X pins σ tg R) E { s with heap:=s.heap.push { cls:=.type "range",data:=.fields #[.int lo t,.int hi u,.int 1 v] },toks:=tk }:=by
 refine wpAny_pyIter_range (IsRange.new ..) (small_one h1 h2 h3 h4) ?_;have I1:Inv X pins σ H { s with heap:=s.heap.push { cls:=.type "range",data:=.fields #[.int lo t,.int hi u,.int 1 v] },toks:=tk }:=I.kept fun b o e=>Q3 _ e;refine⟨(s.heap.push { cls:=.type "range",data:=.fields #[.int lo t,.int hi u,.int 1 v] }).objs.size,[(s.heap.push { cls:=.type "range",data:=.fields #[.int lo t,.int hi u,.int 1 v] }).objs.size],_,_,H,rfl,
  I1.kept (t':=tk) fun b o e=>Q3 _ e,qG _ lo (hi-lo).toNat,?_,fun b hb=>?_,q⟩
 ·have e1:lo+((0:Nat):Int)*1=lo:=by simp
  have e2:(((hi-lo).toNat:Nat):Int)-((0:Nat):Int)=Builtin.Range.rangeSize lo hi 1:=by rw[rangeSize_one];split<;>omega
  show IsRangeIter _ _ (lo+((0:Nat):Int)*1) ((((hi-lo).toNat:Nat):Int)-((0:Nat):Int)) 1;rw[e1,e2];exact QN _ rfl
 ·have e:b=(s.heap.push { cls:=.type "range",data:=.fields #[.int lo t,.int hi u,.int 1 v] }).objs.size:=by simpa using hb
  subst e;exact I1.fpOk (Q5 _) (I1.hok.fresh (Q5 _))
def C1(ta:TA):TI:=fun σ H R=>ta σ H fun vs H1=>∃j:Int,vs=[.int j]/\-(2^62)<=j/\j<2^62/\R (Itr 0 j.toNat) H1
theorem sM{a:Expr}{ta:TA}{p pos:Pos}(hg:Gl X "range")(hm:X.mg "range"=none)(ha:PA X [a] ta)(hs:starEach [a] X.env=[(false,eval a X.env)]:=by rfl):PI X tg (.Call (.Name "range" p) [a] [] pos) (C1 ta):=by
 intro pins s σ H R I h;refine Call_ (pW I hg hm boot_range (PyProof.Rows.callWith_type1 (thn (ha pos pins s σ H _ I h) fun us s1 ⟨vs,H1,I1,r1,q1⟩=>?_) hs rfl));obtain⟨j,e,q1,q2,q⟩:=q1;subst e;cases r1 with
 |cons r rr=>
  cases rr;obtain⟨t,rfl⟩:=r;exact call_range_1 (vz I1 (by omega) (by omega) q1 q2 (by simpa using q))
def DH(wi:TI)(g:TG)(tb:TS):TS:=fun D σ H=>wi σ H fun J H1=>∃W:Nat->Nat->St->Hp->Prop,(∃m,W 0 m σ H1)/\∀i m σ H,W i m σ H->
 (J.stop i H/\D.nx σ H)\/(J.go i H/\∃N:St->Hp->Prop,(∀σ' H',N σ' H'->∃m',m'<m/\W (i+1) m' σ' H')/\∀x H',J.yld i H x H'->g x σ H' fun σ2 H2=>tb { D with nx:=N,ct:=N,bk:=D.nx } σ2 H2)
def pM(fp:List Addr)(h:Heap):List (Addr×Obj):=fp.filterMap fun b=>(h.get? b).map fun o=>(b,o)
theorem eI{fp:List Addr}{h:Heap}{b:Addr}{o:Obj}(hb:b∈fp)(e:h.get? b=some o):(b,o)∈pM fp h:=List.mem_filterMap.mpr ⟨b,hb,by rw[e];rfl⟩
theorem sY{fp:List Addr}{h:Heap}{p:Addr×Obj}(hp:p∈pM fp h):p.1∈fp/\h.get? p.1=some p.2:=by
 obtain⟨b,hb,e⟩:=List.mem_filterMap.mp hp;cases q:h.get? b with
 |none=>rw[q]at e;cases e
 |some o=>
  rw[q]at e;have e':(b,o)=p:=Option.some.inj e;subst e';exact⟨hb,q⟩
theorem Inv.pinned{pins:List (Addr×Obj)}{σ:St}{H:Hp}{s:Shared}{fp:List Addr}(I:Inv X pins σ H s)(hf:∀b∈fp,uQ X pins H b)(ho:∀b∈fp,∃o,s.heap.get? b=some o/\∀v,o.data≠.cell v):Inv X (pins++pM fp s.heap) σ H s:=
 I.pins_of fun p hp=>(Qb.mp hp).elim (fun z=>I.pin p (QK _ z)) fun z=>by
  obtain⟨hb,e⟩:=sY z;obtain⟨f0,f1,f2,_⟩:=hf p.1 hb;obtain⟨o,e',d⟩:=ho p.1 hb;rw[e]at e';cases e';exact⟨e,f0,f1,f2,d⟩
theorem Inv.unpinned{pins pl:List (Addr×Obj)}{σ:St}{H:Hp}{s:Shared}(I:Inv X (pins++pl) σ H s):Inv X pins σ H s:=I.pins_of fun p hp=>I.pin p (QK _ (List.mem_append_left _ hp))
theorem B3{iter:Expr}{body:List Stmt}{wi:TI}{g:TG}{tb:TS}{pos:Pos}(hp:PassesOwn (model X.prog X.w) X.A X.env X.xe)(hc:X.calm=true)(hi:PI X tg iter wi)(hg:PG X tg g)(hb:PSs X body tb)
  (hs:∀x,foldedSetIterable iter X.env x=pure x:=by intro _;rfl):PS X (.For tg iter body [] pos) (DH wi g tb):=by
 intro pins s σ H D I h;refine wpAny_For (thn (hi pins s σ H _ I h) fun v s1 h1=>thn h1 fun itv s2 h2=>?_) hs;obtain⟨it,fp,tn,J,H2,e,I2,T,st2,f2,W,⟨m0,w0⟩,turn⟩:=h2;subst e;have stat:∀{H':Hp},(∀b∈fp,H' b=none)->∀b∈fp,uQ X pins H' b:=fun hn b hb=>⟨hn b hb,(f2 b hb).2⟩;refine codeAny_forLoop_any (fun n s'=>∃i σ' H',Inv X pins σ' H' s'/\tn i s'.heap/\(∀b∈fp,H' b=none)/\W i n σ' H') ?_ m0 ⟨0,σ,H2,I2,st2,fun b hb=>(f2 b hb).1,w0⟩;rintro n s3 ⟨i,σ3,H3,I3,st3,fr3,w3⟩;rcases turn i n σ3 H3 w3 with⟨stop,qn⟩|⟨go,N,hN,step⟩
 ·refine wpAny_passesOwn hp (thn (T.done X rfl rfl rfl hc i pins s3 σ3 H3 X.xe I3 (stat fr3) st3 stop) fun r s4 ⟨hr,I4⟩=>?_);subst hr;exact wpAny_execs_nil ⟨σ3,H3,I4,qn⟩
 ·refine wpAny_passesOwn hp (thn (T.item X rfl rfl rfl hc i pins s3 σ3 H3 X.xe I3 (stat fr3) st3 go) fun r s4 ⟨u,hr,h4⟩=>?_);subst hr;refine wpAny_passesOwn hp (thn h4 fun _ s5 hz=>?_);obtain⟨x,H5,I5,r5,y5,st5,fr5⟩:=hz;have I5':=I5.pinned (stat fr5) (T.obj _ _ st5);refine wpAny_passesOwn hp (thn (hg _ s5 σ3 H5 x u _ I5' r5 (step x H5 y5)) fun _ s6 hz=>?_);obtain⟨σ6,H6,I6,q6⟩:=hz;refine wpAny_passesOwn hp (thn (hb _ s6 σ6 H6 _ I6 q6) fun f s7 q7=>?_);have again:∀{σ7:St} {H7:Hp},Inv X (pins++pM fp s5.heap) σ7 H7 s7->N σ7 H7->∃m,m<n/\∃i σ' H',Inv X pins σ' H' s7/\tn i s7.heap/\(∀b∈fp,H' b=none)/\W i m σ' H':=fun{σ7 H7} I7 n7=>by
   obtain⟨m',hm,w7⟩:=hN σ7 H7 n7;refine⟨m',hm,i+1,σ7,H7,I7.unpinned,T.keep _ _ _ st5 fun b hb o e=>(I7.pin (b,o) (QK _ (QK _ (eI hb e)))).1,fun b hb=>?_,w7⟩;obtain⟨o,e,d⟩:=T.obj _ _ st5 b hb;exact(I7.pin (b,o) (QK _ (QK _ (eI hb e)))).2.1
  cases f with
  |next=>obtain⟨σ7,H7,I7,n7⟩:=q7;exact again I7 n7
  |cont=>obtain⟨σ7,H7,I7,n7⟩:=q7;exact again I7 n7
  |brk=>obtain⟨σ7,H7,I7,q7⟩:=q7;exact⟨σ7,H7,I7.unpinned,q7⟩
  |ret v=>obtain⟨x7,σ7,H7,I7,r7,q7⟩:=q7;exact⟨x7,σ7,H7,I7.unpinned,r7,q7⟩
end
abbrev R2:=V->V->Hp->VK->Prop
def OpR(X:Cx)(f:Value->Value->Sem Value)(r:R2):Prop:=
 ∀(pins:List (Addr×Obj)) (s:Shared) (σ:St) (H:Hp) (x y:V) (v u:Value) (Q:VK),Inv X pins σ H s->cu x v->cu y u->r x y H Q->
  wpAny (model X.prog X.w) X.A (f v u) (EP X pins σ Q) X.xe s
def gv(X:Cx)(f:Value)(r:List V->Hp->VK->Prop):Prop:=
 ∀(pins:List (Addr×Obj)) (s:Shared) (σ:St) (H:Hp) (xs:List V) (us:List Value) (Q:VK),Inv X pins σ H s->bK xs us->r xs H Q->
  wpAny (model X.prog X.w) X.A (call f us) (EP X pins σ Q) X.xe s
def tOp(r:R2)(ta tb:TE):TE:=fun σ H Q=>ta σ H fun x H1=>tb σ H1 fun y H2=>r x y H2 Q
def rI(C:Int->Int->Prop)(g:Int->Int->V):R2:=fun x y H Q=>∃i j,x=.int i/\y=.int j/\C i j/\Q (g i j) H
def rI0(g:Int->Int->V):R2:=fun x y H Q=>∃i j,x=.int i/\y=.int j/\Q (g i j) H
section
variable{X:Cx}{a b:Expr}{ta tb:TE}{pos:Pos}
theorem F0(ha:PE X a ta)(hb:PE X b tb){pins:List (Addr×Obj)}{s:Shared}{σ:St}{H:Hp}{R:V->V->Hp->Prop}(I:Inv X pins σ H s)
  (h:ta σ H fun x H1=>tb σ H1 fun y H2=>R x y H2) {Q:Value->Shared->Prop} {f:Value->Value->Sem Value}
  (hf:∀v u s2 x y H2,Inv X pins σ H2 s2->cu x v->cu y u->R x y H2->wpAny (model X.prog X.w) X.A (f v u) Q X.xe s2) :
  wpAny (model X.prog X.w) X.A (eval a X.env) (fun v s₁=>wpAny (model X.prog X.w) X.A (eval b X.env) (fun u s₂=>wpAny (model X.prog X.w) X.A (f v u) Q X.xe s₂) X.xe s₁) X.xe s:=by
 refine thn (ha pins s σ H _ I h) fun v s1 hz=>?_;obtain⟨x,H1,I1,r1,q1⟩:=hz;refine thn (hb pins s1 σ H1 _ I1 q1) fun u s2 hz=>?_;obtain⟨y,H2,I2,r2,q2⟩:=hz;exact hf v u s2 x y H2 I2 r1 r2 q2
theorem Fj{op:Operator}{r:R2}(ho:OpR X (binaryOp op) r)(ha:PE X a ta)(hb:PE X b tb):PE X (.BinOp a op b pos) (tOp r ta tb):=by
 intro pins s σ H Q I h;exact wpAny_BinOp (F0 ha hb I h fun v u s2 x y H2 I2 rx ry q=>ho pins s2 σ H2 x y v u Q I2 rx ry q)
theorem opI{f:Value->Value->Sem Value}{C:Int->Int->Prop}{g:Int->Int->Int}
  (rule:∀(i j:Int) (t u:Tok) (s:Shared) (Q:Value->Shared->Prop) (E:Value->Shared->Prop),C i j->Q (.int (g i j) s.toks) { s with toks:=s.toks+1 }->wpAny (model X.prog X.w) X.A (f (.int i t) (.int j u)) Q E s) :
  OpR X f (rI C fun i j=>.int (g i j)):=by
 intro pins s σ H x y v u Q I rx ry h;obtain⟨i,j,rfl,rfl,hc,q⟩:=h;obtain⟨t,rfl⟩:=rx;obtain⟨t',rfl⟩:=ry;exact rule i j t t' s _ _ hc ⟨.int (g i j),H,I.tok _,⟨_,rfl⟩,q⟩
theorem Gs{f:Value->Value->Sem Value}{g:Int->Int->Int}
  (rule:∀(i j:Int) (t u:Tok) (s:Shared) (Q:Value->Shared->Prop) (E:Value->Shared->Prop),Q (.int (g i j) s.toks) { s with toks:=s.toks+1 }->wpAny (model X.prog X.w) X.A (f (.int i t) (.int j u)) Q E s) :
  OpR X f (rI0 fun i j=>.int (g i j)):=by
 intro pins s σ H x y v u Q I rx ry h;obtain⟨i,j,rfl,rfl,q⟩:=h;obtain⟨t,rfl⟩:=rx;obtain⟨t',rfl⟩:=ry;exact rule i j t t' s _ _ ⟨.int (g i j),H,I.tok _,⟨_,rfl⟩,q⟩
theorem Fz{f:Value->Value->Sem Value}{g:Int->Int->Bool}
  (rule:∀(i j:Int) (t u:Tok) (s:Shared) (Q:Value->Shared->Prop) (E:Value->Shared->Prop),Q (.bool (g i j)) s->wpAny (model X.prog X.w) X.A (f (.int i t) (.int j u)) Q E s) :
  OpR X f (rI0 fun i j=>.bl (g i j)):=by
 intro pins s σ H x y v u Q I rx ry h;obtain⟨i,j,rfl,rfl,q⟩:=h;obtain⟨t,rfl⟩:=rx;obtain⟨t',rfl⟩:=ry;exact rule i j t t' s _ _ ⟨.bl (g i j),H,I,rfl,q⟩
def GQ(i j:Int):Prop:=0<=j/\j<=1000000/\i.natAbs<2^64
def uR(i j:Int):Prop:=(-(2^64)<i/\i<2^64)\/(-(2^64)<j/\j<2^64)
theorem uR.ok{i j:Int}(h:uR i j):IntMulOk i j:=by
 rcases h with⟨h1,h2⟩|⟨h1,h2⟩
 ·exact .of_left (intBits_le_64 h1 h2)
 ·exact .of_right (intBits_le_64 h1 h2)
def Cv:OpR X (binaryOp .Add) (rI0 fun i j=>.int (i+j)):=Gs fun _ _ _ _ _ _ _ q=>add_int q
def Cr:OpR X (binaryOp .Sub) (rI0 fun i j=>.int (i-j)):=Gs fun _ _ _ _ _ _ _ q=>sub_int q
def iB:OpR X (binaryOp .Mult) (rI uR fun i j=>.int (i*j)):=opI fun _ _ _ _ _ _ _ hc q=>mul_int q hc.ok
theorem mO:OpR X (binaryOp .Mod) (rI (fun _ j=>0<j) fun i j=>.int (i % j)):=opI fun i j _ _ _ _ _ hc q=>by
 have h1:(0:Int)<j:=hc;exact mod_int' (by omega) (by rw[Int.fmod_eq_emod_of_nonneg i (by omega)];exact q)
end
def E5:V->V->Bool
 |.non,.non=>true|.non,.int _=>true|.int _,.non=>true|.non,.bl _=>true|.bl _,.non=>true|.non,.str _=>true|.str _,.non=>true
 |.int _,.int _=>true|.bl _,.bl _=>true|.str _,.str _=>true|.byt _,.byt _=>true
 |.int _,.str _=>true|.str _,.int _=>true|.bl _,.str _=>true|.str _,.bl _=>true
 |_,_=>false
def rEq:R2:=fun x y H Q=>E5 x y=true/\Q (.bl (decide (x=y))) H
def rNe:R2:=fun x y H Q=>E5 x y=true/\Q (.bl (!decide (x=y))) H
theorem uj{i j:Int}:decide (V.int i=V.int j)=(i == j):=by
 rw[Z7];simp
theorem x6{i j:Bool}:decide (V.bl i=V.bl j)=(i == j):=by
 rw[Z7];simp
theorem ui{i j:Str}:decide (V.str i=V.str j)=(i == j):=by
 rw[Z7];simp
theorem um{i j:Array UInt8}:decide (V.byt i=V.byt j)=(i.toList == j.toList):=by
 rw[Z7];cases i;cases j;simp
section
variable{X:Cx}{a b c:Expr}{ta tb:TE}{pos:Pos}
theorem bu{pins:List (Addr×Obj)}{σ:St}{H:Hp}{s:Shared}{Q:VK}{k k':Bool}(I:Inv X pins σ H s)(q:Q (.bl k) H)(e:k=k'):EP X pins σ Q (.bool k') s:=by
 subst e;exact⟨.bl k,H,I,rfl,q⟩
theorem mP:OpR X (compareOp .Eq) rEq:=by
 intro pins s σ H x y v u Q I rx ry h;obtain⟨hs,q⟩:=h;cases x with
 |non=>
  cases rx;cases y with
  |non=>cases ry;exact PySem.EqNone.eq_none_none (bu I q (by simp))
  |bl j=>cases ry;exact PySem.EqNone.eq_none_bool (bu I q (by simp))
  |int j=>obtain⟨t',rfl⟩:=ry;exact PySem.EqNone.eq_none_int (bu I q (by simp))
  |str j=>obtain⟨t',rfl⟩:=ry;exact PySem.EqNone.eq_none_str (bu I q (by simp))
  |_=>exact absurd (show false=true from hs) Q7
 |bl i=>
  cases rx;cases y with
  |non=>cases ry;exact PySem.EqNone.eq_bool_none (bu I q (by simp))
  |bl j=>cases ry;exact eq_bool (bu I q x6)
  |str j=>obtain⟨t',rfl⟩:=ry;exact PySem.EqMixed.eq_bool_str (bu I q (by simp))
  |_=>exact absurd (show false=true from hs) Q7
 |int i=>
  obtain⟨t,rfl⟩:=rx;cases y with
  |non=>cases ry;exact PySem.EqNone.eq_int_none (bu I q (by simp))
  |int j=>obtain⟨t',rfl⟩:=ry;exact eq_int (bu I q uj)
  |str j=>obtain⟨t',rfl⟩:=ry;exact PySem.EqMixed.eq_int_str (bu I q (by simp))
  |_=>exact absurd (show false=true from hs) Q7
 |str i=>
  obtain⟨t,rfl⟩:=rx;cases y with
  |non=>cases ry;exact PySem.EqNone.eq_str_none (bu I q (by simp))
  |bl j=>cases ry;exact PySem.EqMixed.eq_str_bool (bu I q (by simp))
  |int j=>obtain⟨t',rfl⟩:=ry;exact PySem.EqMixed.eq_str_int (bu I q (by simp))
  |str j=>obtain⟨t',rfl⟩:=ry;exact eq_str (bu I q ui)
  |_=>exact absurd (show false=true from hs) Q7
 |byt i=>
  obtain⟨t,rfl⟩:=rx;cases y with
  |byt j=>obtain⟨t',rfl⟩:=ry;exact PySem.W.eq_bytes (bu I q um)
  |_=>exact absurd (show false=true from hs) Q7
 |_=>cases y<;>exact absurd (show false=true from hs) Q7
theorem zR:OpR X (compareOp .NotEq) rNe:=by
 intro pins s σ H x y v u Q I rx ry h;obtain⟨hs,q⟩:=h;cases x with
 |non=>
  cases rx;cases y with
  |non=>cases ry;exact PySem.EqNone.ne_none_none (bu I q (by simp))
  |bl j=>cases ry;exact PySem.EqNone.ne_none_bool (bu I q (by simp))
  |int j=>obtain⟨t',rfl⟩:=ry;exact PySem.EqNone.ne_none_int (bu I q (by simp))
  |str j=>obtain⟨t',rfl⟩:=ry;exact PySem.EqNone.ne_none_str (bu I q (by simp))
  |_=>exact absurd (show false=true from hs) Q7
 |bl i=>
  cases rx;cases y with
  |non=>cases ry;exact PySem.EqNone.ne_bool_none (bu I q (by simp))
  |bl j=>cases ry;exact ne_bool (bu I q (congrArg not x6))
  |str j=>obtain⟨t',rfl⟩:=ry;exact PySem.EqMixed.ne_bool_str (bu I q (by simp))
  |_=>exact absurd (show false=true from hs) Q7
 |int i=>
  obtain⟨t,rfl⟩:=rx;cases y with
  |non=>cases ry;exact PySem.EqNone.ne_int_none (bu I q (by simp))
  |int j=>obtain⟨t',rfl⟩:=ry;exact ne_int (bu I q (congrArg not uj))
  |str j=>obtain⟨t',rfl⟩:=ry;exact PySem.EqMixed.ne_int_str (bu I q (by simp))
  |_=>exact absurd (show false=true from hs) Q7
 |str i=>
  obtain⟨t,rfl⟩:=rx;cases y with
  |non=>cases ry;exact PySem.EqNone.ne_str_none (bu I q (by simp))
  |bl j=>cases ry;exact PySem.EqMixed.ne_str_bool (bu I q (by simp))
  |int j=>obtain⟨t',rfl⟩:=ry;exact PySem.EqMixed.ne_str_int (bu I q (by simp))
  |str j=>obtain⟨t',rfl⟩:=ry;exact ne_str (bu I q (congrArg not ui))
  |_=>exact absurd (show false=true from hs) Q7
 |byt i=>
  obtain⟨t,rfl⟩:=rx;cases y with
  |byt j=>obtain⟨t',rfl⟩:=ry;exact PySem.W.ne_bytes (bu I q (congrArg not um))
  |_=>exact absurd (show false=true from hs) Q7
 |_=>cases y<;>exact absurd (show false=true from hs) Q7
def wa:OpR X (compareOp .Lt) (rI0 fun i j=>.bl (decide (i<j))):=Fz fun _ _ _ _ _ _ _ q=>lt_int q
def Fy:OpR X (compareOp .LtE) (rI0 fun i j=>.bl (decide (i<=j))):=Fz fun _ _ _ _ _ _ _ q=>le_int q
def zS:OpR X (compareOp .Gt) (rI0 fun i j=>.bl (decide (j<i))):=Fz fun _ _ _ _ _ _ _ q=>gt_int q
theorem xP:OpR X (compareOp .Is) (fun x y H Q=>y=.non/\Q (.bl (decide (x=.non))) H):=by
 intro pins s σ H x y v u Q I rx ry h;obtain⟨rfl,q⟩:=h;cases ry;refine is_none_gen (bu I q ?_);cases x<;>first
  |(cases rx;rfl)
  |(obtain⟨t,rfl⟩:=rx;rfl)
theorem sU:OpR X (compareOp .IsNot) (fun x y H Q=>y=.non/\Q (.bl (!decide (x=.non))) H):=by
 intro pins s σ H x y v u Q I rx ry h;obtain⟨rfl,q⟩:=h;cases ry;refine isnot_none_gen (bu I q ?_);cases x<;>first
  |(cases rx;rfl)
  |(obtain⟨t,rfl⟩:=rx;rfl)
theorem OpR.or{f:Value->Value->Sem Value}{r r':R2}(h:OpR X f r)(h':OpR X f r'):OpR X f (fun x y H Q=>r x y H Q\/r' x y H Q):=by
 intro pins s σ H x y v u Q I rx ry q;rcases q with q|q
 ·exact h pins s σ H x y v u Q I rx ry q
 ·exact h' pins s σ H x y v u Q I rx ry q
theorem bC(b:Expr){op:CmpOp}(h:op≠.In:=by decide)(h2:op≠.NotIn:=by decide):behindInMarks op b=false:=by
 have e1:(op == CmpOp.In)=false:=by cases op<;>first|rfl|exact absurd rfl h
 have e2:(op == CmpOp.NotIn)=false:=by cases op<;>first|rfl|exact absurd rfl h2
 cases b<;>simp[behindInMarks,e1,e2]
theorem zH{op:CmpOp}{r:R2}(ho:OpR X (compareOp op) r)(ha:PE X a ta)(hb:PE X b tb)(hm:behindInMarks op b=false):PE X (.Compare a [op] [b] pos) (tOp r ta tb):=by
 intro pins s σ H Q I h;exact wpAny_Compare1 (F0 ha hb I h fun v u s2 x y H2 I2 rx ry q=>ho pins s2 σ H2 x y v u Q I2 rx ry q) hm
def BC(t:TE):TT:=fun σ H Q=>t σ H fun x H'=>∃k,x=.bl k/\Q k H'
theorem zq{op:CmpOp}{r:R2}(ho:OpR X (compareOp op) r)(ha:PE X a ta)(hb:PE X b tb)(hm:behindInMarks op b=false):PT X (.Compare a [op] [b] pos) (BC (tOp r ta tb)):=by
 intro pins s σ H Q I h;refine wpAny_isTrue_Compare1 (thn (ha pins s σ H _ I h) fun v s1 ⟨x,H1,I1,r1,q1⟩=>thn (hb pins s1 σ H1 _ I1 q1) fun u s2 ⟨y,H2,I2,r2,q2⟩=>
  thn (ho pins s2 σ H2 x y v u _ I2 r1 r2 q2) fun c s3 ⟨z,H3,I3,r3,k,e,q3⟩=>?_) hm
 subst e;cases r3;exact wpAny_truthy_bool ⟨H3,I3,q3⟩
def pT:(sizeLine:Nat)<2^63:=by rw[sizeLine_eq];decide
theorem qP:OpR X (binaryOp .Add) (fun x y H Q=>∃i j,x=.str i/\y=.str j/\i.length+j.length<=sizeLine/\Q (.str (i++j)) H):=by
 intro pins s σ H x y v u Q I rx ry h;obtain⟨i,j,rfl,rfl,hz,q⟩:=h;obtain⟨t,rfl⟩:=rx;obtain⟨t',rfl⟩:=ry;exact add_str (fun t' tk=>⟨.str (i++j),H,I.tok _,⟨_,rfl⟩,q⟩) hz
theorem n5{x:V}{us:List Value}(r:bK [x] us):∃u,us=[u]/\cu x u:=by
 cases r with
 |cons r1 r2=>cases r2;exact⟨_,rfl,r1⟩
end
structure AF(h:Heap)(x dx C:Addr)(mA:Str->Option Value):Prop where
 obj:h.get? x=some (PySem.W.instObj C dx)
 ns:h.Ns1 dx mA
 ne:dx≠x
theorem tD{h:Heap}{dx:Addr}{mA:Str->Option Value}(n:h.Ns1 dx mA):∃od,h.get? dx=some od/\∀name,PySem.W.lookIn name od=some (mA name):=by
 obtain⟨o,es,ep,ho,hd,hk,_,hm⟩:=n;refine⟨o,ho,fun name=>?_⟩;have e:=hm name;unfold nsFind findBy at e;rw[<-Array.find?_toList]at e;unfold PySem.W.lookIn;rw[hd];dsimp only;split
 ·rename_i y q;rw[q]at e;exact congrArg some e
 ·rename_i q;rw[q]at e;have a:es.toList.any (·.refKey)=false:=by
   rw[List.any_eq_false];intro y hy;obtain⟨z,t,hkey⟩:=hk y (Array.mem_toList_iff.mp hy);simp[DictEntry.refKey,hkey]
  have a':¬es.toList.any (·.refKey)=true:=by rw[a];exact Q7
  rw[if_neg a'];exact congrArg some e
theorem AF.look{h:Heap}{x dx C:Addr}{mA:Str->Option Value}(I:AF h x dx C mA):∃od,PySem.W.InstAt h x (PySem.W.instObj C dx) C (some od)/\∀name,PySem.W.lookIn name od=some (mA name):=
 let ⟨od,ho,hl⟩:=tD I.ns
 ⟨od,⟨I.obj,rfl,rfl,ho⟩,hl⟩
section
variable{prog:Program}{w:World}{A:Around}{E:Value->Shared->Prop}{s:Shared}{K:Q1}{x dx C f:Addr}{mA:Str->Option Value}{name:Str}{v:Value}
theorem Aq{expr:Bool}{Q:Value->Shared->Prop}(X:K.In s.heap)(I:AF s.heap x dx C mA)(hg:PySem.W.plainGet K C name=true)(hh:PySem.W.hasDictIn K C=true)
  (ha:PySem.W.findIn K (.ref C) name=some none) (hv:mA name=some v) (hv':PySem.W.handedIn v=true) (h:Q v { s with toks:=s.toks+1 }) :
  wpAny (model prog w) A (getAttr (.ref x) name expr) Q E s:=by
 obtain⟨od,J,hl⟩:=I.look;exact PySem.W.get_value X J (PySem.W.plainGet_of hg).1 (PySem.W.findObj_own hh ha rfl (by rw[hl,hv])) hv' h
theorem wL{pl:Sem Bool}{Q:Value×List Value->Shared->Prop}(X:K.In s.heap)(I:AF s.heap x dx C mA)(hg:PySem.W.plainGet K C name=true)
  (hf:PySem.W.findIn K (.ref C) name=some (some (.ref f))) (ht:PySem.W.isFn K (.ref f)=true) (hv:mA name=none) (h:Q (.ref f,[.ref x]) s) :
  wpAny (model prog w) A (getMethod (.ref x) name pl) Q E s:=by
 obtain⟨od,J,hl⟩:=I.look;exact PySem.W.method_fn X J (PySem.W.plainGet_of hg).1 (PySem.W.plainGet_of hg).2 hf (beq_iff_eq.mp ht) (by show(PySem.W.lookIn name od).map (·.isSome)=some false;rw[hl,hv];rfl) h
theorem zb{ns:List Str}{Q:Unit->Shared->Prop}(X:K.In s.heap)(I:AF s.heap x dx C mA)
  (hs:PySem.W.findIn K (.ref C) "__setattr__"=some (some (.builtin "object.__setattr__"))) (hp:PySem.W.plainOver K C=true) (ht:PySem.W.takerIn K C name=some none) (hh:PySem.W.hasDictIn K C=true)
  (hw:PySem.Within mA ns) (hsz:ns.length<=sizeLine)
  (h:∀h',AF h' x dx C (fun y=>if y=name then some v else mA y)->Heap.SameBut dx s.heap h'->Q () { s with heap:=h',toks:=s.toks+2 }) :
  wpAny (model prog w) A (setAttr (.ref x) name v) Q E s:=by
 obtain⟨od,J,hl⟩:=I.look;refine PySem.W.set_plain X J hs (PySem.W.osa_open (s:={ s with toks:=s.toks+1 }) (r:=none) X J hp ht fun b=>?_);obtain⟨cd,hc,hd'⟩:=PySem.W.any_some hh;have hx:s.heap.get? x=some ⟨.ref C,some dx,.plain,#[]⟩:=I.obj;refine Q2 (QY (Q2 (Q2 (wpAny_loadPart hx (Q2 (PySem.W.Looks.here (s:={ s with toks:=s.toks+1 }) (PySem.W.looks_clsIn X hc) ?_))))));rw[hd'];refine QY (a:=some dx) (Q2 (QY (Q2 ?_)));refine wpAny_nsSet1 (s:={ s with toks:=s.toks+1 }) I.ns fun h' hn2 hs2=>?_;obtain⟨oD,esD,epD,hoD,hdD,hcD⟩:=hn2.count (PySem.Within.cons name v hw);refine Q2 (wpAny_lookBehind hoD (by rw[hdD];exact pastItsLine_dict (QL hcD (by rw[QJ];omega))) ?_);exact QY (h _ ⟨(hs2.2 _ (Ne.symm I.ne)).trans I.obj,hn2,I.ne⟩ hs2)
theorem wj{R:Result->Shared->Prop}{vs:List Value}{kw:List (Str×Value)}(X:K.In s.heap)(hm:PySem.W.makesIn K C=true)
  (hi:PySem.W.findIn K (.ref C) "__init__"=some (some (.ref f))) (hf:PySem.W.typeIn K (.ref f)=some (.type "function"))
  (h:codeAny (model prog w) (A.under (.builtin "type.__call__" ⟨.ref C::vs,kw⟩)) (.call (.ref f) ⟨.ref (s.heap.objs.size+1)::vs,kw⟩) (PySem.W.InitBack (s.heap.objs.size+1) R)
   { s with heap:=(s.heap.push PySem.W.emptyDict).push (PySem.W.instObj C s.heap.objs.size) }) :
  codeAny (model prog w) A (.call (.ref C) ⟨vs,kw⟩) R s:=by
 obtain⟨hh,g,d,t,os⟩:=s;exact PySem.W.make_core (PySem.W.makes_of X hm) (PySem.W.looks_findIn X hi) (fun self=>PySem.W.bind_fn X self hf) (.inl rfl) h
end
def jZ(f:Str)(v:V):List (Str×V)->List (Str×V)
 |[]=>[(f,v)]
 |(g,x)::r=>if g=f then(g,v)::r else(g,x)::jZ f v r
theorem gZ(f g:Str)(v:V):∀fs:List (Str×V),(jZ f v fs).lookup g=if g=f then some v else fs.lookup g
 |[]=>by
  show List.lookup g [(f,v)]=_;by_cases h:g=f
  ·have hb:(g == f)=true:=beq_iff_eq.mpr h;simp only[List.lookup,hb,if_pos h]
  ·have hb:(g == f)=false:=beq_eq_false_iff_ne.mpr h;simp only[List.lookup,hb,if_neg h]
 |(k,x)::r=>by
  have ih:=gZ f g v r;rw[show jZ f v ((k,x)::r)=(if k=f then(k,v)::r else(k,x)::jZ f v r)from rfl];by_cases hk:k=f
  ·rw[if_pos hk];by_cases h:g=k
   ·have hb:(g == k)=true:=beq_iff_eq.mpr h;simp only[List.lookup,hb,if_pos (h.trans hk)]
   ·have hb:(g == k)=false:=beq_eq_false_iff_ne.mpr h;simp only[List.lookup,hb,if_neg (fun e:g=f=>h (e.trans hk.symm))]
  ·rw[if_neg hk];by_cases h:g=k
   ·have hb:(g == k)=true:=beq_iff_eq.mpr h;simp only[List.lookup,hb,if_neg (fun e:g=f=>hk (h.symm.trans e))]
   ·have hb:(g == k)=false:=beq_eq_false_iff_ne.mpr h;simp only[List.lookup,hb];exact ih
theorem eO(f:Str)(v:V):∀fs:List (Str×V),f∈(jZ f v fs).map (·.1)/\∀g,g∈fs.map (·.1)->g∈(jZ f v fs).map (·.1)
 |[]=>⟨by simp[jZ],fun g h=>by simp at h⟩
 |(k,x)::r=>by
  obtain⟨i1,i2⟩:=eO f v r;rw[show jZ f v ((k,x)::r)=(if k=f then(k,v)::r else(k,x)::jZ f v r)from rfl];by_cases hk:k=f
  ·rw[if_pos hk];subst hk;exact⟨by simp,fun g h=>by simpa using h⟩
  ·rw[if_neg hk];refine⟨?_,fun g h=>?_⟩
   ·rw[QU];exact Q8 _ i1
   ·rw[QU]at h ⊢;rcases QC.mp h with e|e
    ·exact QC.mpr (.inl e)
    ·exact Q8 _ (i2 g e)
theorem jJ(f:Str)(v:V):∀fs:List (Str×V),(jZ f v fs).length<=fs.length+1
 |[]=>by simp[jZ]
 |(k,x)::r=>by
  have ih:=jJ f v r;rw[show jZ f v ((k,x)::r)=(if k=f then(k,v)::r else(k,x)::jZ f v r)from rfl];by_cases hk:k=f
  ·rw[if_pos hk,QJ,QJ];omega
  ·rw[if_neg hk,QJ,QJ];omega
theorem l0.some_of{v:V}{o:Option Value}(r:l0 (some v) o):∃u,o=some u/\cu v u:=by
 cases o with
 |none=>exact(show False from r).elim
 |some u=>exact⟨u,rfl,r⟩
theorem l0.none_of{o:Option Value}(r:l0 none o):o=none:=by
 cases o with
 |none=>rfl
 |some u=>exact(show False from r).elim
theorem t9{v:V}{u:Value}(r:cu v u):PySem.W.handedIn u=true:=by
 cases v with
 |non=>cases (show u=Value.none from r);rfl
 |bl b=>cases (show u=Value.bool b from r);rfl
 |int i=>obtain⟨t,e⟩:=(show ∃t,u=Value.int i t from r);cases e;rfl
 |str x=>obtain⟨t,e⟩:=(show ∃t,u=Value.str x t from r);cases e;rfl
 |byt b=>obtain⟨t,e⟩:=(show ∃t,u=Value.bytes b t from r);cases e;rfl
 |flt b=>obtain⟨t,e⟩:=(show ∃t,u=Value.float b t from r);cases e;rfl
 |ref a=>cases (show u=Value.ref a from r);rfl
 |ty n=>cases (show u=Value.type n from r);rfl
section
variable{P:Program}{w:World}{H:Hp}{h:Heap}{a C dx:Addr}{fs:List (Str×V)}
theorem oz(hok:HOk P w H h)(e:H a=some (.ins C dx fs)):∃mA,AF h a dx C mA/\(∀f,l0 (fs.lookup f) (mA f))/\PySem.Within mA (fs.map (·.1))/\fs.length<=1000/\H dx=some (.own a):=by
 obtain⟨d,z,ne,ob,mA,n,r,q⟩:=(show dE P w H h a (.ins C dx fs)from hok a _ e);exact⟨mA,⟨ob,n,ne⟩,r,q,z,d⟩
end
structure Cls(K:Q1)(C:Addr):Prop where
 pg:PySem.W.plainGet K C Str.empty=true
 hd:PySem.W.hasDictIn K C=true
 po:PySem.W.plainOver K C=true
 sa:PySem.W.findIn K (.ref C) "__setattr__"=some (some (.builtin "object.__setattr__"))
def Cls.get{K:Q1}{C:Addr}(c:Cls K C)(f:Str):PySem.W.plainGet K C f=true:=c.pg
def gR(K:Q1)(C:Addr)(f:Str):Prop:=PySem.W.findIn K (.ref C) f=some none
theorem gR.taker{K:Q1}{C:Addr}{f:Str}(n:gR K C f):PySem.W.takerIn K C f=some none:=by
 unfold PySem.W.takerIn;rw[show PySem.W.findIn K (.ref C) f=some none from n];rfl
structure AG(K:Q1)(C:Addr)(m:Str)(f:Addr):Prop where
 at_:PySem.W.findIn K (.ref C) m=some (some (.ref f))
 fn:PySem.W.isFn K (.ref f)=true
 kp:PySem.W.keepIn K (.ref f)=true
section
variable{X:Cx}{pins:List (Addr×Obj)}{σ:St}{H:Hp}{s:Shared}{a C dx:Addr}{fs:List (Str×V)}{f:Str}{v:V}{A:Around}{E:Value->Shared->Prop}
theorem qW{b:Bool}{Q:Value->Shared->Prop}(I:Inv X pins σ H s)(e:H a=some (.ins C dx fs))(c:Cls X.K C)(n:gR X.K C f)(l:fs.lookup f=some v)
  (h:∀u s',Inv X pins σ H s'->cu v u->Q u s'):wpAny (model X.prog X.w) A (getAttr (.ref a) f b) Q E s:=by
 obtain⟨mA,O,r,_,_,_⟩:=oz I.hok e;obtain⟨u,hu,ru⟩:=l0.some_of (v:=v) (o:=mA f) (by rw[<-l];exact r f);exact Aq I.kIn O (c.get f) c.hd n hu (t9 ru) (h u _ (I.tok _) ru)
theorem kM{m:Str}{g:Addr}{pl:Sem Bool}{Q:Value×List Value->Shared->Prop}(I:Inv X pins σ H s)(e:H a=some (.ins C dx fs))(c:Cls X.K C)(k:AG X.K C m g)(l:fs.lookup m=none)
  (h:Q (.ref g,[.ref a]) s):wpAny (model X.prog X.w) A (getMethod (.ref a) m pl) Q E s:=by
 obtain⟨mA,O,r,_,_,_⟩:=oz I.hok e;have hn:mA m=none:=l0.none_of (by rw[<-l];exact r m);exact wL I.kIn O (c.get m) k.at_ k.fn hn h
theorem qH{y:V}{u:Value}{Q:Unit->Shared->Prop}(I:Inv X pins σ H s)(e:H a=some (.ins C dx fs))(c:Cls X.K C)(n:gR X.K C f)(hl:fs.length<1000)(ry:cu y u)
  (h:∀s',Inv X pins σ (upd H a (.ins C dx (jZ f y fs))) s'->Q () s'):wpAny (model X.prog X.w) A (setAttr (.ref a) f u) Q E s:=by
 obtain⟨mA,O,r,wi,_,ho⟩:=oz I.hok e;have hz:(fs.map (·.1)).length<=sizeLine:=by rw[QZ,sizeLine_eq];omega
 refine zb I.kIn O c.sa c.po n.taker c.hd wi hz fun h' O' sb=>h _ ?_;have hd:∃o,h'.get? dx=some o:=let ⟨o,_,_,e',_⟩:=O'.ns;⟨o,e'⟩
 refine I.write (x:=a) (e:=dx) (by rw[e];exact True.intro) (.inr ho) (fun b q hb z=>(sb.2 b hb).trans z) hd ?_;refine⟨by rw[aK O.ne];exact ho,?_,O.ne,O'.obj,_,O'.ns,fun g=>?_,fun g hg=>?_⟩
 ·have:=jJ f y fs;omega
 ·show l0 ((jZ f y fs).lookup g) (if g=f then some u else mA g);rw[gZ];by_cases q:g=f
  ·rw[if_pos q,if_pos q];exact ry
  ·rw[if_neg q,if_neg q];exact r g
 ·by_cases q:g=f
  ·rw[q];exact(eO f y fs).1
  ·refine(eO f y fs).2 g (wi g fun z=>hg ?_);show(if g=f then some u else mA g)=none;rw[if_neg q];exact z
theorem Inv.made(I:Inv X pins σ H s):Inv X pins σ (upd (upd H s.heap.objs.size (.own (s.heap.objs.size+1))) (s.heap.objs.size+1) (.ins C s.heap.objs.size []))
  { s with heap:=(s.heap.push PySem.W.emptyDict).push (PySem.W.instObj C s.heap.objs.size) }:=by
 have e1:(s.heap.push PySem.W.emptyDict).get? s.heap.objs.size=some PySem.W.emptyDict:=QN s.heap rfl;have e2:((s.heap.push PySem.W.emptyDict).push (PySem.W.instObj C s.heap.objs.size)).get? (s.heap.objs.size+1)=some (PySem.W.instObj C s.heap.objs.size):=by
  have:=QN (s.heap.push PySem.W.emptyDict) (o:=PySem.W.instObj C s.heap.objs.size) rfl;rwa[Heap.size_push]at this
 have e3:(s.heap.push PySem.W.emptyDict).Ns s.heap.objs.size (fun _=>none):=⟨PySem.W.emptyDict,#[],_,e1,rfl,(fun e he=>absurd he (by simp)),fun _=>rfl⟩;have I1:=I.laid (a:=s.heap.objs.size) (o:=.own (s.heap.objs.size+1)) (h':=s.heap.push PySem.W.emptyDict) (t':=s.toks) (fun b u q=>Q3 _ q) (Q5 _) ⟨_,e1⟩;refine I1.laid (a:=s.heap.objs.size+1) (o:=.ins C s.heap.objs.size []) (t':=s.toks) (fun b u q=>Q3 _ q) (Nat.le_of_eq (Heap.size_push _ _)) ?_;have ne:s.heap.objs.size≠s.heap.objs.size+1:=QD (Nat.lt_succ_self _);refine⟨by rw[aK ne,aI],Qe _,ne,e2,fun _=>none,(Heap.Ns1.of_empty e3).at fun o q=>Q3 _ q,fun _=>True.intro,fun y hy=>absurd rfl hy⟩
theorem AB{prog:Program}{w:World}{env:Env}{e:Expr}{f:Str}{pos:Pos}{s:Shared}{Q:Value->Shared->Prop}(hb:attributeBase e f env (eval e env)=eval e env)
  (h:wpAny (model prog w) A (eval e env) (fun o s₁=>wpAny (model prog w) A (getAttr o f true) Q E s₁) E s):wpAny (model prog w) A (eval (.Attribute e f pos) env) Q E s:=
 Attribute_any_ h (by rw[arm_eval_Attribute,hb])
end
def Gj(K:Q1)(ta:TE)(f:Str):TE:=fun σ H Q=>ta σ H fun x H1=>∃a C dx fs v,x=.ref a/\H1 a=some (.ins C dx fs)/\Cls K C/\gR K C f/\fs.lookup f=some v/\Q v H1
def Gp(K:Q1)(ta tv:TE)(f:Str):TS:=fun D σ H=>tv σ H fun y H1=>ta σ H1 fun x H2=>∃a C dx fs,x=.ref a/\H2 a=some (.ins C dx fs)/\Cls K C/\gR K C f/\fs.length<1000/\
 D.nx σ (upd H2 a (.ins C dx (jZ f y fs)))
section
variable{X:Cx}{o e value:Expr}{f:Str}{pos pos':Pos}{ta tv:TE}
theorem Cj(he:PE X e ta)(hb:attributeBase e f X.env (eval e X.env)=eval e X.env):PE X (.Attribute e f pos) (Gj X.K ta f):=by
 intro pins s σ H Q I h;refine AB hb (thn (he pins s σ H _ I h) fun u s1 hz=>?_);obtain⟨x,H1,I1,rx,a,C,dx,fs,v,ex,ea,c,n,l,q⟩:=hz;subst ex;obtain rfl:u=Value.ref a:=rx;exact qW I1 ea c n l fun u' s2 I2 ru=>⟨v,H1,I2,ru,q⟩
theorem B4(ha:PE X o ta)(hv:PE X value tv)(hs:swapsWith value (some (.Attribute o f pos')) pos.line X.env=pure false):PS X (.Assign [.Attribute o f pos'] value pos) (Gp X.K ta tv f):=by
 intro pins s σ H D I h;refine plainObj_wpAny_Assign_Attribute (thn (hv pins s σ H _ I h) fun u s1 ⟨y,H1,I1,ry,q⟩=>thn (ha pins s1 σ H1 _ I1 q) fun ov s2 hz=>?_) hs;obtain⟨x,H2,I2,rx,a,C,dx,fs,ex,ea,c,n,l,q2⟩:=hz;subst ex;obtain rfl:ov=Value.ref a:=rx;exact qH I2 ea c n l ry fun s3 I3=>⟨σ,_,I3,q2⟩
end
structure eU(k:Nat)(A:Around):Prop where
 hd:A.handled=none
 dp:A.depth+3*k+5<recursionLimit
 un:A.units+16*k+200<cLine
 gd:A.guards=some []
def eU.mono{j k:Nat}{A:Around}(r:eU k A)(h:j<=k):eU j A:=⟨r.hd,by have:=r.dp;omega,by have:=r.un;omega,r.gd⟩
theorem eU.deeper{k:Nat}{A:Around}(r:eU (k+1) A)(env:Env):eU k (A.deeper env):=
 ⟨r.hd,by have:=r.dp;show A.depth+1+3*k+5<_;omega,by have:=r.un;show A.units+3+16*k+200<_;omega,r.gd⟩
theorem eU.in1{k:Nat}{A:Around}(r:eU (k+1) A):eU k A.in1:=
 ⟨r.hd,by have:=r.dp;show A.depth+3*k+5<_;omega,by have:=r.un;show A.units+1+16*k+200<_;omega,r.gd⟩
theorem qS{A:Around}{C:Addr}{us:List Value}{kw:List (Str×Value)}:(A.under (.builtin "type.__call__" ⟨.ref C::us,kw⟩)).depth=A.depth+1:=by
 first|rfl|simp[Around.under,Code.weight,Code.isCreation,Code.isGuard,Code.isCaller,Code.frames,Code.isFrame,guardIds]
theorem qR{A:Around}{C:Addr}{us:List Value}{kw:List (Str×Value)}:(A.under (.builtin "type.__call__" ⟨.ref C::us,kw⟩)).units=A.units+1:=by
 first|rfl|simp[Around.under,Code.cUnits,Code.frames,Code.isFrame]
theorem eU.make{k:Nat}{A:Around}(r:eU (k+1) A)(C:Addr)(us:List Value)(kw:List (Str×Value)):eU k (A.under (.builtin "type.__call__" ⟨.ref C::us,kw⟩)):=
 ⟨r.hd,by have:=r.dp;rw[qS];omega,by have:=r.un;rw[qR];omega,r.gd⟩
def eU.depth{k:Nat}{A:Around}(r:eU k A):A.depth<recursionLimit:=by have:=r.dp;omega
def eU.units{k:Nat}{A:Around}(r:eU k A):A.units+64<cLine:=by have:=r.un;omega
def DG:TA:=fun _ H Q=>Q [] H
def BH(ta:TE)(tr:TA):TA:=fun σ H Q=>ta σ H fun x H1=>tr σ H1 fun xs H2=>Q (x::xs) H2
section
variable{X:Cx}{e:Expr}{es:List Expr}{te:TE}{t:TA}{pos:Pos}
def Cn:PA X [] DG:=fun _ _ _ _ H Q I h=>Calls.spliced_nil ⟨[],H,I,.nil,h⟩
theorem zK(ha:PE X e te)(hr:PA X es t)(hs:starEach (e::es) X.env=(false,eval e X.env)::starEach es X.env:=by rfl):PA X (e::es) (BH te t):=by
 intro pos pins s σ H Q I h;rw[hs];show wpAny _ _ (spliced ((false,eval e X.env)::backTo pos (starEach es X.env))) _ _ s;refine Calls.spliced_cons (thn (ha pins s σ H _ I h) fun u s1 hz=>?_);obtain⟨x,H1,I1,r1,q1⟩:=hz;exact thn (hr pos pins s1 σ H1 _ I1 q1) fun us s2 ⟨xs,H2,I2,r2,q2⟩=>⟨x::xs,H2,I2,.cons r1 r2,q2⟩
def Gb(t:TA):TE:=fun σ H Q=>t σ H fun xs H1=>xs.length<=sizeLine/\∀p,H1 p=none->Q (.ref p) (upd H1 p (.tup xs))
def Gh(t:TA):TE:=fun σ H Q=>t σ H fun xs H1=>xs.length<=sizeLine/\∀p,H1 p=none->Q (.ref p) (upd H1 p (.lst xs))
theorem Cb{x1}(h:PA X es t):PE X (.Tuple es x1 pos) (Gb t):=by
 intro pins s σ H Q I hq;refine wpAny_Tuple_spliced (thn (h pos pins s σ H _ I hq) fun us s1 ⟨xs,H1,I1,r,z,q⟩=>⟨by rw[<-r.length];exact z,?_⟩);have hf:H1 s1.heap.objs.size=none:=I1.hok.fresh (Q5 _);refine⟨.ref s1.heap.objs.size,upd H1 s1.heap.objs.size (.tup xs),I1.laid (t':=s1.toks) (fun b u e=>Q3 _ e) (Q5 _) ?_,rfl,q _ hf⟩;exact⟨z,us,r,⟨_,QN _ rfl,rfl,_,rfl⟩⟩
theorem Cg(h:PA X es t):PE X (.List es pos) (Gh t):=by
 intro pins s σ H Q I hq;refine wpAny_List_spliced (thn (h pos pins s σ H _ I hq) fun us s1 ⟨xs,H1,I1,r,z,q⟩=>⟨by rw[<-r.length];exact z,?_⟩);have hf:H1 s1.heap.objs.size=none:=I1.hok.fresh (Q5 _);refine⟨.ref s1.heap.objs.size,upd H1 s1.heap.objs.size (.lst xs),I1.laid (t':=s1.toks) (fun b u e=>Q3 _ e) (Q5 _) ?_,rfl,q _ hf⟩;exact⟨z,us,0,r,QN _ rfl⟩
end
abbrev Sp:=List V->Hp->VK->XK->Prop
abbrev CXT:=List Env->Hp->Shared->XK->Value->Shared->Prop
structure oW(P:Program)(w:World)(K:Q1)(mg:Str->Option Value)(base:Heap)(A:Around)(outer:List Env)(s:Shared)(H:Hp):Prop where
 frames:A.frames=some outer
 mod:Mod K mg base
 bs:∀b o,base.get? b=some o->s.heap.get? b=some o/\H b=none
 bsz:base.objs.size<=s.heap.objs.size
 funs:s.heap.FunFrames base outer
 frf:∀b∈frs outer,H b=none
 hok:HOk P w H s.heap
 bare:AllBare s.gens
def CE(outer:List Env)(P:Program)(w:World)(H:Hp)(s:Shared)(Q:VK)(u:Value)(s':Shared):Prop:=
 ∃v H',s'.os=s.os/\AllBare s'.gens/\Un (frs outer) [] H H' s.heap s'.heap/\HOk P w H' s'.heap/\cu v u/\Q v H'
def CR(CX:CXT)(outer:List Env)(P:Program)(w:World)(H:Hp)(s:Shared)(Q:VK)(E:XK)(r:Result)(s':Shared):Prop:=
 match r with
 |.ok (.ret u)=>CE outer P w H s Q u s'
 |.ok _=>False
 |.error e=>CX outer H s E e s'
structure je(P:Program)(w:World)(K:Q1)(mg:Str->Option Value)(base:Heap)(CX:CXT)(k:Nat)(f:Addr)(fd:FuncData)(ps:List Str)(sp:Sp):Prop where
 len:∀vs H Q E,sp vs H Q E->vs.length=ps.length
 run:∀(A:Around) (outer:List Env) (s:Shared) (H:Hp) (args:Args) (us:List Value) (vs:List V) (Q:VK) (E:XK),eU k A->oW P w K mg base A outer s H->BindsTo s fd args (ps.zip us)->bK vs us->sp vs H Q E->
  codeAny (model P w) A (.call (.ref f) args) (CR CX outer P w H s Q E) s
theorem je.mono{P:Program}{w:World}{K:Q1}{mg:Str->Option Value}{base:Heap}{CX:CXT}{j k:Nat}{f:Addr}{fd:FuncData}{ps:List Str}{sp:Sp}(F:je P w K mg base CX j f fd ps sp)(h:j<=k) :
  je P w K mg base CX k f fd ps sp:=⟨F.len,fun A outer s H args us vs Q E hr=>F.run A outer s H args us vs Q E (hr.mono h)⟩
theorem oW.make{P:Program}{w:World}{K:Q1}{mg:Str->Option Value}{base:Heap}{A:Around}{outer:List Env}{s:Shared}{H:Hp}(e:oW P w K mg base A outer s H)(C:Addr)(us:List Value)(kw:List (Str×Value)) :
  oW P w K mg base (A.under (.builtin "type.__call__" ⟨.ref C::us,kw⟩)) outer s H:=⟨by first|exact e.frames|(simpa [Around.under,Code.envs,Code.isFrame,pushEnvs] using e.frames),e.mod,e.bs,e.bsz,e.funs,e.frf,e.hok,e.bare⟩
theorem oW.in1{P:Program}{w:World}{K:Q1}{mg:Str->Option Value}{base:Heap}{A:Around}{outer:List Env}{s:Shared}{H:Hp}(e:oW P w K mg base A outer s H) :
  oW P w K mg base A.in1 outer s H:=⟨e.frames,e.mod,e.bs,e.bsz,e.funs,e.frf,e.hok,e.bare⟩
section
variable{X:Cx}{pins:List (Addr×Obj)}{σ:St}{H:Hp}{s s':Shared}
theorem Inv.env0(I:Inv X pins σ H s):oW X.prog X.w X.K X.mg X.base X.A X.stack s H:=
 ⟨I.ok.frames,I.ok.mod,I.bs,QL I.ok.bsz I.sz,I.stack,I.stkFree,I.hok,I.bare⟩
theorem Inv.after{Q:VK}{u:Value}(I:Inv X pins σ H s)(h:CE X.stack X.prog X.w H s Q u s'):EP X pins σ Q u s':=by
 obtain⟨v,H',os,bare,un,hok,r,q⟩:=h;obtain⟨hh,g,d,t,os'⟩:=s';obtain rfl:os'=s.os:=os;exact⟨v,H',I.call (h':=hh) (g':=g) (d':=d) (t':=t) (ch:=[]) un hok bare (fun b z=>absurd z (by simp)),r,q⟩
end
def BI(sp:Sp)(dvs:List V)(E:XK)(t:TA):TE:=fun σ H Q=>t σ H fun vs H1=>sp (vs++dvs) H1 Q E
def si(C:Addr)(m:Str)(sp:Sp)(dvs:List V)(E:XK)(ta:TE)(t:TA):TE:=fun σ H Q=>ta σ H fun x H1=>∃a dx fs,x=.ref a/\H1 a=some (.ins C dx fs)/\fs.lookup m=none/\
 t σ H1 fun vs H2=>sp (x::(vs++dvs)) H2 Q E
def y4(C:Addr)(sp:Sp)(dvs:List V)(E:XK)(t:TA):TE:=fun σ H Q=>t σ H fun vs H1=>∀x dx,H1 x=none->H1 dx=none->dx≠x->
 sp (.ref x::(vs++dvs)) (upd (upd H1 dx (.own x)) x (.ins C dx [])) (fun v H2=>v=.non/\Q (.ref x) H2) E
def fP(K:Q1)(fd:FuncData)(ps:List Str)(ds:List Value):Prop:=
 ∀(s:Shared) (us:List Value),K.In s.heap->(us++ds).length=ps.length->BindsTo s fd ⟨us,[]⟩ (ps.zip (us++ds))
theorem fP.all{K:Q1}{fd:FuncData}{ps:List Str}(h:∀us:List Value,us.length=ps.length->bindArgs fd ⟨us,[]⟩=pure (ps.zip us)):fP K fd ps []:=fun s us _ hl=>by
 rw[List.append_nil]at hl ⊢;exact .of_eq (h us hl)
def gQ(CX:CXT)(X:Cx)(E:XK):Prop:=∀(pins:List (Addr×Obj)) (σ:St) (H:Hp) (s:Shared) (e:Value) (s':Shared),Inv X pins σ H s->CX X.stack H s E e s'->X.xe e s'
section
variable{X:Cx}{CX:CXT}{k:Nat}{f C:Addr}{fd:FuncData}{ps:List Str}{sp:Sp}{dvs:List V}{ds:List Value}{E:XK}{x m:Str}{p pos apos:Pos}{e o:Expr}{es:List Expr}{ta:TE}{t:TA}
theorem sC{pins:List (Addr×Obj)}{σ:St}{H:Hp}{s:Shared}{Q:VK}{us:List Value}{vs:List V}(F:je X.prog X.w X.K X.mg X.base CX k f fd ps sp)(hr:eU k X.A)(hb:fP X.K fd ps ds)(hd:bK dvs ds)(hx:gQ CX X E)
  (I:Inv X pins σ H s) (r:bK vs us) (h:sp (vs++dvs) H Q E):wpAny (model X.prog X.w) X.A (call (.ref f) us) (EP X pins σ Q) X.xe s:=by
 have r2:bK (vs++dvs) (us++ds):=r.append hd;have hl:(us++ds).length=ps.length:=by rw[<-r2.length];exact F.len _ _ _ _ h
 refine wpAny_call (codeAny_mono (F.run X.A X.stack s H ⟨us,[]⟩ (us++ds) (vs++dvs) Q E hr I.env0 (hb s us I.kIn hl) r2 h) fun r s' hq=>?_);cases r with
 |error e=>exact hx pins σ H s e s' I hq
 |ok fl=>
  cases fl with
  |ret u=>exact I.after hq
  |next=>exact False.elim hq
  |brk=>exact False.elim hq
  |cont=>exact False.elim hq
theorem zI(F:je X.prog X.w X.K X.mg X.base CX k f fd ps sp)(hr:eU k X.A)(hg:Gl X x)(hm:X.mg x=some (.ref f))(hk:PySem.W.keepIn X.K (.ref f)=true)(hb:fP X.K fd ps ds)(hd:bK dvs ds)(hx:gQ CX X E)
  (ha:PA X (e::es) t) (hdb:(x == ("__debug__":Str))=false:=by decide) (he:starEach (e::es) X.env=(false,eval e X.env)::starEach es X.env:=by rfl) (hpl:(backTo pos (starEach es X.env)).any (·.1)=false:=by rfl) :
  PE X (.Call (.Name x p) (e::es) [] pos) (BI sp dvs E t):=by
 intro pins s σ H Q I h;refine wpAny_Call_Name_kw (tH I hg hm ?_ hdb);refine PySem.W.callWith_K (h₀:=X.base) I.ok.mod.kin hk (thn (ha pos pins s σ H _ I h) fun us s1 ⟨vs,H1,I1,r,q⟩=>⟨I1.kIn,?_⟩) he hpl;exact sC F hr hb hd hx I1 r q
theorem zE{pl:Sem Bool}(he:PE X o ta)(c:Cls X.K C)(hm:AG X.K C m f)(F:je X.prog X.w X.K X.mg X.base CX k f fd ps sp)(hr:eU k X.A)(hb:fP X.K fd ps ds)(hd:bK dvs ds)(hx:gQ CX X E)(ha:PA X (e::es) t)
  (hst:starEach (e::es) X.env=(false,eval e X.env)::starEach es X.env:=by rfl) (hpl:(backTo pos (starEach es X.env)).any (·.1)=false:=by rfl)
  (ht:eval (.Call (.Attribute o m apos) (e::es) [] pos) X.env=(do
   let ov <-eval o X.env
   standAt apos.atName
   let (f,first) <-holding [ov] (getMethod ov m pl)
   callWith pos f first (backTo pos (starEach (e::es) X.env)) (backToKw pos (keywordEach [] X.env))):=by rfl) :
  PE X (.Call (.Attribute o m apos) (e::es) [] pos) (si C m sp dvs E ta t):=by
 intro pins s σ H Q I h;refine PySem.W.methodCall_KW (pl:=pl) (thn (he pins s σ H _ I h) fun u s1 hz=>?_) ht;obtain⟨x,H1,I1,rx,a,dx,fs,ex,ea,l,q⟩:=hz;subst ex;obtain rfl:u=Value.ref a:=rx;refine kM I1 ea c hm l ?_;refine PySem.W.callWith_K (first:=[.ref a]) (h₀:=X.base) I.ok.mod.kin hm.kp (thn (ha pos pins s1 σ H1 _ I1 q) fun us s2 ⟨vs,H2,I2,r,q2⟩=>⟨I2.kIn,?_⟩) hst hpl;exact sC (us:=.ref a::us) (vs:=.ref a::vs) F hr hb hd hx I2 (.cons rfl r) q2
theorem vN{pl:Sem Bool}(he:PE X o ta)(c:Cls X.K C)(hm:AG X.K C m f)(F:je X.prog X.w X.K X.mg X.base CX k f fd ps sp)(hr:eU k X.A)(hb:fP X.K fd ps ds)(hd:bK dvs ds)(hx:gQ CX X E)
  (ht:eval (.Call (.Attribute o m apos) [] [] pos) X.env=(do
   let ov <-eval o X.env
   standAt apos.atName
   let (f,first) <-holding [ov] (getMethod ov m pl)
   callWith pos f first (backTo pos (starEach [] X.env)) (backToKw pos (keywordEach [] X.env))):=by rfl) :
  PE X (.Call (.Attribute o m apos) [] [] pos) (si C m sp dvs E ta DG):=by
 intro pins s σ H Q I h;refine PySem.W.methodCall_KW (pl:=pl) (thn (he pins s σ H _ I h) fun u s1 hz=>?_) ht;obtain⟨x,H1,I1,rx,a,dx,fs,ex,ea,l,q⟩:=hz;subst ex;obtain rfl:u=Value.ref a:=rx;refine kM I1 ea c hm l ?_;exact PySem.W.callWith_K0 (first:=[.ref a]) I1.kIn hm.kp (sC (us:=[.ref a]) (vs:=[.ref a]) F hr hb hd hx I1 (.cons rfl .nil) q)
structure Mk(K:Q1)(C f:Addr):Prop where
 makes:PySem.W.makesIn K C=true
 init:PySem.W.findIn K (.ref C) "__init__"=some (some (.ref f))
 fn:PySem.W.isFn K (.ref f)=true
 kp:PySem.W.keepIn K (.ref C)=true
theorem vy{pins:List (Addr×Obj)}{σ:St}{H:Hp}{s:Shared}{Q:VK}{us:List Value}{vs:List V}(M:Mk X.K C f)(F:je X.prog X.w X.K X.mg X.base CX k f fd ps sp)(hr:eU (k+1) X.A)(hb:fP X.K fd ps ds)(hd:bK dvs ds)
  (hx:gQ CX X E) (I:Inv X pins σ H s) (r:bK vs us)
  (h:∀x dx,H x=none->H dx=none->dx≠x->sp (.ref x::(vs++dvs)) (upd (upd H dx (.own x)) x (.ins C dx [])) (fun v H2=>v=.non/\Q (.ref x) H2) E) :
  wpAny (model X.prog X.w) X.A (call (.ref C) us) (EP X pins σ Q) X.xe s:=by
 have hq:=h (s.heap.objs.size+1) s.heap.objs.size (I.hok.fresh (Nat.le_succ _)) (I.hok.fresh (Q5 _)) (QD (Nat.lt_succ_self _));have I2:=Inv.made (C:=C) I;have r2:bK (V.ref (s.heap.objs.size+1)::(vs++dvs)) (Value.ref (s.heap.objs.size+1)::(us++ds)):=.cons rfl (r.append hd);have hl:(Value.ref (s.heap.objs.size+1)::us++ds).length=ps.length:=by
  have e:=r2.length;rw[F.len _ _ _ _ hq]at e;exact e.symm
 refine wpAny_call (wj (f:=f) I.kIn M.makes M.init (beq_iff_eq.mp M.fn) (codeAny_mono (F.run _ X.stack _ _ ⟨Value.ref (s.heap.objs.size+1)::us,[]⟩ (Value.ref (s.heap.objs.size+1)::(us++ds)) _ _ E (hr.make C us [])
  (I2.env0.make C us []) (hb _ (Value.ref (s.heap.objs.size+1)::us) I2.kIn hl) r2 hq) fun r s' hq'=>?_))
 cases r with
 |error e=>exact hx pins σ _ _ e s' I2 hq'
 |ok fl=>
  cases fl with
  |ret u=>
   obtain⟨v,H',I3,rv,ev,q3⟩:=I2.after hq';subst ev;exact⟨rv,⟨V.ref (s.heap.objs.size+1),H',I3,rfl,q3⟩⟩
  |next=>exact False.elim hq'
  |brk=>exact False.elim hq'
  |cont=>exact False.elim hq'
theorem zF(M:Mk X.K C f)(F:je X.prog X.w X.K X.mg X.base CX k f fd ps sp)(hr:eU (k+1) X.A)(hg:Gl X x)(hm:X.mg x=some (.ref C))(hb:fP X.K fd ps ds)(hd:bK dvs ds)(hx:gQ CX X E)
  (ha:PA X (e::es) t) (hdb:(x == ("__debug__":Str))=false:=by decide) (he:starEach (e::es) X.env=(false,eval e X.env)::starEach es X.env:=by rfl) (hpl:(backTo pos (starEach es X.env)).any (·.1)=false:=by rfl) :
  PE X (.Call (.Name x p) (e::es) [] pos) (y4 C sp dvs E t):=by
 intro pins s σ H Q I h;refine wpAny_Call_Name_kw (tH I hg hm ?_ hdb);refine PySem.W.callWith_K (h₀:=X.base) I.ok.mod.kin M.kp (thn (ha pos pins s σ H _ I h) fun us s1 ⟨vs,H1,I1,r,q⟩=>⟨I1.kIn,?_⟩) he hpl;exact vy M F hr hb hd hx I1 r q
end
structure aQ(N P:List Str)(sc:Scope):Prop where
 kind:sc.kind=.function
 co:sc.isCoroutine=false
 gen:sc.isGenerator=false
 nd:N.Nodup
 pre:N.take P.length=P
 par:∀x∈P,sc.names.lookup x=some .local\/sc.names.lookup x=some .cell
 nofree:∀y∈sc.names,y.2≠.free
theorem nM{kindOf:Str->Option NameKind}{x:Str}:∀{binds:List (Str×Value)} {m:Str->Option Value},(∀v,(x,v)∉binds)->bindL kindOf binds m x=m x
 |[],_,_=>rfl
 |(n,v)::r,m,h=>by
  unfold bindL;rw[nM fun w hw=>h w (Q8 _ hw)];split
  ·have:x≠n:=by rintro rfl;exact h v QB
   simp[this]
  ·rfl
theorem nO{kindOf:Str->Option NameKind}{x:Str}:∀{binds:List (Str×Value)} {m:Str->Option Value},(∀v,(x,v)∉binds)->bindC kindOf binds m x=m x
 |[],_,_=>rfl
 |(n,v)::r,m,h=>by
  unfold bindC;rw[nO fun w hw=>h w (Q8 _ hw)];split
  ·rfl
  ·have:x≠n:=by rintro rfl;exact h v QB
   simp[this]
theorem nN{kindOf:Str->Option NameKind}{x:Str}{v:Value}:∀{P:List Str} {vs:List Value} {i:Nat} {m:Str->Option Value},P.Nodup->P[i]?=some x->vs[i]?=some v->kindOf x=some .local->
  bindL kindOf (P.zip vs) m x=some v
 |[],_,_,_,_,h,_,_=>by simp at h
 |_::_,[],_,_,_,_,h,_=>by simp at h
 |p::P,w::vs,0,m,nd,h1,h2,hk=>by
  simp at h1 h2;subst h1;subst h2;show bindL kindOf ((p,w)::P.zip vs) m p=_;unfold bindL;rw[nM fun v hv=>(ZZ.mp nd).1 (List.of_mem_zip hv).1,if_pos hk];simp
 |p::P,w::vs,i+1,m,nd,h1,h2,hk=>by
  show bindL kindOf ((p,w)::P.zip vs) m x=_;unfold bindL;exact nN (i:=i) (ZZ.mp nd).2 (by simpa using h1) (by simpa using h2) hk
theorem nQ{kindOf:Str->Option NameKind}{x:Str}{v:Value}:∀{P:List Str} {vs:List Value} {i:Nat} {m:Str->Option Value},P.Nodup->P[i]?=some x->vs[i]?=some v->kindOf x≠some .local->
  bindC kindOf (P.zip vs) m x=some v
 |[],_,_,_,_,h,_,_=>by simp at h
 |_::_,[],_,_,_,_,h,_=>by simp at h
 |p::P,w::vs,0,m,nd,h1,h2,hk=>by
  simp at h1 h2;subst h1;subst h2;show bindC kindOf ((p,w)::P.zip vs) m p=_;unfold bindC;rw[nO fun v hv=>(ZZ.mp nd).1 (List.of_mem_zip hv).1,if_neg hk];simp
 |p::P,w::vs,i+1,m,nd,h1,h2,hk=>by
  show bindC kindOf ((p,w)::P.zip vs) m x=_;unfold bindC;exact nQ (i:=i) (ZZ.mp nd).2 (by simpa using h1) (by simpa using h2) hk
def ic(N:List Str)(vs:List V):St:=vs.map some++QQ (N.length-vs.length) none
def nW(CX:CXT)(P:Program)(w:World)(K:Q1)(mg:Str->Option Value)(base:Heap)(N:List Str)(qual:Str)(scope:Scope)(f:Addr)(cd:Value)(A:Around)(outer:List Env)(s:Shared)(H:Hp)(E:XK):Cx where
 prog:=P
 w:=w
 K:=K
 mg:=mg
 base:=base
 A:=A.deeper (envOfC qual scope s.heap.objs.size f cd)
 N:=N
 s₀:=s
 H₀:=H
 env:=envOfC qual scope s.heap.objs.size f cd
 outer:=outer
 stack:=envOfC qual scope s.heap.objs.size f cd::outer
 ex:=[]
 calm:=true
 fn:=fun _=>true
 pn:=[]
 xe:=fun e s'=>wpAny (model P w) (A.deeper (envOfC qual scope s.heap.objs.size f cd)) (leaving (envOfC qual scope s.heap.objs.size f cd) e) (fun _ s''=>CX outer H s E e s'') (fun e' s''=>CX outer H s E e' s'') s'
theorem qq{sc:Scope}{n:Nat}{x:Str}(h:sc.names.lookup x=some .cell):∃c,(cellsFrom n sc.names []).lookup x=some c:=by
 have q:=PySem.W.cellsFrom_some sc.names n [] (.inl h);exact Qp.mp q
theorem tX{CX:CXT}{P:Program}{w:World}{K:Q1}{mg:Str->Option Value}{base:Heap}{N ps:List Str}{qual:Str}{scope:Scope}{f:Addr}{cd:Value}{A:Around}{outer:List Env}{s s1:Shared}{H:Hp}{E:XK}{us:List Value}{vs:List V}
  (S:aQ N ps scope) (hd:A.handled=none) (e0:oW P w K mg base A outer s H) (hl:vs.length=ps.length) (r:bK vs us)
  (x:InCallC s s.heap.objs.size (bindL (envOfC qual scope s.heap.objs.size f cd).kindOf (ps.zip us) fun _=>none) (cellsFrom (s.heap.objs.size+1) scope.names []) (bindC (envOfC qual scope s.heap.objs.size f cd).kindOf (ps.zip us) fun _=>none) s1) :
  Inv (nW CX P w K mg base N qual scope f cd A outer s H E) [] (ic N vs) H s1:=by
 have hpl:ps.length<=N.length:=by have:=congrArg List.length S.pre;rw[List.length_take]at this;omega
 obtain⟨h1,tk,rfl,hk⟩:=x.done;have noA:∀b:Addr,b∉(nW CX P w K mg base N qual scope f cd A outer s H E).ex:=fun b z=>absurd (show b∈([]:List Addr)from z) (by simp);refine⟨⟨e0.mod,S.kind,rfl,rfl,Q5 _,fun y z c h1 h2=>?_,fun y hy=>?_,fun y c _ h=>?_,fun _=>hd,Around.frames_deeper e0.frames,.inr ⟨rfl,rfl⟩,fun b z=>absurd z (noA b),e0.bs,e0.bsz,fun b _ _=>noA b,fun b z=>absurd z (noA b),e0.funs,e0.frf⟩,
  rfl,e0.bare,Un.kept hk,⟨_,x.toInCall.ns,fun i y v h1 h2 h3=>?_⟩,fun y c h=>⟨_,x.cell y c h⟩,e0.hok.fresh (Q5 _),fun y c h=>?_,fun p hp=>absurd (show p∈([]:List (Addr×Obj))from hp) (by simp),e0.hok.kept hk,?_⟩
 ·exact name_of_addr x.apart (PySem.mem_of_lookup h1) (PySem.mem_of_lookup h2)
 ·have hy:scope.names.lookup y=some .cell\/scope.names.lookup y=some .free:=hy;rcases hy with hy|hy
  ·exact qq hy
  ·exact absurd rfl (S.nofree _ (PySem.mem_of_lookup hy))
 ·exact Nat.le_of_lt (x.above y c (PySem.mem_of_lookup h))
 ·have hi:i<vs.length:=by
   unfold ic at h2;by_cases hi:i<vs.length
   ·exact hi
   ·rw[Qj (by simpa using hi)]at h2;rw[Ql]at h2;split at h2<;>cases h2
  have ha:vs[i]?=some v:=by
   unfold ic at h2;rw[Qk (by simpa using hi),Qq]at h2;cases e:vs[i]? with
   |none=>rw[e]at h2;cases h2
   |some a=>rw[e]at h2;cases h2;rfl
  obtain⟨u,hu,rv⟩:=r.get ha;have hp:ps[i]?=some y:=by
   rw[<-S.pre,List.getElem?_take_of_lt (by omega)];exact h1
  have ndP:ps.Nodup:=by rw[<-S.pre];exact S.nd.sublist (List.take_sublist _ _)
  refine⟨u,rv,?_⟩;rcases S.par y (List.mem_of_getElem? hp)with k|k
  ·exact .inl ⟨k,nN ndP hp hu k⟩
  ·obtain⟨c,e⟩:=qq (n:=s.heap.objs.size+1) k;refine .inr ⟨.inl k,c,e,?_⟩;have q:=x.cell y c e;rw[nQ ndP hp hu (by show scope.names.lookup y≠_;rw[k];decide)]at q;exact q
 ·exact e0.hok.fresh (Nat.le_of_lt (x.above y c (PySem.mem_of_lookup h)))
 ·unfold ic;show _=N.length;rw[QH,QZ,List.length_replicate];omega
theorem C4{CX:CXT}{P:Program}{w:World}{K:Q1}{mg:Str->Option Value}{base:Heap}{k:Nat}{f:Addr}{name qual:Str}{params:Arguments}{body:List Stmt}{scope:Scope}{dV kV doc pm cdv ct oc:Value}{an od:Option Addr}
  {osl:Array (Option Value)} {N ps:List Str} {sp:Sp} (lk:K.lookup f=some ⟨oc,od,.func (PySem.W.fnOf name qual params body scope dV kV doc pm an cdv ct),osl⟩) (hcd:PySem.W.codeIn K cdv qual=true) (S:aQ N ps scope)
  (len:∀vs H Q E,sp vs H Q E->vs.length=ps.length)
  (hbody:∀(A:Around) (outer:List Env) (s:Shared) (H:Hp) (vs:List V) (Q:VK) (E:XK),eU k (A.deeper (envOfC qual scope s.heap.objs.size f cdv))->sp vs H Q E->
   ∃t,PSs (nW CX P w K mg base N qual scope f cdv A outer s H E) body t/\t { nx:=fun _ H'=>Q .non H',rt:=Q } (ic N vs) H) :
  je P w K mg base CX (k+1) f (PySem.W.fnOf name qual params body scope dV kV doc pm an cdv ct) ps sp:=by
 refine⟨len,fun A outer s H args us vs Q E hr e0 hb r hsp=>?_⟩;have hl:=len _ _ _ _ hsp;have KX:K.In s.heap:=e0.mod.kin.keeps fun b o e=>(e0.bs b o e).1;have lim:s.heap.NoLimit:=e0.mod.nolimit.keeps fun b o e=>(e0.bs b o e).1;have hkind:∀y∈ps.zip us,scope.names.lookup y.1=some .local\/(scope.names.lookup y.1=some .cell/\((cellsFrom (s.heap.objs.size+1) scope.names []).lookup y.1).isSome=true):=fun⟨n,v⟩ hy=>by
  rcases S.par n (List.of_mem_zip hy).1 with q|q
  ·exact .inl q
  ·exact .inr ⟨q,PySem.W.cellsFrom_some _ _ _ (.inl q)⟩
 refine codeAny_call_function hr.depth (KX _ _ lk) rfl S.co S.gen rfl (PySem.W.codeRec_of KX hcd) (hb _ _ _ _ ?_);refine wpAny_newFunctionEnv_cells S.kind hkind fun env he s1 x=>?_;subst he;refine⟨lim.keeps x.toInCall.keep,codeAny_func ?_⟩;obtain⟨t,ht,hq⟩:=hbody A outer s H vs Q E (hr.deeper _) hsp;have I:Inv (nW CX P w K mg base N qual scope f cdv A outer s H E) [] (ic N vs) H s1:=tX S hr.hd e0 hl r x;refine Qh (ht [] s1 (ic N vs) H _ I hq) (fun fl s' hs=>?_) fun e s' hs=>hs;have fin:∀{σ':St} {H':Hp} {v:V} {u:Value},Inv (nW CX P w K mg base N qual scope f cdv A outer s H E) [] σ' H' s'->cu v u->Q v H'->CE outer P w H s Q u s':=
  fun{σ' H' v u} J rv q=>⟨v,H',J.os,J.bare,J.base,J.hok,rv,q⟩
 cases fl with
 |ret u=>
  obtain⟨v,σ',H',J,rv,q⟩:=hs;exact fin J rv q
 |next=>
  obtain⟨σ',H',J,q⟩:=hs;exact fin (v:=V.non) (u:=Value.none) J rfl q
 |brk=>
  obtain⟨_,_,_,q⟩:=hs;exact False.elim q
 |cont=>
  obtain⟨_,_,_,q⟩:=hs;exact False.elim q
section
variable{X:Cx}{x:Str}{p pos:Pos}{e:Expr}{es:List Expr}{t:TA}{id T:String}{r:List V->Hp->VK->Prop}
def tCB(r:List V->Hp->VK->Prop)(t:TA):TE:=fun σ H Q=>t σ H fun vs H1=>r vs H1 Q
theorem vR(hc:gv X (.builtin id) r)(hg:Gl X x)(hm:X.mg x=none)(hv:bootBuiltins x=some (.builtin id))(ha:PA X (e::es) t)(hn:x≠"__name__":=by decide)(hdb:(x == ("__debug__":Str))=false:=by decide)
  (he:starEach (e::es) X.env=(false,eval e X.env)::starEach es X.env:=by rfl) (hpl:(backTo pos (starEach es X.env)).any (·.1)=false:=by rfl):PE X (.Call (.Name x p) (e::es) [] pos) (tCB r t):=by
 intro pins s σ H Q I h;refine wpAny_Call_Name_kw (pW I hg hm hv ?_ hn hdb);exact PyProof.Rows.callWith_builtin1 (thn (ha pos pins s σ H _ I h) fun us s1 ⟨vs,H1,I1,r1,q1⟩=>hc pins s1 σ H1 vs us Q I1 r1 q1) he hpl
theorem sP(hc:gv X (.type T) r)(hg:Gl X x)(hm:X.mg x=none)(hv:bootBuiltins x=some (.type T))(ha:PA X (e::es) t)(hn:x≠"__name__":=by decide)(hdb:(x == ("__debug__":Str))=false:=by decide)
  (he:starEach (e::es) X.env=(false,eval e X.env)::starEach es X.env:=by rfl) (hpl:(backTo pos (starEach es X.env)).any (·.1)=false:=by rfl):PE X (.Call (.Name x p) (e::es) [] pos) (tCB r t):=by
 intro pins s σ H Q I h;refine wpAny_Call_Name_kw (pW I hg hm hv ?_ hn hdb);exact PyProof.Rows.callWith_type1 (thn (ha pos pins s σ H _ I h) fun us s1 ⟨vs,H1,I1,r1,q1⟩=>hc pins s1 σ H1 vs us Q I1 r1 q1) he hpl
end
end L2
namespace HT
open PySem PyProof.Rows
section
variable{prog:Program}{w:World}{A:Around}{E:Value->Shared->Prop}{s:Shared}
theorem cat_tup{t b:Addr}{vs ws:List Value}{Q:Value->Shared->Prop}(ht:IsTup s.heap t vs.toArray)(hb:IsTup s.heap b ws.toArray)(hv:vs≠[])
  (h1:ws=[]->Q (.ref t) s) (h2:ws≠[]->Q (.ref s.heap.objs.size) { s with heap:=s.heap.push { cls:=.type "tuple",data:=.seq (vs++ws).toArray } })
  (hsz:vs.length+ws.length<=sizeLine):wpAny (model prog w) A (binaryOp .Add (.ref t) (.ref b)) Q E s:=by
 obtain⟨⟨cls,dd,data,sl⟩,ho,hc,n,hd⟩:=id ht;obtain⟨⟨cls2,dd2,data2,sl2⟩,ho2,hc2,n2,hd2⟩:=id hb;simp only at hc hd hc2 hd2;subst hc hd hc2 hd2;have e:vs.toArray++ws.toArray=(vs++ws).toArray:=by simp
 by_cases hw:ws=[]
 ·exact concat_meets ⟨_,ho,rfl⟩ ⟨_,ho2,rfl⟩ noFill_tuple_add seq_tuple_add PySem.F.slot_tuple_add PySem.F.entry_tuple_add (PySem.F.args_tuple_add_2 _ _)
   (tuple_addW1 t b vs.toArray ws.toArray n n2 dd dd2 sl sl2 (by simpa using hv) (by simp[hw])) ⟨ho,ho2,h1 hw⟩
 ·refine concat_meets ⟨_,ho,rfl⟩ ⟨_,ho2,rfl⟩ noFill_tuple_add seq_tuple_add PySem.F.slot_tuple_add PySem.F.entry_tuple_add (PySem.F.args_tuple_add_2 _ _)
   (tuple_addW2 t b vs.toArray ws.toArray n n2 dd dd2 sl sl2 (by simpa using hv) (by simpa using hw) (by rw[QX,QX];exact hsz)) ⟨ho,ho2,?_⟩
  rw[e];exact h2 hw
def sIx(n d:Nat):Option Int->Nat
 |none=>d
 |some v=>if v<0 then(v+(n:Int)).toNat else min v.toNat n
def sIx_none(n d:Nat):sIx n d none=d:=rfl
theorem sIx_nat(n d k:Nat):sIx n d (some (k:Int))=min k n:=by
 show(if (k:Int)<0 then((k:Int)+(n:Int)).toNat else min (k:Int).toNat n)=min k n;rw[if_neg (by omega),Int.toNat_natCast]
theorem BL(n d:Nat)(hd:d<=n)(o:Option Int):sIx n d o<=n:=by
 cases o with
 |none=>exact hd
 |some v=>
  show(if v<0 then(v+(n:Int)).toNat else min v.toNat n)<=n;by_cases hv:v<0
  ·rw[if_pos hv];omega
  ·rw[if_neg hv];exact Nat.min_le_right _ _
theorem uw(v:Int)(n d:Nat):(if v<0 then max (v+(n:Int)) 0 else min v (n:Int))=((sIx n d (some v):Nat):Int):=by
 show(if v<0 then max (v+(n:Int)) 0 else min v (n:Int))=(((if v<0 then(v+(n:Int)).toNat else min v.toNat n):Nat):Int);by_cases hv:v<0
 ·simp only[if_pos hv];omega
 ·simp only[if_neg hv];omega
theorem rl(lo hi:Option Int)(n:Nat):Builtin.Slice.sliceAdjust lo hi 1 (n:Int)=(((sIx n 0 lo:Nat):Int),((sIx n n hi:Nat):Int)):=by
 have h1:¬((1:Int)<0):=by omega
 unfold Builtin.Slice.sliceAdjust;simp only[h1,if_false];refine Prod.ext ?_ ?_
 ·cases lo with
  |none=>rfl
  |some v=>exact uw v n 0
 ·cases hi with
  |none=>rfl
  |some v=>exact uw v n n
theorem qL(i j:Nat):Builtin.Slice.slicePlaces (i:Int) (j:Int) 1=j-i:=by
 unfold Builtin.Slice.slicePlaces;have h1:(1:Int)>0:=by omega
 simp only[h1,if_true,Int.ediv_one];split<;>omega
theorem kB{v:Value}{o:Option Int}{Q:Option Int->Shared->Prop}(p:IsPart v o)(h:Q o s):wpAny (model prog w) A (Builtin.Slice.slicePartIndex v) Q E s:=by
 cases p with
 |none=>exact slicePart_none h
 |int i t=>exact slicePart_int h
theorem fK{sl:Addr}{vl vu:Value}{lo hi:Option Int}{n:Nat}{Q:Int×Int×Nat->Shared->Prop}(hs:s.heap.IsSliceOf sl vl vu .none)(pl:IsPart vl lo)(pu:IsPart vu hi)
  (h:Q (((sIx n 0 lo:Nat):Int),1,sIx n n hi-sIx n 0 lo) s):wpAny (model prog w) A (Builtin.Slice.sliceApplied (.ref sl) (pure (n:Int))) Q E s:=by
 obtain⟨os,hos,hcs,hds⟩:=id hs;unfold Builtin.Slice.sliceApplied Builtin.Slice.sliceFields;refine Q2 (Q2 (wpAny_field hos hds (x:=vl) rfl (Q2 (wpAny_field hos hds (x:=vu) rfl (Q2 (wpAny_field hos hds (x:=.none) rfl (QY ?_)))))));refine Q2 (slicePart_none ?_);show wpAny _ _ (if ((1:Int) == 0)=true then _ else _) _ _ s;rw[if_neg (by decide)];refine Q2 (kB pl (Q2 (kB pu (Q2 (QY ?_)))));show wpAny _ _ (match Builtin.Slice.sliceAdjust lo hi 1 (n:Int)with|(lo,hi)=>pure (lo,(1:Int),Builtin.Slice.slicePlaces lo hi 1)) _ _ s;rw[rl lo hi n];show wpAny _ _ (pure (((sIx n 0 lo:Nat):Int),(1:Int),Builtin.Slice.slicePlaces ((sIx n 0 lo:Nat):Int) ((sIx n n hi:Nat):Int) 1)) _ _ s;rw[qL];exact QY h
theorem vK(xs:Array Value)(i k:Nat):((QF k).filterMap fun(m:Nat)=>xs[((i:Int)+(m:Int)*1).toNat]?).toArray=((xs.toList.drop i).take k).toArray:=by
 have e:(fun(m:Nat)=>xs[((i:Int)+(m:Int)*1).toNat]?)=fun m=>xs[i+m]?:=by
  funext m;have:((i:Int)+(m:Int)*1).toNat=i+m:=by omega
  rw[this]
 rw[e];have:=pick_run xs i k;rw[List.filterMap_map]at this;have e2:((fun x=>xs[x]?) ∘ fun x=>i+x)=fun m=>xs[i+m]?:=rfl;rw[e2]at this;rw[this]
theorem getItem_tuple_cut{t sl:Addr}{items:Array Value}{vl vu:Value}{lo hi:Option Int}{Q:Value->Shared->Prop}(ht:IsTup s.heap t items)(hs:s.heap.IsSliceOf sl vl vu .none)(pl:IsPart vl lo)(pu:IsPart vu hi)
  (hw:¬(sIx items.size 0 lo=0/\sIx items.size items.size hi=items.size))
  (h:Q (.ref s.heap.objs.size) { s with heap:=s.heap.push { cls:=.type "tuple",data:=.seq ((items.toList.drop (sIx items.size 0 lo)).take (sIx items.size items.size hi-sIx items.size 0 lo)).toArray } })
  (hsz:items.size<=sizeLine):wpAny (model prog w) A (getItem (.ref t) (.ref sl)) Q E s:=by
 have htake:sizeOk (.seq ((items.toList.drop (sIx items.size 0 lo)).take (sIx items.size items.size hi-sIx items.size 0 lo)).toArray):=by
  show((items.toList.drop (sIx items.size 0 lo)).take (sIx items.size items.size hi-sIx items.size 0 lo)).toArray.size<=sizeLine;rw[QX,List.length_take,List.length_drop,Qv];omega
 have hj:sIx items.size items.size hi<=items.size:=BL _ _ (Q5 _) hi;obtain⟨os,hos,hcs,hds⟩:=id hs;have hTs:s.TypeIs (.ref sl) "slice":=⟨os,hos,hcs⟩;unfold getItem;try with_reducible refine wpAny_holding ?_
 first|refine Q2 (QY ?_)|skip
 refine Q2 (wpAny_sequenceKey ht.typeIs (by decide) ?_);refine Q2 (wpAny_callSpecial?_slot (name:=Str.ofString "__getitem__") ht.typeIs PyProof.Rows.slot_tuple_getitem
  (wpAny_call_entry PyProof.Rows.slot_tuple_getitem ht.typeIs entry_tuple_getitem ?_ (args_tuple_getitem _ _)))
 show wpAny _ _ (Builtin.Tuple.tupleItemsOf (.ref t) >>= _) _ _ s;refine Q2 (tupleItemsOf_ ht ?_);refine Q2 (wpAny_typeOf hTs ?_);rw[if_pos (by decide)];refine Q2 (fK hs pl pu ?_);have hno:¬((((sIx items.size 0 lo:Nat):Int) == 0&&(1:Int) == 1&&(sIx items.size items.size hi-sIx items.size 0 lo) == items.size)=true):=by
  intro q;rw[Bool.and_eq_true,Bool.and_eq_true]at q;have q1:((sIx items.size 0 lo:Nat):Int)=0:=eq_of_beq q.1.1;have q2:sIx items.size items.size hi-sIx items.size 0 lo=items.size:=eq_of_beq q.2;exact hw ⟨by omega,by omega⟩
 show wpAny _ _ (if (((sIx items.size 0 lo:Nat):Int) == 0&&(1:Int) == 1&&(sIx items.size items.size hi-sIx items.size 0 lo) == items.size)=true then _ else _) _ _ s;rw[if_neg hno,vK];first
  |exact Q2 (m:=Builtin.Tuple.tupleExact _) (wpAny_newObj_type (QY ⟨_,rfl,QY h⟩) htake)
  |exact Q2 (m:=Builtin.Tuple.tupleExact _) (wpAny_newObj_type (Q2 (QY (QY ⟨_,rfl,QY h⟩))) htake)
  |exact Q2 (Q2 (m:=Builtin.Tuple.tupleExact _) (wpAny_newObj_type (QY (QY ⟨_,rfl,QY h⟩)) htake))
  |exact Q2 (Q2 (m:=Builtin.Tuple.tupleExact _) (wpAny_newObj_type (QY ⟨_,rfl,QY h⟩) htake))
end
end HT
namespace L2
open PySem PySem.Spec PyProof.Rows
abbrev TO:=St->Hp->(Option Int->Hp->Prop)->Prop
def PO(X:Cx)(e:Option Expr)(t:TO):Prop:=
 ∀(pins:List (Addr×Obj)) (s:Shared) (σ:St) (H:Hp) (Q:Option Int->Hp->Prop),Inv X pins σ H s->t σ H Q->
  wpAny (model X.prog X.w) X.A (evalPart e X.env) (fun u s'=>∃o H',Inv X pins σ H' s'/\IsPart u o/\Q o H') X.xe s
def sh:TO:=fun _ H Q=>Q none H
def BD(t:TE):TO:=fun σ H Q=>t σ H fun x H1=>∃i,x=.int i/\Q (some i) H1
section
variable{X:Cx}{e:Expr}{te:TE}{lo hi:Option Expr}{tl th:TO}{pos p2:Pos}
theorem zA:PO X none sh:=by
 intro pins s σ H Q I h;rw[evalPart_none];exact QY ⟨none,H,I,.none,h⟩
theorem zy(h:PE X e te):PO X (some e) (BD te):=by
 intro pins s σ H Q I hw;rw[evalPart_some];refine thn (h pins s σ H _ I hw) fun u s1 hz=>?_;obtain⟨x,H1,I1,r1,q1⟩:=hz;obtain⟨i,rfl,q⟩:=q1;obtain⟨t,rfl⟩:=r1;exact⟨some i,H1,I1,.int i t,q⟩
def SlR(X:Cx)(r:V->Option Int->Option Int->Hp->VK->Prop):Prop:=
 ∀(pins:List (Addr×Obj)) (s:Shared) (σ:St) (H:Hp) (x:V) (v vl vu:Value) (lo hi:Option Int) (sl:Addr) (Q:VK),Inv X pins σ H s->cu x v->s.heap.IsSliceOf sl vl vu .none->IsPart vl lo->IsPart vu hi->r x lo hi H Q->
  ∃T id,typeLookup (.type T) "__getitem__"=pure (some (.builtin id))/\s.TypeIs v T/\wpAny (model X.prog X.w) X.A (getItem v (.ref sl)) (EP X pins σ Q) X.xe s
theorem SlR.or{r r':V->Option Int->Option Int->Hp->VK->Prop}(h:SlR X r)(h':SlR X r'):SlR X (fun x lo hi H Q=>r x lo hi H Q\/r' x lo hi H Q):=by
 intro pins s σ H x v vl vu lo hi sl Q I rx hs pl pu q;rcases q with q|q
 ·exact h pins s σ H x v vl vu lo hi sl Q I rx hs pl pu q
 ·exact h' pins s σ H x v vl vu lo hi sl Q I rx hs pl pu q
def tSl(r:V->Option Int->Option Int->Hp->VK->Prop)(te:TE)(tl th:TO):TE:=fun σ H Q=>te σ H fun x H1=>tl σ H1 fun l H2=>th σ H2 fun u H3=>r x l u H3 Q
theorem vM{r:V->Option Int->Option Int->Hp->VK->Prop}(hr:SlR X r)(he:PE X e te)(hl:PO X lo tl)(hu:PO X hi th):PE X (.Subscript e (.Slice lo hi none p2) pos) (tSl r te tl th):=by
 intro pins s σ H Q I h;refine Subscript_ (thn (he pins s σ H _ I h) fun v s1 hz=>?_);obtain⟨x,H1,I1,r1,q1⟩:=hz;refine wpAny_Slice (thn (hl pins s1 σ H1 _ I1 q1) fun vl s2 ⟨l,H2,I2,pl,q2⟩=>thn (hu pins s2 σ H2 _ I2 q2) fun vu s3 hz=>?_);obtain⟨u,H3,I3,pu,q3⟩:=hz;rw[evalPart_none];refine QY ?_;have I4:Inv X pins σ H3 { s3 with heap:=s3.heap.push { cls:=.type "slice",data:=.fields #[vl,vu,.none] } }:=I3.kept (t':=s3.toks) fun b ob q=>Q3 _ q;obtain⟨T,id,hT,ht,hg⟩:=hr pins { s3 with heap:=s3.heap.push { cls:=.type "slice",data:=.fields #[vl,vu,.none] } } σ H3 x v vl vu l u s3.heap.objs.size Q I4 r1 (Heap.IsSliceOf.new ..) pl pu q3;show wpAny (model X.prog X.w) X.A (subscriptTail e (.Slice lo hi none p2) v (.ref s3.heap.objs.size)) (EP X pins σ Q) X.xe { s3 with heap:=s3.heap.push { cls:=.type "slice",data:=.fields #[vl,vu,.none] } };exact tail_any (ops:=[.ref s3.heap.objs.size,v]) ht hT hg (by with_unfolding_all rfl)
def yb(xs:List V)(lo hi:Option Int):List V:=(xs.drop (HT.sIx xs.length 0 lo)).take (HT.sIx xs.length xs.length hi-HT.sIx xs.length 0 lo)
theorem jU(xs:List V)(lo hi:Option Int):(yb xs lo hi).length<=xs.length:=by
 unfold yb;rw[List.length_take,List.length_drop];omega
def G9(K:Q1):V->Option Int->Option Int->Hp->VK->Prop:=fun x lo hi H Q=>∃a xs,x=.ref a/\SqT K H a xs/\
 ¬(HT.sIx xs.length 0 lo=0/\HT.sIx xs.length xs.length hi=xs.length)/\∀p,H p=none->Q (.ref p) (upd H p (.tup (yb xs lo hi)))
theorem BK:SlR X (G9 X.K):=by
 intro pins s σ H x v vl vu lo hi sl Q I rx hs pl pu h;obtain⟨a,xs,rfl,hx,hw,q⟩:=h;cases rx;obtain⟨its,r,ht,hz⟩:=I.tuple hx;have hlen:its.toArray.size=xs.length:=by rw[QX];exact r.length.symm
 refine⟨"tuple",_,PyProof.Rows.slot_tuple_getitem.lookup,ht.typeIs,?_⟩;refine HT.getItem_tuple_cut ht hs pl pu (by rw[hlen];exact hw) ?_ (by rw[hlen];exact hz);rw[hlen];refine⟨.ref s.heap.objs.size,_,I.laid (t':=s.toks) (o:=.tup (yb xs lo hi)) (fun b ob q=>Q3 _ q) (Q5 _) ?_,rfl,q _ (I.hok.fresh (Q5 _))⟩;exact⟨QL (jU xs lo hi) hz,_,(r.drop (HT.sIx xs.length 0 lo)).take (HT.sIx xs.length xs.length hi-HT.sIx xs.length 0 lo),IsTup.new _ _⟩
def E9(K:Q1):R2:=fun x y H Q=>∃a b xs ys,x=.ref a/\y=.ref b/\SqT K H a xs/\SqT K H b ys/\xs≠[]/\xs.length+ys.length<=sizeLine/\
 (ys=[]->Q (.ref a) H)/\(ys≠[]->∀p,H p=none->Q (.ref p) (upd H p (.tup (xs++ys))))
theorem bK.nil_iff{xs:List V}{us:List Value}(r:bK xs us):us=[]↔xs=[]:=by
 cases r with
 |nil=>simp
 |cons _ _=>simp
theorem zT:OpR X (binaryOp .Add) (E9 X.K):=by
 intro pins s σ H x y v u Q I rx ry h;obtain⟨a,b,xs,ys,rfl,rfl,ha,hb,hx,hz,q1,q2⟩:=h;cases rx;cases ry;obtain⟨its,r1,p1,_⟩:=I.tuple ha;obtain⟨its2,r2,p2,_⟩:=I.tuple hb;refine HT.cat_tup p1 p2 (fun z=>hx (r1.nil_iff.mp z)) (fun z=>⟨.ref a,H,I,rfl,q1 (r2.nil_iff.mp z)⟩) (fun z=>?_) (by rw[<-r1.length,<-r2.length];exact hz);refine⟨.ref s.heap.objs.size,_,I.laid (t':=s.toks) (o:=.tup (xs++ys)) (fun b ob q=>Q3 _ q) (Q5 _) ?_,rfl,q2 (fun w=>z (r2.nil_iff.mpr w)) _ (I.hok.fresh (Q5 _))⟩;exact⟨by rw[QH];exact hz,_,r1.append r2,IsTup.new _ _⟩
end
def ixN(n:Nat)(i:Int):Option Nat:=if 0<=i then(if i<n then some i.toNat else none)else if -(n:Int)<=i then some (i+n).toNat else none
def atI{α:Type}(xs:List α)(i:Int):Option α:=(ixN xs.length i).bind fun j=>xs[j]?
theorem tV{n:Nat}{i:Int}{j:Nat}(h:ixN n i=some j):seqIndex? i n=some j/\j<n/\-(n:Int)<=i/\i<n:=by
 unfold ixN at h;by_cases h0:0<=i
 ·rw[if_pos h0]at h;by_cases h1:i<n
  ·rw[if_pos h1]at h;have e:i.toNat=j:=Option.some.inj h;exact⟨by rw[seqIndex_of h0 h1,e],by omega,by omega,h1⟩
  ·rw[if_neg h1]at h;cases h
 ·rw[if_neg h0]at h;by_cases h1:-(n:Int)<=i
  ·rw[if_pos h1]at h;have e:(i+n).toNat=j:=Option.some.inj h;exact⟨by rw[seqIndex_neg (by omega) h1,e],by omega,h1,by omega⟩
  ·rw[if_neg h1]at h;cases h
theorem uF{α:Type}{xs:List α}{i:Int}{v:α}(h:atI xs i=some v):∃j,seqIndex? i xs.length=some j/\xs[j]?=some v/\j<xs.length/\-(xs.length:Int)<=i/\i<xs.length:=by
 unfold atI at h;cases e:ixN xs.length i with
 |none=>rw[e]at h;cases h
 |some j=>
  rw[e]at h;obtain⟨h1,h2,h3,h4⟩:=tV e;exact⟨j,h1,h,h2,h3,h4⟩
theorem iW{α:Type}{xs:List α}{j:Nat}{v:α}(h:xs[j]?=some v):atI xs (j:Int)=some v:=by
 have hj:j<xs.length:=(Q4.mp h).1;have e:ixN xs.length (j:Int)=some j:=by
  unfold ixN;rw[if_pos (by omega),if_pos (by omega)];simp
 unfold atI;rw[e];exact h
def oS(b:Expr):Prop:=∀o i,subscripted b false o i=operate [o,i] (getItem o i)
def IxR(X:Cx)(r:R2):Prop:=
 ∀(value slice:Expr) (pins:List (Addr×Obj)) (s:Shared) (σ:St) (H:Hp) (x y:V) (v u:Value) (Q:VK),Inv X pins σ H s->cu x v->cu y u->r x y H Q->
  subscripted slice false v u=operate [v,u] (getItem v u)->wpAny (model X.prog X.w) X.A (subscriptTail value slice v u) (EP X pins σ Q) X.xe s
def MtR(X:Cx)(id:String)(r:V->List V->Hp->VK->Prop):Prop:=
 ∀(pins:List (Addr×Obj)) (s:Shared) (σ:St) (H:Hp) (x:V) (xs:List V) (v:Value) (us:List Value) (Q:VK),Inv X pins σ H s->cu x v->bK xs us->r x xs H Q->
  wpAny (model X.prog X.w) X.A (call (.builtin id) (v::us)) (EP X pins σ Q) X.xe s
section
variable{X:Cx}{a b:Expr}{ta tb:TE}{pos:Pos}
theorem IxR.or{r r':R2}(h:IxR X r)(h':IxR X r'):IxR X (fun x y H Q=>r x y H Q\/r' x y H Q):=by
 intro value slice pins s σ H x y v u Q I rx ry q hs;rcases q with q|q
 ·exact h value slice pins s σ H x y v u Q I rx ry q hs
 ·exact h' value slice pins s σ H x y v u Q I rx ry q hs
theorem Fl{r:R2}(hr:IxR X r)(ha:PE X a ta)(hb:PE X b tb)(hs:oS b):PE X (.Subscript a b pos) (tOp r ta tb):=by
 intro pins s σ H Q I h;exact Subscript_ (F0 ha hb I h fun v u s2 x y H2 I2 rx ry q=>hr a b pins s2 σ H2 x y v u Q I2 rx ry q (hs _ _))
def Hc(K:Q1):R2:=fun x y H Q=>∃p xs i v,x=.ref p/\y=.int i/\SqL K H p xs/\atI xs i=some v/\Q v H
def Hb(K:Q1):R2:=fun x y H Q=>∃p xs i v,x=.ref p/\y=.int i/\SqT K H p xs/\atI xs i=some v/\Q v H
theorem Ai:IxR X (Hc X.K):=by
 intro value slice pins s σ H x y v u Q I rx ry h hs;obtain⟨p,xs,i,z,rfl,rfl,hq,he,q⟩:=h;cases rx;obtain⟨t,rfl⟩:=ry;obtain⟨its,r,pl,hz⟩:=I.list hq;obtain⟨j,h1,h2,h3,h4,h5⟩:=uF he;obtain⟨w,ew,rw'⟩:=r.get h2;have hl:=r.length;have hn:=pT;have fin:EP X pins σ Q w s:=⟨z,H,I,rw',q⟩;by_cases h0:0<=i
 ·have hj:i.toNat=j:=by
   rw[seqIndex_of h0 h5]at h1;exact Option.some.inj h1
  exact item_listR pl.isList h0 (by omega) (by rw[hj];simpa using ew) fin hs
 ·have hj:(i+(its.toArray.size:Int)).toNat=j:=by
   rw[seqIndex_neg (by omega) h4]at h1;rw[QX,<-hl];exact Option.some.inj h1
  exact subscriptTail_builtinR (x:=w) pl.isList.typeIs slot_list_getitem.lookup
   (wpAny_getItem_list_neg (Q:=fun r s'=>r=w/\EP X pins σ Q r s') pl.isList (by omega) (by rw[QX]<;>omega) (by omega) (by rw[hj];simpa using ew) ⟨rfl,fin⟩) hs
theorem CW:IxR X (Hb X.K):=by
 intro value slice pins s σ H x y v u Q I rx ry h hs;obtain⟨p,xs,i,z,rfl,rfl,hq,he,q⟩:=h;cases rx;obtain⟨t,rfl⟩:=ry;obtain⟨its,r,pl,hz⟩:=I.tuple hq;obtain⟨j,h1,h2,h3,h4,h5⟩:=uF he;obtain⟨w,ew,rw'⟩:=r.get h2;have hl:=r.length;have hn:=pT;have fin:EP X pins σ Q w s:=⟨z,H,I,rw',q⟩;exact subscriptTail_builtinR (x:=w) pl.typeIs slot_tuple_getitem.lookup
  (getItem_tuple (j:=j) (Q:=fun r s'=>r=w/\EP X pins σ Q r s') pl (by omega) (by omega) (by rw[QX,<-hl];exact h1) (by simpa using ew) ⟨rfl,fin⟩) hs
theorem qQ(its:List Value)(n j:Nat)(u:Value):Obj.mapSeq (·.setIfInBounds j u) { cls:=.type "list",data:=.seq its.toArray n }={ cls:=.type "list",data:=.seq (its.set j u).toArray n }:=by
 simp[Obj.mapSeq]
theorem Inv.lst{pins:List (Addr×Obj)}{σ:St}{H:Hp}{s:Shared}{p:Addr}{xs:List V}(I:Inv X pins σ H s)(h:H p=some (.lst xs)) :
  ∃(its:List Value) (n:Nat),bK xs its/\s.heap.get? p=some { cls:=.type "list",data:=.seq its.toArray n }/\xs.length<=sizeLine:=by
 obtain⟨z,its,n,r,e⟩:=I.hok p _ h;exact⟨its,n,r,e,z⟩
theorem Inv.lstUpd{pins:List (Addr×Obj)}{σ:St}{H:Hp}{s:Shared}{p:Addr}{xs ys:List V}{its its':List Value}{n n':Nat}{f:Obj->Obj}(I:Inv X pins σ H s)(h:H p=some (.lst xs))
  (ho:s.heap.get? p=some { cls:=.type "list",data:=.seq its.toArray n }) (hf:f { cls:=.type "list",data:=.seq its.toArray n }={ cls:=.type "list",data:=.seq its'.toArray n' }) (r:bK ys its') (hz:ys.length<=sizeLine) (t:Nat) :
  Inv X pins σ (upd H p (.lst ys)) { s with heap:=s.heap.update p f,toks:=t }:=by
 have e:(s.heap.update p f).get? p=some { cls:=.type "list",data:=.seq its'.toArray n' }:=by
  rw[Heap.get?_update_self f ho (by rw[hf]<;>rfl),hf]
 refine I.write (x:=p) (e:=p) (by rw[h];trivial) (.inl rfl) (fun b u hb q=>(Heap.get?_update_other _ _ (Ne.symm hb)).trans q) ⟨_,e⟩ ?_;exact⟨hz,its',n',r,e⟩
def E6:V->V->V->Hp->(Hp->Prop)->Prop:=fun o i v H Q=>∃p xs k j,o=.ref p/\i=.int k/\H p=some (.lst xs)/\ixN xs.length k=some j/\Q (upd H p (.lst (xs.set j v)))
theorem vx:F9 X E6:=by
 intro pins s σ H o i v ov iv u Q I ro ri rv h;obtain⟨p,xs,k,j,rfl,rfl,hp,hj,q⟩:=h;cases ro;obtain⟨t,rfl⟩:=ri;obtain⟨its,n,r,ho,hz⟩:=I.lst hp;obtain⟨h1,h2,h3,h4⟩:=tV hj;have hl:=r.length;have hn:=pT;have I':Inv X pins σ (upd H p (.lst (xs.set j v))) { s with heap:=s.heap.update p (Obj.mapSeq (·.setIfInBounds j u)) }:=
  I.lstUpd hp ho (qQ its n j u) (r.set rv j) (by rw[Qm];exact hz) s.toks
 by_cases h0:0<=k
 ·have hk:k.toNat=j:=by
   rw[seqIndex_of h0 h4]at h1;exact Option.some.inj h1
  exact PySem.W.ki_setAt ho h0 (by omega) (by rw[QX,<-hl];exact h4) (by rw[hk];exact⟨_,I',q⟩)
 ·have hk:(k+(its.toArray.size:Int)).toNat=j:=by
   rw[seqIndex_neg (by omega) h3]at h1;rw[QX,<-hl];exact Option.some.inj h1
  exact PySem.W.ki_setBack ho (by omega) (by rw[QX,<-hl];exact h3) (by omega) (by rw[hk];exact⟨_,I',q⟩)
theorem mB(lo hi:Option Int)(n:Nat):(sliceBounds lo hi none n).1=((HT.sIx n 0 lo:Nat):Int)/\(sliceBounds lo hi none n).2.1=((HT.sIx n n hi:Nat):Int)/\(sliceBounds lo hi none n).2.2=1:=by
 refine⟨?_,?_,rfl⟩
 ·cases lo with
  |none=>simp[sliceBounds,HT.sIx]
  |some i=>
   simp only[sliceBounds,HT.sIx,Option.getD_none,show(1:Int)>0 by decide,if_true];by_cases h:i<0
   ·simp only[h,if_true]<;>omega
   ·simp only[h,if_false]<;>omega
 ·cases hi with
  |none=>simp[sliceBounds,HT.sIx]
  |some i=>
   simp only[sliceBounds,HT.sIx,Option.getD_none,show(1:Int)>0 by decide,if_true];by_cases h:i<0
   ·simp only[h,if_true]<;>omega
   ·simp only[h,if_false]<;>omega
theorem k6(its:List Value)(lo hi:Option Int):slicePick its.toArray lo hi none=((its.drop (HT.sIx its.length 0 lo)).take (HT.sIx its.length its.length hi-HT.sIx its.length 0 lo)).toArray:=by
 obtain⟨h1,h2,h3⟩:=mB lo hi its.toArray.size;unfold slicePick;rw[h1,h2,h3];simp only[sliceRange_one,pick_run,QX]<;>rfl
def Ha(K:Q1):V->Option Int->Option Int->Hp->VK->Prop:=fun x lo hi H Q=>∃a xs,x=.ref a/\SqL K H a xs/\∀p,H p=none->Q (.ref p) (upd H p (.lst (yb xs lo hi)))
theorem za:SlR X (Ha X.K):=by
 intro pins s σ H x v vl vu lo hi sl Q I rx hs pl pu h;obtain⟨a,xs,rfl,hx,q⟩:=h;cases rx;obtain⟨its,r,ht,hz⟩:=I.list hx;have hlen:=r.length;refine⟨"list",_,slot_list_getitem.lookup,ht.isList.typeIs,?_⟩;refine wpAny_getItem_list_slice ht.isList hs pl pu .none (by simp) ?_ (by rw[QX]<;>omega);rw[k6,<-hlen];refine⟨.ref s.heap.objs.size,_,I.laid (t':=s.toks) (o:=.lst (yb xs lo hi)) (fun b ob q=>Q3 _ q) (Q5 _) ?_,rfl,q _ (I.hok.fresh (Q5 _))⟩;exact⟨QL (jU xs lo hi) hz,_,0,(r.drop (HT.sIx xs.length 0 lo)).take (HT.sIx xs.length xs.length hi-HT.sIx xs.length 0 lo),QN _ rfl⟩
def ke:V->Bool
 |.non=>true
 |.bl _=>true
 |.int _=>true
 |.str _=>true
 |_=>false
def eqV:V->V->Bool
 |.non,.non=>true
 |.bl a,.bl b=>a == b
 |.bl a,.int b=>(if a then 1 else 0) == b
 |.int a,.bl b=>a == (if b then 1 else 0)
 |.int a,.int b=>a == b
 |.str a,.str b=>a == b
 |_,_=>false
theorem C8{A:Around}{s:Shared}{y x:V}{u v:Value}(ry:cu y u)(rx:cu x v)(fy:ke y=true)(fx:ke x=true):SeqAt.EqAt A s u v (eqV y x):=by
 cases y with
 |non=>
  cases ry;cases x with
  |non=>cases rx;exact SeqAt.EqAt.same _
  |bl b=>cases rx;exact SeqAt.EqAt.none_bool b
  |int b=>obtain⟨t,rfl⟩:=rx;exact SeqAt.EqAt.none_int b t
  |str b=>obtain⟨t,rfl⟩:=rx;exact SeqAt.EqAt.none_str b t
  |_=>exact absurd (show false=true from fx) Q7
 |bl a=>
  cases ry;cases x with
  |non=>cases rx;exact SeqAt.EqAt.bool_none a
  |bl b=>cases rx;exact SeqAt.EqAt.bool_bool a b
  |int b=>obtain⟨t,rfl⟩:=rx;exact SeqAt.EqAt.bool_int a b t
  |str b=>obtain⟨t,rfl⟩:=rx;exact SeqAt.EqAt.bool_str a b t
  |_=>exact absurd (show false=true from fx) Q7
 |int a=>
  obtain⟨t',rfl⟩:=ry;cases x with
  |non=>cases rx;exact SeqAt.EqAt.int_none a t'
  |bl b=>cases rx;exact SeqAt.EqAt.int_bool a t' b
  |int b=>obtain⟨t,rfl⟩:=rx;exact SeqAt.EqAt.int_int a t' b t
  |str b=>obtain⟨t,rfl⟩:=rx;exact SeqAt.EqAt.int_str a t' b t
  |_=>exact absurd (show false=true from fx) Q7
 |str a=>
  obtain⟨t',rfl⟩:=ry;cases x with
  |non=>cases rx;exact SeqAt.EqAt.str_none a t'
  |bl b=>cases rx;exact SeqAt.EqAt.str_bool a t' b
  |int b=>obtain⟨t,rfl⟩:=rx;exact SeqAt.EqAt.str_int a t' b t
  |str b=>obtain⟨t,rfl⟩:=rx;exact SeqAt.EqAt.str_str a t' b t
  |_=>exact absurd (show false=true from fx) Q7
 |_=>exact absurd (show false=true from fy) Q7
def eqU(x:V)(u:Value):Bool:=match u with
 |.none=>eqV .non x
 |.bool b=>eqV (.bl b) x
 |.int i _=>eqV (.int i) x
 |.str z _=>eqV (.str z) x
 |_=>false
theorem xZ{x y:V}{u:Value}(r:cu y u)(f:ke y=true):eqU x u=eqV y x:=by
 cases y with
 |non=>cases r;rfl
 |bl b=>cases r;rfl
 |int i=>obtain⟨t,rfl⟩:=r;rfl
 |str z=>obtain⟨t,rfl⟩:=r;rfl
 |_=>exact absurd (show false=true from f) Q7
theorem jX{x:V}:∀{xs:List V} {us:List Value},bK xs us->xs.all ke=true->us.any (eqU x)=xs.any fun y=>eqV y x
 |_,_,.nil,_=>rfl
 |y::xs,u::us,.cons r t,f=>by
  rw[List.all_cons,Bool.and_eq_true]at f;rw[Z0,Z0,xZ r f.1,jX t f.2]
theorem iD{A:Around}{s:Shared}{x:V}{v:Value}(rx:cu x v)(fx:ke x=true):∀{xs:List V} {us:List Value},bK xs us->xs.all ke=true->∀u∈us,SeqAt.EqAt A s u v (eqU x u)
 |_,_,.nil,_=>fun u hu=>by cases hu
 |y::xs,u::us,.cons r t,f=>fun u' hu=>by
  rw[List.all_cons,Bool.and_eq_true]at f;rcases QC.mp hu with rfl|hu
  ·rw[xZ r f.1];exact C8 r rx f.1 fx
  ·exact iD rx fx t f.2 u' hu
def inV(x:V)(xs:List V):Bool:=xs.any fun y=>eqV y x
def rIn(K:Q1)(neg:Bool):R2:=fun x y H Q=>∃p xs,y=.ref p/\(SqL K H p xs\/SqT K H p xs)/\ke x=true/\xs.all ke=true/\Q (.bl (if neg then !inV x xs else inV x xs)) H
theorem sV:OpR X (compareOp .In) (rIn X.K false):=by
 intro pins s σ H x y v u Q I rx ry h;obtain⟨p,xs,rfl,hq,fx,fs,q⟩:=h;cases ry;rcases hq with hq|hq
 ·obtain⟨its,r,pl,hz⟩:=I.list hq;refine SeqAt.in_listAt (eqU x) pl.isList (fun w hw=>iD rx fx r fs w (by simpa using hw)) ⟨.bl _,H,I,rfl,?_⟩;rw[show its.toArray.any (eqU x)=its.any (eqU x)by simp,jX r fs];exact q
 ·obtain⟨its,r,pl,hz⟩:=I.tuple hq;refine SeqAt.in_tupleAt (eqU x) pl (fun w hw=>iD rx fx r fs w (by simpa using hw)) ⟨.bl _,H,I,rfl,?_⟩;rw[show its.toArray.any (eqU x)=its.any (eqU x)by simp,jX r fs];exact q
theorem mN:OpR X (compareOp .NotIn) (rIn X.K true):=by
 intro pins s σ H x y v u Q I rx ry h;obtain⟨p,xs,rfl,hq,fx,fs,q⟩:=h;cases ry;rcases hq with hq|hq
 ·obtain⟨its,r,pl,hz⟩:=I.list hq;refine SeqAt.notIn_listAt (eqU x) pl.isList (fun w hw=>iD rx fx r fs w (by simpa using hw)) ⟨.bl _,H,I,rfl,?_⟩;rw[show its.toArray.any (eqU x)=its.any (eqU x)by simp,jX r fs];exact q
 ·obtain⟨its,r,pl,hz⟩:=I.tuple hq;refine SeqAt.notIn_tupleAt (eqU x) pl (fun w hw=>iD rx fx r fs w (by simpa using hw)) ⟨.bl _,H,I,rfl,?_⟩;rw[show its.toArray.any (eqU x)=its.any (eqU x)by simp,jX r fs];exact q
theorem nH:gv X (.builtin "len") (fun xs H Q=>∃p ys,xs=[.ref p]/\(SqL X.K H p ys\/SqT X.K H p ys)/\Q (.int ys.length) H):=by
 intro pins s σ H xs us Q I r h;obtain⟨p,ys,rfl,hq,q⟩:=h;obtain⟨u,rfl,rx⟩:=n5 r;cases rx;have hn:=pT;rcases hq with hq|hq
 ·obtain⟨its,r',pl,hz⟩:=I.list hq;have hlen:=r'.length;exact Calls.call_len_list pl.isList (by simp only[QX]<;>omega) ⟨.int ys.length,H,I.tok _,⟨s.toks+1,by rw[QX,hlen]⟩,q⟩
 ·obtain⟨its,r',pl,hz⟩:=I.tuple hq;have hlen:=r'.length;exact len_tuple pl (by simp only[QX]<;>omega) ⟨.int ys.length,H,I.tok _,⟨s.toks+1,by rw[QX,hlen]⟩,q⟩
theorem gv.or{f:Value}{r r':List V->Hp->VK->Prop}(h:gv X f r)(h':gv X f r'):gv X f (fun xs H Q=>r xs H Q\/r' xs H Q):=by
 intro pins s σ H xs us Q I rs q;rcases q with q|q
 ·exact h pins s σ H xs us Q I rs q
 ·exact h' pins s σ H xs us Q I rs q
theorem jd:gv X (.type "list") (fun xs H Q=>∃p ys,xs=[.ref p]/\(SqL X.K H p ys\/SqT X.K H p ys)/\∀l,H l=none->Q (.ref l) (upd H l (.lst ys))):=by
 intro pins s σ H xs us Q I r h;obtain⟨p,ys,rfl,hq,q⟩:=h;obtain⟨u,rfl,rx⟩:=n5 r;cases rx;have fin:∀(its:List Value),bK ys its->ys.length<=sizeLine->∀(h':Heap) (c':Nat),(∀b o',s.heap.get? b=some o'->h'.get? b=some o')->
   h'.get? s.heap.objs.size=some { cls:=.type "list",dict:=none,data:=.seq its.toArray c',slots:=#[] }->EP X pins σ Q (.ref s.heap.objs.size) { s with heap:=h' }:=fun its r' hz h' c' kp e=>
  ⟨.ref s.heap.objs.size,_,I.laid (t':=s.toks) kp (Q5 _) (show dE X.prog X.w _ h' _ (.lst ys)from⟨hz,its,c',r',e⟩),rfl,q _ (I.hok.fresh (Q5 _))⟩
 rcases hq with hq|hq
 ·obtain⟨its,r',pl,hz⟩:=I.list hq;have hlen:=r'.length;obtain⟨o,ho,hc,n,hd⟩:=pl.isList;exact call_list_seq p (.inl rfl) ho hc hd (fun h' c' kp e=>fin its r' hz h' c' kp e) (by simp only[QX]<;>omega)
 ·obtain⟨its,r',pl,hz⟩:=I.tuple hq;have hlen:=r'.length;obtain⟨o,ho,hc,n,hd⟩:=pl;exact call_list_seq p (.inr rfl) ho hc hd (fun h' c' kp e=>fin its r' hz h' c' kp e) (by simp only[QX]<;>omega)
theorem iI:gv X (.type "tuple") (fun xs H Q=>∃p ys,xs=[.ref p]/\((SqL X.K H p ys/\∀l,H l=none->Q (.ref l) (upd H l (.tup ys)))\/(SqT X.K H p ys/\Q (.ref p) H))):=by
 intro pins s σ H xs us Q I r h;obtain⟨p,ys,rfl,h⟩:=h;obtain⟨u,rfl,rx⟩:=n5 r;cases rx;rcases h with⟨hq,q⟩|⟨hq,q⟩
 ·obtain⟨its,r',pl,hz⟩:=I.list hq;have hlen:=r'.length;refine call_tuple_list pl.isList (fun h' kp=>?_) (by simp only[QX]<;>omega);have I1:Inv X pins σ H { s with heap:=h' }:=I.kept (t':=s.toks) kp;have I2:Inv X pins σ (upd H h'.objs.size (.tup ys)) { s with heap:=h'.push { cls:=.type "tuple",data:=.seq its.toArray } }:=
   I1.laid (t':=s.toks) (fun b o e=>Q3 _ e) (Q5 _) (show dE X.prog X.w _ _ _ (.tup ys)from⟨hz,its,r',IsTup.new _ _⟩)
  exact⟨.ref h'.objs.size,_,I2,rfl,q _ (I1.hok.fresh (Q5 _))⟩
 ·obtain⟨its,r',pl,hz⟩:=I.tuple hq;exact call_tuple_same pl ⟨.ref p,H,I,rfl,q⟩
def tyV(K:Q1)(T:String)(x:V)(H:Hp):Prop:=match x with
 |.str _=>T="str"
 |.int _=>T="int"
 | .ref p=>(T="list"/\∃xs,SqL K H p xs)\/(T="tuple"/\∃o,K.lookup p=some o/\o.cls=.type "tuple"/\o.dict=none)\/
   (T="dict"/\((∃kvs,H p=some (.dK kvs))\/∃kvs,H p=some (.dT kvs)))\/(T="set"/\∃S n,H p=some (.set S n))
 |_=>False
theorem xt{pins:List (Addr×Obj)}{σ:St}{H:Hp}{s:Shared}{T:String}{x:V}{v:Value}(I:Inv X pins σ H s)(r:cu x v)(ty:tyV X.K T x H) :
  s.TypeIs v T/\∀a,v=.ref a->∃ob,s.heap.get? a=some ob/\ob.dict=none:=by
 cases x with
 |str z=>
  obtain⟨t,rfl⟩:=r;cases (show T="str" from ty);exact⟨typeIs_str s z t,fun _ e=>nomatch e⟩
 |int i=>
  obtain⟨t,rfl⟩:=r;cases (show T="int" from ty);exact⟨typeIs_int s i t,fun _ e=>nomatch e⟩
 |ref p=>
  cases r;rcases ty with⟨rfl,xs,hq⟩|⟨rfl,o,hk,hc,hd⟩|⟨rfl,hk⟩|⟨rfl,S,n,hk⟩
  ·obtain⟨its,_,pl,_⟩:=I.list hq;refine⟨pl.isList.typeIs,fun a e=>?_⟩;cases e;obtain⟨o,n,e,c,hd,_⟩:=pl;exact⟨o,e,hd⟩
  ·refine⟨⟨o,I.kIn p o hk,hc⟩,fun a e=>?_⟩;cases e;exact⟨o,I.kIn _ o hk,hd⟩
  ·have z:∃o,s.heap.get? p=some o/\o.ExactDict:=by
    rcases hk with⟨kvs,hk⟩|⟨kvs,hk⟩
    ·obtain⟨_,_,_,_,o,_,_,e,ex,_⟩:=I.hok p _ hk;exact⟨o,e,ex⟩
    ·obtain⟨_,_,_,_,o,_,_,e,ex,_⟩:=I.hok p _ hk;exact⟨o,e,ex⟩
   obtain⟨o,e,ex⟩:=z;refine⟨⟨o,e,ex.1⟩,fun a e2=>?_⟩;cases e2;exact⟨o,e,ex.2.1⟩
  ·obtain⟨o,_,_,_,e,ex,_⟩:=I.hok p _ hk;refine⟨⟨o,e,ex.1⟩,fun a e2=>?_⟩;cases e2;exact⟨o,e,ex.2.1⟩
 |_=>exact False.elim ty
def Gk(K:Q1)(T:String)(r:V->List V->Hp->VK->Prop)(to:TE):TE:=fun σ H Q=>to σ H fun x H1=>tyV K T x H1/\r x [] H1 Q
def tBM(K:Q1)(T:String)(r:V->List V->Hp->VK->Prop)(to:TE)(t:TA):TE:=fun σ H Q=>to σ H fun x H1=>tyV K T x H1/\t σ H1 fun xs H2=>r x xs H2 Q
variable{o e:Expr}{es:List Expr}{to:TE}{t:TA}{name:Str}{apos cpos:Pos}{T id:String}{r:V->List V->Hp->VK->Prop}
theorem Ck(pa:PlainAttrs T)(slot:Slot T name id)(hty:typeOf (.builtin id)=pure (.type "method_descriptor"))(hm:MtR X id r)(ho:PE X o to)
  (hbase:attributeBase o name X.env (eval o X.env)=eval o X.env:=by rfl) (hline:(apos.endLine == cpos.line)=true:=by rfl):PE X (.Call (.Attribute o name apos) [] [] cpos) (Gk X.K T r to):=by
 intro pins s σ H Q I h;refine wpAny_Call_method0_late hbase hline (thn (ho pins s σ H _ I h) fun v s1 hz=>?_);obtain⟨x,H1,I1,r1,ty,q1⟩:=hz;obtain⟨h1,h2⟩:=xt I1 r1 ty;exact⟨T,id,pa,slot,hty,h1,h2,Calls.callWith_builtin rfl (PySem.evalArgs_none (hm pins s1 σ H1 x [] v [] Q I1 r1 .nil q1))⟩
theorem Fo(pa:PlainAttrs T)(slot:Slot T name id)(hty:typeOf (.builtin id)=pure (.type "method_descriptor"))(hm:MtR X id r)(ho:PE X o to)(ha:PA X (e::es) t)
  (hbase:attributeBase o name X.env (eval o X.env)=eval o X.env:=by rfl)
  (hfew:((backTo cpos (starEach (e::es) X.env)).all (fun x=>!x.1)&&(backToKw cpos (keywordEach [] X.env)).all (fun x=>x.1.isSome)
   && decide ((e::es).length+([]:List Keyword).length+(if ([]:List Keyword).isEmpty then 0 else 1)<30))=true:=by rfl)
  (hline:(apos.endLine == cpos.line)=true:=by rfl) (hs:starEach (e::es) X.env=(false,eval e X.env)::starEach es X.env:=by rfl) (hplain:(backTo cpos (starEach es X.env)).any (·.1)=false:=by rfl) :
  PE X (.Call (.Attribute o name apos) (e::es) [] cpos) (tBM X.K T r to t):=by
 intro pins s σ H Q I h;refine wpAny_Call_method_late hbase hfew hline rfl (thn (ho pins s σ H _ I h) fun v s1 hz=>?_);obtain⟨x,H1,I1,r1,ty,q1⟩:=hz;obtain⟨h1,h2⟩:=xt I1 r1 ty;refine⟨T,id,pa,slot,hty,h1,h2,?_⟩;have hA:=ha cpos pins s1 σ H1 _ I1 q1;rw[hs]at hA ⊢;refine Calls.callWith_builtin (by show(false||(backTo cpos (starEach es X.env)).any (·.1))=false;rw[hplain]<;>rfl) (Calls.evalArgs_plain ?_);exact thn hA fun us s2 ⟨vs,H2,I2,r2,q2⟩=>hm pins s2 σ H2 x vs v us Q I2 r1 r2 q2
end
def MtM(X:Cx)(id:String)(r:V->List V->Hp->VK->Prop):Prop:=
 ∀(pins:List (Addr×Obj)) (s:Shared) (σ:St) (H:Hp) (x:V) (xs:List V) (v:Value) (us:List Value) (Q:VK),Inv X pins σ H s->cu x v->bK xs us->r x xs H Q->
  wpAny (model X.prog X.w) X.A (call (.builtin id) (v::us)) (EP X pins σ Q) X.xe s
theorem bK.one:∀{x:V} {us:List Value},bK [x] us->∃u,us=[u]/\cu x u
 |_,_,.cons r .nil=>⟨_,rfl,r⟩
theorem bK.zero:∀{us:List Value},bK [] us->us=[]
 |_,.nil=>rfl
theorem bK.eraseIdx:∀{xs:List V} {us:List Value} (i:Nat),bK xs us->bK (xs.eraseIdx i) (us.eraseIdx i)
 |_,_,_,.nil=>.nil
 |_,_,0,.cons _ t=>t
 |_,_,i+1,.cons r t=>.cons r (bK.eraseIdx i t)
theorem bK.rep{xs:List V}{us:List Value}(h:bK xs us):∀k:Nat,bK (QQ k xs).flatten (QQ k us).flatten
 |0=>.nil
 |k+1=>by
  rw[Qi,Qi,ZX,ZX];exact bK.append h (bK.rep h k)
theorem mU{α:Type}:∀(l:List α) (i:Nat),(l.eraseIdx i).length<=l.length
 |[],_=>Q5 _
 |_::_,0=>Nat.le_succ _
 |_::r,i+1=>Nat.succ_le_succ (mU r i)
theorem jO(its:List Value):∀(k:Nat) (acc:List Value),
  List.foldl (fun x1 x2=>x1++x2) acc.toArray (QQ k its.toArray)=(acc++(QQ k its).flatten).toArray
 |0,acc=>by simp
 |k+1,acc=>by
  have e:acc.toArray++its.toArray=(acc++its).toArray:=by simp
  have e2:(acc++its)++(QQ k its).flatten=acc++(QQ (k+1) its).flatten:=by
   rw[Qi,ZX,Qy]
  rw[<-e2,<-jO its k (acc++its),<-e,Qi,List.foldl_cons]
section
variable{X:Cx}{pins:List (Addr×Obj)}{σ:St}{H:Hp}{s:Shared}{l:Addr}{xs ys:List V}
theorem Inv.lset{its its':List Value}{n:Nat}{f:Array Value->Array Value}{t':Nat}(I:Inv X pins σ H s)(hH:H l=some (.lst xs))
  (e:s.heap.get? l=some { cls:=.type "list",data:=.seq its.toArray n }) (hf:f its.toArray=its'.toArray) (hv:bK ys its') (hz:ys.length<=sizeLine) :
  Inv X pins σ (upd H l (.lst ys)) { s with heap:=s.heap.update l (Obj.mapSeq f),toks:=t' }:=by
 have q:=PySem.IsL.update e f;rw[hf]at q;refine I.write (x:=l) (e:=l) (by rw[hH];exact trivial) (.inl rfl) (fun b' u hb hu=>(Heap.get?_update_other s.heap (Obj.mapSeq f) (Ne.symm hb)).trans hu) ⟨_,q⟩ ?_;exact⟨hz,its',_,hv,q⟩
theorem Inv.lnew{its:List Value}{t':Nat}(I:Inv X pins σ H s)(hv:bK ys its)(hz:ys.length<=sizeLine) :
  Inv X pins σ (upd H s.heap.objs.size (.lst ys)) { s with heap:=s.heap.push { cls:=.type "list",data:=.seq its.toArray },toks:=t' }:=
 I.laid (fun _ _ q=>Q3 _ q) (Q5 _) ⟨hz,its,0,hv,QN _ rfl⟩
def Inv.fresh(I:Inv X pins σ H s):H s.heap.objs.size=none:=I.hok.fresh (Q5 _)
theorem Inv.lstM(I:Inv X pins σ H s)(hH:H l=some (.lst xs)):xs.length<=sizeLine/\∃(its:List Value) (n:Nat),bK xs its/\xs.length=its.length/\s.heap.get? l=some { cls:=.type "list",data:=.seq its.toArray n }:=by
 obtain⟨z,its,n,r,e⟩:=I.hok l _ hH;exact⟨z,its,n,r,r.length,e⟩
theorem wc{n:Nat}(h:n<=sizeLine):Builtin.List.listTooLong n=false:=by
 unfold Builtin.List.listTooLong;exact decide_eq_false (by omega)
end
section
variable{X:Cx}
def sF:V->List V->Hp->VK->Prop:=fun x vs H Q=>∃l xs y,x=.ref l/\vs=[y]/\H l=some (.lst xs)/\xs.length<sizeLine/\Q .non (upd H l (.lst (xs++[y])))
theorem jG:MtM X "list.append" sF:=by
 intro pins s σ H x vs v us Q I rx rv h;obtain⟨l,xs,y,rfl,rfl,hH,hz,q⟩:=h;cases rx;obtain⟨u,rfl,ru⟩:=rv.one;obtain⟨z,its,n,r,hl,e⟩:=I.lstM hH;refine call_meets F.slot_list_append ⟨_,e,rfl⟩ F.entry_list_append (F.args_list_append_2 _ _) (PySem.list_append l its.toArray n u (by rw[QX];omega)) ⟨e,?_⟩;refine⟨.non,_,I.lset (its':=its++[u]) hH e (by simp) (r.append (.cons ru .nil)) ?_,rfl,q⟩;rw[QH,List.length_singleton];omega
def xC:V->List V->Hp->VK->Prop:=fun x vs H Q=>∃l xs i k y,x=.ref l/\vs=[.int i]/\H l=some (.lst xs)/\-(2^63)<=i/\i<2^63/\seqIndex? i xs.length=some k/\xs[k]?=some y/\Q y (upd H l (.lst (xs.eraseIdx k)))
theorem we:MtM X "list.pop" xC:=by
 intro pins s σ H x vs v us Q I rx rv h;obtain⟨l,xs,i,k,y,rfl,rfl,hH,h1,h2,hk,hy,q⟩:=h;cases rx;obtain⟨u,rfl,ru⟩:=rv.one;obtain⟨t,rfl⟩:=ru;obtain⟨z,its,n,r,hl,e⟩:=I.lstM hH;obtain⟨w,hw,rw'⟩:=r.get hy;refine call_meets F.slot_list_pop ⟨_,e,rfl⟩ F.entry_list_pop (F.args_list_pop_2 _ _)
  (MeetsSeq.list_pop_at l its.toArray n i t k w (fitsIndex_both h1 h2) (by rw[QX,<-hl];exact hk) (by rw[<-Array.getElem?_toList];exact hw) (by rw[QX];omega)) ⟨e,?_⟩
 refine⟨y,_,I.lset (its':=its.eraseIdx k) hH e ?_ (r.eraseIdx k) ?_,rw',q⟩
 ·show its.toArray.eraseIdxIfInBounds k=(its.eraseIdx k).toArray;rw[List.eraseIdxIfInBounds_toArray]
 ·have:=mU xs k;omega
def DI:R2:=fun x y H Q=>∃l b xs zs,x=.ref l/\y=.ref b/\H l=some (.lst xs)/\H b=some (.lst zs)/\xs.length+zs.length<=sizeLine/\∀p,H p=none->Q (.ref p) (upd H p (.lst (xs++zs)))
theorem Cu:OpR X (binaryOp .Add) DI:=by
 intro pins s σ H x y v u Q I rx ry h;obtain⟨l,b,xs,zs,rfl,rfl,hH,hB,hz,q⟩:=h;cases rx;cases ry;obtain⟨z,its,n,r,hl,e⟩:=I.lstM hH;obtain⟨z2,its2,n2,r2,hl2,e2⟩:=I.lstM hB;refine PySem.P.add_list e e2 ?_ (by rw[QX,QX];omega);have ea:its.toArray++its2.toArray=(its++its2).toArray:=by simp
 rw[ea];exact⟨.ref _,_,I.lnew (t':=s.toks) (r.append r2) (by rw[QH];omega),rfl,q _ I.fresh⟩
def E7:R2:=fun x y H Q=>∃l k xs,x=.ref l/\y=.int k/\H l=some (.lst xs)/\-(2^63)<=k/\k<2^63/\xs.length*k.toNat<=sizeLine/\
 ∀p,H p=none->Q (.ref p) (upd H p (.lst (QQ k.toNat xs).flatten))
theorem ot{α:Type}(xs:List α)(k:Nat):(QQ k xs).flatten.length=k*xs.length:=by
 induction k with
 |zero=>simp
 |succ k ih=>rw[Qi,ZX,QH,ih,Nat.succ_mul,Nat.add_comm]
theorem Cs:OpR X (binaryOp .Mult) E7:=by
 intro pins s σ H x y v u Q I rx ry h;obtain⟨l,k,xs,rfl,rfl,hH,h1,h2,hz,q⟩:=h;cases rx;obtain⟨t,rfl⟩:=ry;obtain⟨z,its,n,r,hl,e⟩:=I.lstM hH;have hlen:its.toArray.size*k.toNat<=sizeLine:=by rw[QX,<-hl];exact hz
 have hcap:¬its.toArray.size*k.toNat>(2^63-1) / 8:=by
  have:(sizeLine:Nat)<=(2^63-1) / 8:=by decide
  omega
 have hfit:¬(!Builtin.List.listFitsIndex k)=true:=by
  rw[fitsIndex_both h1 h2];exact Q7
 have hlong:¬Builtin.List.listTooLong (its.toArray.size*k.toNat)=true:=by
  rw[wc hlen];exact Q7
 have hnew:List.foldl (fun x1 x2=>x1++x2) #[] (QQ (if its.toArray.isEmpty=true then 0 else k.toNat) its.toArray)=(QQ k.toNat its).flatten.toArray:=by
  have f0:∀m:Nat,List.foldl (fun x1 x2=>x1++x2) #[] (QQ m its.toArray)=(QQ m its).flatten.toArray:=fun m=>by
   have:=jO its m [];rw[Qu]at this;exact this
  rw[f0];cases its with
  |nil=>simp
  |cons a r'=>rw[if_neg (by simp)]
 refine wpAny_binaryOp_repeat_ref (T:="list") (U:="int") (by decide) ⟨_,e,rfl⟩ (fun s'=>typeIs_int s' k t) noFill_list_mul F.fills_int_mul F.slot_int_rmul repeat_list F.slot_int_index.lookup
  (call_meets F.slot_int_rmul (typeIs_int s k t) F.entry_int_rmul (F.args_int_rmul_2 _ _) (int___rmul___int_list k t l its.toArray n)
   ⟨e,rfl,⟨_,e,rfl⟩,call_meets F.slot_list_mul ⟨_,e,rfl⟩ F.entry_list_mul (F.args_list_mul_2 _ _) (AutoListH.list___mul___list_int_3 l its.toArray n k t hfit hcap hlong) ⟨e,?_⟩⟩)
 rw[hnew];exact⟨.ref _,_,I.lnew (t':=s.toks) (r.rep k.toNat) (by rw[ot,Nat.mul_comm];exact hz),rfl,q _ I.fresh⟩
end
section
variable{κ:Type}[DecidableEq κ]
def gC(kvs:List (κ×V))(k:κ):Option V:=(kvs.find? fun kv=>decide (kv.1=k)).map (·.2)
def mh(kvs:List (κ×V))(k:κ)(v:V):List (κ×V):=
 if (kvs.any fun kv=>decide (kv.1=k))=true then kvs.map (fun kv=>if kv.1=k then(kv.1,v)else kv)else kvs++[(k,v)]
def lV(kvs:List (κ×V))(k:κ):List (κ×V):=kvs.filter fun kv=>decide (kv.1≠k)
def cX{p:κ×V}{r:List (κ×V)}{k:κ}(e:p.1=k):gC (p::r) k=some p.2:=by simp[gC,Qx,e]
def cY{p:κ×V}{r:List (κ×V)}{k:κ}(e:¬p.1=k):gC (p::r) k=gC r k:=by simp[gC,Qx,e]
theorem jm(k:κ):∀kvs:List (κ×V),(kvs.any fun kv=>decide (kv.1=k))=(gC kvs k).isSome
 |[]=>rfl
 |p::r=>by
  rw[Z0];by_cases e:p.1=k
  ·simp only[cX e,decide_eq_true e,Bool.true_or,Option.isSome_some]
  ·rw[cY e,decide_eq_false e,Bool.false_or];exact jm k r
theorem pd(k j:κ)(y:V):∀kvs:List (κ×V),gC (kvs.map fun kv=>if kv.1=k then(kv.1,y)else kv) j=(gC kvs j).map fun x=>if j=k then y else x
 |[]=>rfl
 |p::r=>by
  have ih:=pd k j y r;rw[QU];by_cases h:p.1=k
  ·rw[if_pos h];by_cases e:p.1=j
   ·rw[cX (p:=(p.1,y)) e,cX e,Z6,if_pos (e.symm.trans h)]
   ·rw[cY (p:=(p.1,y)) e,cY e,ih]
  ·rw[if_neg h];by_cases e:p.1=j
   ·rw[cX (p:=p) e,cX e,Z6,if_neg (fun z=>h (e.trans z))]
   ·rw[cY (p:=p) e,cY e,ih]
theorem mw(k j:κ)(y:V):∀kvs:List (κ×V),gC kvs k=none->gC (kvs++[(k,y)]) j=if j=k then some y else gC kvs j
 |[],_=>by
  by_cases e:k=j
  ·rw[if_pos e.symm];exact cX (p:=(k,y)) e
  ·rw[if_neg (fun z=>e z.symm)];exact cY (p:=(k,y)) e
 |p::r,hn=>by
  rw[Qa];have hk:¬p.1=k:=fun z=>by rw[cX z]at hn;cases hn
  rw[cY hk]at hn;have ih:=mw k j y r hn;by_cases e:p.1=j
  ·rw[cX e,cX e,if_neg (fun z=>hk (e.trans z))]
  ·rw[cY e,cY e,ih]
theorem vt(kvs:List (κ×V))(k j:κ)(y:V):gC (mh kvs k y) j=if j=k then some y else gC kvs j:=by
 unfold mh;by_cases a:(kvs.any fun kv=>decide (kv.1=k))=true
 ·rw[if_pos a,pd];rw[jm]at a;by_cases e:j=k
  ·obtain⟨x,hx⟩:=Qp.mp a;rw[if_pos e,e,hx,Z6,if_pos rfl]
  ·rw[if_neg e];cases gC kvs j with
   |none=>rfl
   |some x=>rw[Z6,if_neg e]
 ·rw[if_neg a];refine mw k j y kvs ?_;rw[jm]at a;cases q:gC kvs k with
  |none=>rfl
  |some x=>rw[q]at a;exact(a rfl).elim
theorem jI(kvs:List (κ×V))(k:κ)(v:V):(mh kvs k v).length<=kvs.length+1:=by
 unfold mh;split
 ·rw[QZ];omega
 ·rw[QH,QJ,List.length_nil];omega
theorem l0.isSome_eq{o:Option V}{u:Option Value}(r:l0 o u):o.isSome=u.isSome:=by
 cases o with
 |none=>cases u with
  |none=>rfl
  |some _=>exact(show False from r).elim
 |some _=>cases u with
  |none=>exact(show False from r).elim
  |some _=>rfl
theorem l0.getD{o:Option V}{u:Option Value}{d:V}{d':Value}(r:l0 o u)(rd:cu d d'):cu (o.getD d) (u.getD d'):=by
 cases o with
 |none=>cases u with
  |none=>exact rd
  |some _=>exact(show False from r).elim
 |some _=>cases u with
  |none=>exact(show False from r).elim
  |some _=>exact r
theorem KV.val{kvs:List (κ×V)}{vs:List (κ×Value)}(r:KV kvs vs)(k:κ):l0 (gC kvs k) (valueAt vs k):=by
 unfold KV at r;induction r with
 |nil=>exact True.intro
 |@cons p q ps qs h t ih=>
  obtain⟨h1,h2⟩:=h;by_cases e:p.1=k
  ·have e':q.1=k:=h1.symm.trans e;have b:valueAt (q::qs) k=some q.2:=by simp[valueAt,Qx,e']
   rw[cX e,b];exact h2
  ·have e':¬q.1=k:=fun z=>e (h1.trans z);have b:valueAt (q::qs) k=valueAt qs k:=by simp[valueAt,Qx,e']
   rw[cY e,b];exact ih
theorem KV.any{kvs:List (κ×V)}{vs:List (κ×Value)}(r:KV kvs vs)(k:κ):(kvs.any fun kv=>decide (kv.1=k))=vs.any fun kv=>decide (kv.1=k):=by
 unfold KV at r;induction r with
 |nil=>rfl
 |cons h t ih=>rw[Z0,Z0,ih,h.1]
theorem KV.repl{kvs:List (κ×V)}{vs:List (κ×Value)}(r:KV kvs vs)(k:κ){y:V}{u:Value}(ry:cu y u) :
  KV (kvs.map fun kv=>if kv.1=k then(kv.1,y)else kv) (vs.map fun kv=>if kv.1=k then(kv.1,u)else kv):=by
 unfold KV at r ⊢;induction r with
 |nil=>exact .nil
 |@cons p q ps qs h t ih=>
  rw[QU,QU];refine .cons ?_ ih;obtain⟨h1,h2⟩:=h;by_cases e:p.1=k
  ·rw[if_pos e,if_pos (h1.symm.trans e)];exact⟨h1,ry⟩
  ·rw[if_neg e,if_neg (fun z=>e (h1.trans z))];exact⟨h1,h2⟩
theorem KV.put{kvs:List (κ×V)}{vs:List (κ×Value)}(r:KV kvs vs)(k:κ){y:V}{u:Value}(ry:cu y u):KV (mh kvs k y) (stored vs k u):=by
 unfold mh stored;rw[r.any k];by_cases e:(vs.any fun kv=>decide (kv.1=k))=true
 ·rw[if_pos e,if_pos e];exact r.repl k ry
 ·rw[if_neg e,if_neg e];exact Paired.snoc r ⟨rfl,ry⟩
theorem KV.drop{kvs:List (κ×V)}{vs:List (κ×Value)}(r:KV kvs vs)(k:κ):KV (lV kvs k) (without vs k):=by
 unfold KV at r ⊢;unfold lV without;induction r with
 |nil=>exact .nil
 |@cons p q ps qs h t ih=>
  obtain⟨h1,h2⟩:=h;rw[List.filter_cons,List.filter_cons];by_cases e:p.1=k
  ·have a:¬decide (p.1≠k)=true:=by simp[e]
   have b:¬decide (q.1≠k)=true:=by simp[h1.symm.trans e]
   rw[if_neg a,if_neg b];exact ih
  ·have e':¬q.1=k:=fun z=>e (h1.trans z);have a:decide (p.1≠k)=true:=by simp[e]
   have b:decide (q.1≠k)=true:=by simp[e']
   rw[if_pos a,if_pos b];exact .cons ⟨h1,h2⟩ ih
def KV.length{kvs:List (κ×V)}{vs:List (κ×Value)}(r:KV kvs vs):kvs.length=vs.length:=Paired.length r
def wQ(kvs:List (κ×V))(k:κ):(lV kvs k).length<=kvs.length:=List.length_filter_le _ _
end
theorem oy{P:Program}{w:World}{k:Key}{u:Value}(r:cu (kV k) u):(bY P w).is k u=true:=by
 cases k with
 |inl i=>obtain⟨t,e⟩:=(show ∃t,u=Value.int i t from r);subst e;exact oo P w i t
 |inr x=>obtain⟨t,e⟩:=(show ∃t,u=Value.str x t from r);subst e;exact om P w x t
theorem mX{P:Program}{w:World}:∀{ks:List Key} {us:List Value},bK (ks.map kV) us->ItemsAre (bY P w) ks us
 |[],_,r=>by rw[Qs]at r;cases r;exact .nil
 |k::ks,_,r=>by
  rw[QU]at r;cases r with
  |cons h t=>exact .cons (oy h) (mX t)
abbrev KT(H:Hp):List (List Key×V)->List (List Key×Addr×Value)->Prop:=Paired fun p q=>p.1=q.1/\H q.2.1=some (.tup (p.1.map kV))/\cu p.2 q.2.2
theorem KT.val{H:Hp}{kvs:List (List Key×V)}{xs:List (List Key×Addr×Value)}(r:KT H kvs xs)(k:List Key):l0 (gC kvs k) ((atKey xs k).map (·.2)):=by
 induction r with
 |nil=>exact True.intro
 |@cons p q ps qs h t ih=>
  obtain⟨h1,_,h2⟩:=h;by_cases e:p.1=k
  ·have e':q.1=k:=h1.symm.trans e;have b:atKey (q::qs) k=some q.2:=by simp[atKey,Qx,e']
   rw[cX e,b];exact h2
  ·have e':¬q.1=k:=fun z=>e (h1.trans z);have b:atKey (q::qs) k=atKey qs k:=by simp[atKey,Qx,e']
   rw[cY e,b];exact ih
theorem KT.repl{H:Hp}{kvs:List (List Key×V)}{xs:List (List Key×Addr×Value)}(r:KT H kvs xs)(k:List Key){y:V}{u:Value}(ry:cu y u) :
  KT H (kvs.map fun kv=>if kv.1=k then(kv.1,y)else kv) (xs.map (putAt k u)):=by
 induction r with
 |nil=>exact .nil
 |@cons p q ps qs h t ih=>
  rw[QU,QU];refine .cons ?_ ih;obtain⟨h1,h2,h3⟩:=h;unfold putAt;by_cases e:p.1=k
  ·rw[if_pos e,if_pos (h1.symm.trans e)];exact⟨h1,h2,ry⟩
  ·rw[if_neg e,if_neg (fun z=>e (h1.trans z))];exact⟨h1,h2,h3⟩
theorem KT.put{H:Hp}{kvs:List (List Key×V)}{xs:List (List Key×Addr×Value)}(r:KT H kvs xs)(k:List Key){b:Addr}{y:V}{u:Value}(hb:H b=some (.tup (k.map kV)))(ry:cu y u) :
  KT H (mh kvs k y) (storedH xs k b u):=by
 have e:(kvs.any fun kv=>decide (kv.1=k))=(atKey xs k).isSome:=by
  rw[jm,(r.val k).isSome_eq,Option.isSome_map]
 unfold mh storedH;rw[e];by_cases q:(atKey xs k).isSome=true
 ·rw[if_pos q,if_pos q];exact r.repl k ry
 ·rw[if_neg q,if_neg q];exact Paired.snoc r ⟨rfl,hb,ry⟩
theorem KT.keeps{H H':Hp}{kvs:List (List Key×V)}{xs:List (List Key×Addr×Value)}(r:KT H kvs xs)(ht:∀b ys,H b=some (.tup ys)->H' b=some (.tup ys)):KT H' kvs xs:=
 Paired.mapP r fun _ _ z=>⟨z.1,ht _ _ z.2.1,z.2.2⟩
section
variable{P:Program}{w:World}{H:Hp}{h:Heap}{a:Addr}
def BN{u:HO}(ok:HOk P w H h)(e:Rd H a u):dE P w H h a u:=e.ok ok
theorem nD{kvs:List (Key×V)}(ok:HOk P w H h)(e:Rd H a (.dK kvs)):kvs.length<=sizeLine/\(a == sysModules)=false/\∃vs,KV kvs vs/\h.DictOf (bY P w) a vs:=
 show dE P w H h a (.dK kvs)from BN ok e
theorem uh{kvs:List (Key×V)}(ok:HOk P w H h)(e:H a=some (.dK kvs)):kvs.length<=sizeLine/\(a == sysModules)=false/\∃vs,KV kvs vs/\h.DictOf (bY P w) a vs:=nD ok (.inl e)
theorem kK{ks:List Key}(ok:HOk P w H h)(e:H a=some (.tup (ks.map kV))):(tupleKind (bY P w)).is h ks a:=by
 obtain⟨_,its,r,o,h1,h2,n,h3⟩:=(show dE P w H h a (.tup (ks.map kV))from ok a _ e);exact⟨o,its.toArray,n,h1,h2,h3,by simpa using mX r⟩
theorem oM{kvs:List (List Key×V)}(ok:HOk P w H h)(e:Rd H a (.dT kvs)):kvs.length<=sizeLine/\(a == sysModules)=false/\
  ∃xs,KT H kvs xs/\h.DictOfH (tupleKind (bY P w)) a xs:=by
 obtain⟨z,y,xs,r,o,es,ep,h1,h2,h3,h4,h5⟩:=(show dE P w H h a (.dT kvs)from BN ok e);refine⟨z,y,xs,r,o,es,ep,h1,h2,h3,h4,fun x hx=>?_,h5⟩;have all:∀{l:List (List Key×V)} {m:List (List Key×Addr×Value)},KT H l m->∀x∈m,(tupleKind (bY P w)).is h x.1 x.2.1:=by
  intro l m q;induction q with
  |nil=>intro x hx;exact nomatch hx
  |@cons p q ps qs hq t ih=>
   intro x hx;rcases QC.mp hx with e|hx
   ·subst e;exact kK ok (by rw[<-hq.1];exact hq.2.1)
   ·exact ih x hx
 exact all r x hx
theorem FV{kvs:List (List Key×V)}(ok:HOk P w H h)(e:H a=some (.dT kvs)):kvs.length<=sizeLine/\(a == sysModules)=false/\
  ∃xs,KT H kvs xs/\h.DictOfH (tupleKind (bY P w)) a xs:=oM ok (.inl e)
end
def DGet(H:Hp)(a:Addr)(y:V)(r:Option V):Prop:=
 (∃kvs k,Rd H a (.dK kvs)/\y=kV k/\r=gC kvs k)\/∃kvs k b,Rd H a (.dT kvs)/\y=.ref b/\H b=some (.tup (k.map kV))/\r=gC kvs k
def Dz(H:Hp)(a:Addr)(y v:V)(H':Hp):Prop:=
 (∃kvs k,H a=some (.dK kvs)/\y=kV k/\kvs.length<sizeLine/\H'=upd H a (.dK (mh kvs k v)))\/
 ∃kvs k b,H a=some (.dT kvs)/\y=.ref b/\H b=some (.tup (k.map kV))/\kvs.length<sizeLine/\H'=upd H a (.dT (mh kvs k v))
theorem DGet.k{H:Hp}{a:Addr}{kvs:List (Key×V)}{k:Key}(e:H a=some (.dK kvs)):DGet H a (kV k) (gC kvs k):=.inl ⟨kvs,k,.inl e,rfl,rfl⟩
theorem Dz.k{H:Hp}{a:Addr}{kvs:List (Key×V)}{k:Key}{v:V}(e:H a=some (.dK kvs))(hl:kvs.length<sizeLine):Dz H a (kV k) v (upd H a (.dK (mh kvs k v))):=.inl ⟨kvs,k,e,rfl,hl,rfl⟩
section
variable{X:Cx}{pins:List (Addr×Obj)}{σ:St}{H:Hp}{s:Shared}{a:Addr}{y v:V}{u r:Value}{o:Option V}{A:Around}{E:Value->Shared->Prop}
theorem Inv.big(I:Inv X pins σ H s):sysModules<s.heap.objs.size:=by
 have h:mainGlobals<s.heap.objs.size:=(I.mod.glob.keeps I.bk).lt;exact Nat.lt_trans (by decide) h
theorem uq{Q:Value->Shared->Prop}(hu:A.units+1<cLine)(I:Inv X pins σ H s)(g:DGet H a y (some v))(ry:cu y u)(h:∀w' s',Inv X pins σ H s'->cu v w'->Q w' s') :
  wpAny (model X.prog X.w) A (getItem (.ref a) u) Q E s:=by
 rcases g with⟨kvs,k,e,ey,l⟩|⟨kvs,k,b,e,ey,eb,l⟩
 ·subst ey;obtain⟨z,hd,vs,rel,dd⟩:=nD I.hok e;obtain⟨w',hw,rw'⟩:=l0.some_of (v:=v) (o:=valueAt vs k) (by rw[l];exact rel.val k);exact wpAny_getItem_of (oy ry) dd.mapOf hw (h w' _ (I.tok _) rw')
 ·subst ey;cases (show u=Value.ref b from ry);obtain⟨z,hd,xs,rel,dd⟩:=oM I.hok e;obtain⟨w',hw,rw'⟩:=l0.some_of (v:=v) (o:=(atKey xs k).map (·.2)) (by rw[l];exact rel.val k);obtain⟨p,hp,hp2⟩:=Qo.mp hw;refine wpAny_getItem_heap (tupleKind_room_in1 hu) (kK I.hok eb) dd hp ?_;rw[hp2];exact h w' _ (I.tok _) rw'
theorem Hh{Q:Value->Shared->Prop}(hu:A.units+1<cLine)(I:Inv X pins σ H s)(g:DGet H a y o)(ry:cu y u)(h:∀s',Inv X pins σ H s'->Q (.bool o.isSome) s') :
  wpAny (model X.prog X.w) A (compareOp .In u (.ref a)) Q E s:=by
 rcases g with⟨kvs,k,e,ey,l⟩|⟨kvs,k,b,e,ey,eb,l⟩
 ·subst ey;obtain⟨z,hd,vs,rel,dd⟩:=nD I.hok e;refine wpAny_in_of (oy ry) hd dd.mapOf ?_;rw[<-(rel.val k).isSome_eq,<-l];exact h _ (I.tok _)
 ·subst ey;cases (show u=Value.ref b from ry);obtain⟨z,hd,xs,rel,dd⟩:=oM I.hok e;refine wpAny_in_heap (tupleKind_room_in1 hu) (kK I.hok eb) hd dd ?_;have q:=(rel.val k).isSome_eq;rw[Option.isSome_map]at q;rw[<-q,<-l];exact h _ (I.tok _)
theorem Ax{Q:Value->Shared->Prop}(hu:A.units+1<cLine)(I:Inv X pins σ H s)(g:DGet H a y o)(ry:cu y u)(h:∀s',Inv X pins σ H s'->Q (.bool (!o.isSome)) s') :
  wpAny (model X.prog X.w) A (compareOp .NotIn u (.ref a)) Q E s:=by
 rcases g with⟨kvs,k,e,ey,l⟩|⟨kvs,k,b,e,ey,eb,l⟩
 ·subst ey;obtain⟨z,hd,vs,rel,dd⟩:=nD I.hok e;refine wpAny_notIn_of (oy ry) hd dd.mapOf ?_;rw[<-(rel.val k).isSome_eq,<-l];exact h _ (I.tok _)
 ·subst ey;cases (show u=Value.ref b from ry);obtain⟨z,hd,xs,rel,dd⟩:=oM I.hok e;refine wpAny_notIn_heap (tupleKind_room_in1 hu) (kK I.hok eb) hd dd ?_;have q:=(rel.val k).isSome_eq;rw[Option.isSome_map]at q;rw[<-q,<-l];exact h _ (I.tok _)
theorem oP{h':Heap}{t':Nat}{ob:HO}(I:Inv X pins σ H s)(mu:Mut (H a))(hs:Heap.SameBut a s.heap h')(he:∃q,h'.get? a=some q)(new:dE X.prog X.w (upd H a ob) h' a ob) :
  Inv X pins σ (upd H a ob) { s with heap:=h',toks:=t' }:=
 I.write (x:=a) (e:=a) mu (.inl rfl) (fun b q hb z=>(hs.2 b hb).trans z) he new
theorem x5{P:Program}{w:World}{H':Hp}{h':Heap}{kvs:List (Key×V)}{vs:List (Key×Value)}(z:kvs.length<=sizeLine)(hd:(a == sysModules)=false)(rel:KV kvs vs)(dd:h'.DictOf (bY P w) a vs) :
  dE P w H' h' a (.dK kvs):=⟨z,hd,vs,rel,dd⟩
theorem uo{H':Hp}{Q:Unit->Shared->Prop}(hu:A.units+1<cLine)(I:Inv X pins σ H s)(g:Dz H a y v H')(ry:cu y u)(rv:cu v r)(h:∀s',Inv X pins σ H' s'->Q () s') :
  wpAny (model X.prog X.w) A (setItem (.ref a) u r) Q E s:=by
 rcases g with⟨kvs,k,e,ey,l,eH⟩|⟨kvs,k,b,e,ey,eb,l,eH⟩
 ·subst ey eH;obtain⟨z,hd,vs,rel,dd⟩:=uh I.hok e;have hz:vs.length<=sizeLine:=by rw[<-rel.length];exact z
  have hl:(mh kvs k v).length<=sizeLine:=by have:=jI kvs k v;omega
  refine wpAny_setItem_pairs (hsz:=hz) (oy ry) dd fun h' dd' hs=>h _ ?_;have he:∃q,h'.get? a=some q:=let ⟨q,_,_,hq,_⟩:=dd';⟨q,hq⟩
  exact oP I (by rw[e];exact True.intro) hs he (x5 hl hd (rel.put k rv) dd')
 ·subst ey eH;cases (show u=Value.ref b from ry);obtain⟨z,hd,xs,rel,dd⟩:=FV I.hok e;have hz:xs.length<=sizeLine:=by rw[<-Paired.length rel];exact z
  have hl:(mh kvs k v).length<=sizeLine:=by have:=jI kvs k v;omega
  refine wpAny_setItem_heap (hsz:=hz) (tupleKind_room_in1 hu) (kK I.hok eb) dd fun h' dd' hs=>h _ ?_;obtain⟨q,es,ep,hq,h2,h3,h4,_,h5⟩:=dd';refine oP I (by rw[e];exact True.intro) hs ⟨q,hq⟩ ⟨hl,hd,_,(rel.put k eb rv).keeps fun c ys ec=>?_,q,es,ep,hq,h2,h3,h4,h5⟩;rw[aK (FA ec e (fun z=>nomatch z))];exact ec
end
section
variable{X:Cx}{pins:List (Addr×Obj)}{σ:St}{H:Hp}{s:Shared}{a:Addr}{kvs:List (Key×V)}{k:Key}{u:Value}{A:Around}{E:Value->Shared->Prop}
theorem FW{v:V}{more:List Value}{Q:Value->Shared->Prop}(I:Inv X pins σ H s)(e:H a=some (.dK kvs))(ry:cu (kV k) u)(l:gC kvs k=some v)(hm:more=[]\/∃x,more=[x])
  (h:∀w' s',Inv X pins σ (upd H a (.dK (lV kvs k))) s'->cu v w'->Q w' s'):wpAny (model X.prog X.w) A (call (.builtin "dict.pop") (.ref a::u::more)) Q E s:=by
 obtain⟨z,hd,vs,rel,dd⟩:=uh I.hok e;obtain⟨w',hw,rw'⟩:=l0.some_of (v:=v) (o:=valueAt vs k) (by rw[<-l];exact rel.val k);have hp:(keyPart u).isSome=true:=by
  cases k with
  |inl i=>obtain⟨t,q⟩:=(show ∃t,u=Value.int i t from ry);subst q;rfl
  |inr x=>obtain⟨t,q⟩:=(show ∃t,u=Value.str x t from ry);subst q;rfl
 have ha:argsOk "dict.pop" ⟨.ref a::u::more,[]⟩:=by
  rcases hm with q|⟨x,q⟩
  ·subst q;exact PySem.F.args_dict_pop_2 _ _
  ·subst q;exact PySem.F.args_dict_pop_3 _ _ _
 refine call_meetsIn PySem.F.slot_dict_pop dd.typeIs PySem.F.entry_dict_pop ha (meets_dict_pop_there (bY X.prog X.w) a (oy ry) more hm hp)
  ⟨vs,w',dd,by rw[<-rel.length];exact z,hw,fun h' dd' hs=>h w' _ ?_ rw'⟩
 have he:∃q,h'.get? a=some q:=let ⟨q,_,_,hq,_⟩:=dd';⟨q,hq⟩
 exact oP I (by rw[e];exact True.intro) hs he (x5 (QL (wQ kvs k) z) hd (rel.drop k) dd')
theorem FX{Q:Value->Shared->Prop}(I:Inv X pins σ H s)(e:Rd H a (.dK kvs))(h:∀t s',Inv X pins σ H s'->Q (.int kvs.length t) s'):wpAny (model X.prog X.w) A (call (.builtin "len") [.ref a]) Q E s:=by
 obtain⟨z,hd,vs,rel,dd⟩:=nD I.hok e;refine call_len_dict hd dd (by rw[<-rel.length];rw[sizeLine_eq]at z;omega) ?_;rw[<-rel.length];exact h _ _ (I.tok _)
end
def DX(i:Expr):Prop:=∀ov iv,subscripted i false ov iv=operate [ov,iv] (getItem ov iv)
theorem y6{prog:Program}{w:World}{A:Around}{E:Value->Shared->Prop}{s:Shared}{env:Env}{value slice:Expr}{pos:Pos}{T id:String}{Q:Value->Shared->Prop}
  (hl:typeLookup (.type T) "__getitem__"=pure (some (.builtin id))) (hs:DX slice)
  (h:wpAny (model prog w) A (eval value env) (fun o s₁=>wpAny (model prog w) A (eval slice env) (fun i s₂=>s₂.TypeIs o T/\wpAny (model prog w) A (getItem o i) Q E s₂) E s₁) E s) :
  wpAny (model prog w) A (eval (.Subscript value slice pos) env) Q E s:=by
 refine Subscript_ (Qh h (fun o s₁ h₁=>Qh h₁ (fun i s₂ h₂=>?_) fun _ _ x=>x) fun _ _ x=>x);obtain⟨hT,h₂⟩:=h₂;unfold subscriptTail;refine Q2 ?_;rw[getitemInPython_of_ne hT.not_modules];refine Q2 (wpAny_specialOf hT hl ?_);have fin:wpAny (model prog w) A (subscripted slice false o i) (fun r s₃=>wpAny (model prog w) A (letTemporaryGo value o r >>= fun _=>pure r) Q E s₃) E s₂:=by
  rw[hs o i];exact wpAny_operating (Qh h₂ (fun r s₃ h₃=>Q2 (wpAny_letTemporaryGo (QY h₃))) fun _ _ x=>x)
 first
  |exact QY (Q2 fin)
  |exact Q2 (QY (Q2 fin))
  |exact Q2 fin
theorem oO{X:Cx}{pins:List (Addr×Obj)}{σ:St}{H:Hp}{s:Shared}{a:Addr}{y:V}{o:Option V}(I:Inv X pins σ H s)(g:DGet H a y o):s.TypeIs (.ref a) "dict":=by
 rcases g with⟨kvs,k,e,_,_⟩|⟨kvs,k,b,e,_,_,_⟩
 ·obtain⟨_,_,vs,_,dd⟩:=nD I.hok e;exact dd.typeIs
 ·obtain⟨_,_,xs,_,dd⟩:=oM I.hok e;exact dd.typeIs
def BG(td ty:TE):TE:=fun σ H Q=>td σ H fun x H1=>ty σ H1 fun y H2=>∃a v,x=.ref a/\DGet H2 a y (some v)/\Q v H2
def E3(ty td:TE):TE:=fun σ H Q=>ty σ H fun y H1=>td σ H1 fun x H2=>∃a o,x=.ref a/\DGet H2 a y o/\Q (.bl o.isSome) H2
def oh(ty td:TE):TE:=fun σ H Q=>ty σ H fun y H1=>td σ H1 fun x H2=>∃a o,x=.ref a/\DGet H2 a y o/\Q (.bl (!o.isSome)) H2
def BM(td ty tv:TE):TS:=fun D σ H=>tv σ H fun v H1=>td σ H1 fun x H2=>ty σ H2 fun y H3=>∃a H4,x=.ref a/\Dz H3 a y v H4/\D.nx σ H4
section
variable{X:Cx}{o i value:Expr}{pos pos':Pos}{td ty tv:TE}
theorem zG(hu:X.A.units+1<cLine)(ho:PE X o td)(hi:PE X i ty)(hs:DX i):PE X (.Subscript o i pos) (BG td ty):=by
 intro pins s σ H Q I h;refine y6 PySem.F.slot_dict_getitem.lookup hs (thn (ho pins s σ H _ I h) fun u s1 ⟨x,H1,I1,rx,q1⟩=>thn (hi pins s1 σ H1 _ I1 q1) fun iv s2 hz=>?_);obtain⟨y,H2,I2,ry,a,v,ex,g,q2⟩:=hz;subst ex;obtain rfl:u=Value.ref a:=rx;exact⟨oO I2 g,uq hu I2 g ry fun w' s3 I3 rw'=>⟨v,H2,I3,rw',q2⟩⟩
theorem Cm(hu:X.A.units+1<cLine)(hi:PE X i ty)(ho:PE X o td):PC X .In i o (E3 ty td):=by
 intro pins s σ H Q I h;refine thn (hi pins s σ H _ I h) fun iv s1 ⟨y,H1,I1,ry,q1⟩=>thn (ho pins s1 σ H1 _ I1 q1) fun u s2 hz=>?_;obtain⟨x,H2,I2,rx,a,ov,ex,g,q2⟩:=hz;subst ex;obtain rfl:u=Value.ref a:=rx;exact Hh hu I2 g ry fun s3 I3=>⟨.bl ov.isSome,H2,I3,rfl,q2⟩
theorem sQ(hu:X.A.units+1<cLine)(hi:PE X i ty)(ho:PE X o td):PC X .NotIn i o (oh ty td):=by
 intro pins s σ H Q I h;refine thn (hi pins s σ H _ I h) fun iv s1 ⟨y,H1,I1,ry,q1⟩=>thn (ho pins s1 σ H1 _ I1 q1) fun u s2 hz=>?_;obtain⟨x,H2,I2,rx,a,ov,ex,g,q2⟩:=hz;subst ex;obtain rfl:u=Value.ref a:=rx;exact Ax hu I2 g ry fun s3 I3=>⟨.bl (!ov.isSome),H2,I3,rfl,q2⟩
theorem zw(hu:X.A.units+1<cLine)(ho:PE X o td)(hi:PE X i ty)(hv:PE X value tv)(hs:swapsWith value (some (.Subscript o i pos')) pos.line X.env=pure false) :
  PS X (.Assign [.Subscript o i pos'] value pos) (BM td ty tv):=by
 intro pins s σ H D I h;refine wpAny_Assign_Subscript (thn (hv pins s σ H _ I h) fun r s1 ⟨v,H1,I1,rv,q1⟩=>thn (ho pins s1 σ H1 _ I1 q1) fun u s2 ⟨x,H2,I2,rx,q2⟩=>thn (hi pins s2 σ H2 _ I2 q2) fun iv s3 hz=>?_) hs;obtain⟨y,H3,I3,ry,a,H4,ex,g,q3⟩:=hz;subst ex;obtain rfl:u=Value.ref a:=rx;exact uo hu I3 g ry rv fun s4 I4=>⟨σ,H4,I4,q3⟩
end
theorem wR{P:Program}{w:World}{H:Hp}(h:Heap)(hb:sysModules<h.objs.size):dE P w H (h.push { cls:=.type "dict",data:=.dict #[] }) h.objs.size (.dK []):=
 ⟨Qe _,beq_eq_false_iff_ne.mpr (Ne.symm (QD hb)),[],.nil,Heap.DictOf.new h⟩
def xy:TE:=fun _ H Q=>∀p,H p=none->Q (.ref p) (upd H p (.dK []))
section
variable{X:Cx}{pos:Pos}
theorem vP:PE X (.Dict [] [] pos) xy:=fun pins s σ H Q I h=>
 wpAny_Dict_empty ⟨.ref s.heap.objs.size,_,I.laid (a:=s.heap.objs.size) (o:=.dK []) (t':=s.toks) (fun _ _ q=>Q3 _ q) (Q5 _) (wR s.heap I.big),rfl,h _ (I.hok.fresh (Q5 _))⟩
end
structure M1(X:Cx)(o:Expr)(m:Str)(apos:Pos)(e:Expr)(cpos:Pos):Prop where
 base:attributeBase o m X.env (eval o X.env)=eval o X.env
 few:((backTo cpos (starEach [e] X.env)).all (fun x=>!x.1)&&(backToKw cpos (keywordEach [] X.env)).all (fun x=>x.1.isSome)
  && decide (([e]:List Expr).length+([]:List Keyword).length+(if ([]:List Keyword).isEmpty then 0 else 1)<30))=true
 line:(apos.endLine == cpos.line)=true
 trees:backTo cpos (starEach [e] X.env)=[(false,eval e X.env)]
structure M2(X:Cx)(o:Expr)(m:Str)(apos:Pos)(e f:Expr)(cpos:Pos):Prop where
 base:attributeBase o m X.env (eval o X.env)=eval o X.env
 few:((backTo cpos (starEach [e,f] X.env)).all (fun x=>!x.1)&&(backToKw cpos (keywordEach [] X.env)).all (fun x=>x.1.isSome)
  && decide (([e,f]:List Expr).length+([]:List Keyword).length+(if ([]:List Keyword).isEmpty then 0 else 1)<30))=true
 line:(apos.endLine == cpos.line)=true
 trees:backTo cpos (starEach [e,f] X.env)=[(false,eval e X.env),(false,eval f X.env)]
def IsD(H:Hp)(a:Addr):Prop:=(∃kvs,Rd H a (.dK kvs))\/∃kvs,Rd H a (.dT kvs)
theorem xT{X:Cx}{pins:List (Addr×Obj)}{σ:St}{H:Hp}{s:Shared}{a:Addr}(I:Inv X pins σ H s)(d:IsD H a) :
  s.TypeIs (.ref a) "dict"/\(∀b,Value.ref a=.ref b->∃ob,s.heap.get? b=some ob/\ob.dict=none)/\(a == sysModules)=false:=by
 rcases d with⟨kvs,e⟩|⟨kvs,e⟩
 ·obtain⟨_,hd,vs,_,dd⟩:=nD I.hok e;refine⟨dd.typeIs,fun b q=>?_,hd⟩;cases q;obtain⟨ob,_,_,h1,h2,_⟩:=dd;exact⟨ob,h1,h2.2.1⟩
 ·obtain⟨_,hd,xs,_,dd⟩:=oM I.hok e;refine⟨dd.typeIs,fun b q=>?_,hd⟩;cases q;obtain⟨ob,_,_,h1,h2,_⟩:=dd;exact⟨ob,h1,h2.2.1⟩
section
variable{X:Cx}{pins:List (Addr×Obj)}{σ:St}{H:Hp}{s:Shared}{a:Addr}{y d:V}{u r:Value}{o:Option V}{A:Around}{E:Value->Shared->Prop}
theorem Dc{Q:Value->Shared->Prop}(hu:A.units+1<cLine)(I:Inv X pins σ H s)(g:DGet H a y o)(ry:cu y u)(rd:cu d r)(h:∀w' s',Inv X pins σ H s'->cu (o.getD d) w'->Q w' s') :
  wpAny (model X.prog X.w) A (call (.builtin "dict.get") [.ref a,u,r]) Q E s:=by
 rcases g with⟨kvs,k,e,ey,l⟩|⟨kvs,k,b,e,ey,eb,l⟩
 ·subst ey;obtain⟨z,hd,vs,rel,dd⟩:=nD I.hok e;refine call_meetsIn PySem.F.slot_dict_get dd.typeIs PySem.F.entry_dict_get (PySem.F.args_dict_get_3 _ _ _) (meets_dict_get_default (bY X.prog X.w) a (oy ry) hd r) ⟨_,dd.mapOf,h _ _ (I.tok _) ?_⟩;rw[l];exact(rel.val k).getD rd
 ·subst ey;cases (show u=Value.ref b from ry);obtain⟨z,hd,xs,rel,dd⟩:=oM I.hok e;refine call_meetsIn PySem.F.slot_dict_get dd.typeIs PySem.F.entry_dict_get (PySem.F.args_dict_get_3 _ _ _) (meetsH_dict_get_default (tupleKind (bY X.prog X.w)) a b hd r) ⟨tupleKind_room_in1 hu,k,xs,kK I.hok eb,dd,h _ _ (I.tok _) ?_⟩;rw[l];exact(rel.val k).getD rd
end
def xA(td ty tx:TE):TE:=fun σ H Q=>td σ H fun x H1=>∃a,x=.ref a/\IsD H1 a/\ty σ H1 fun y H2=>tx σ H2 fun z H3=>∃o,DGet H3 a y o/\Q (o.getD z) H3
def xw(td ty:TE):TE:=fun σ H Q=>td σ H fun x H1=>∃a,x=.ref a/\IsD H1 a/\ty σ H1 fun y H2=>∃kvs k v,H2 a=some (.dK kvs)/\y=kV k/\gC kvs k=some v/\Q v (upd H2 a (.dK (lV kvs k)))
section
variable{X:Cx}{o e f:Expr}{apos cpos:Pos}{td ty tx:TE}
theorem vQ(hu:X.A.units+1<cLine)(ho:PE X o td)(he:PE X e ty)(hf:PE X f tx)(m:M2 X o "get" apos e f cpos):PE X (.Call (.Attribute o "get" apos) [e,f] [] cpos) (xA td ty tx):=by
 intro pins s σ H Q I h;refine wpAny_Call_method m.base m.few m.line PySem.F.plainAttrs_dict PySem.F.slot_dict_get PySem.F.type_dict_get (thn (ho pins s σ H _ I h) fun u s1 hz=>?_);obtain⟨x,H1,I1,rx,a,ex,d,q1⟩:=hz;subst ex;obtain rfl:u=Value.ref a:=rx;obtain⟨t1,t2,_⟩:=xT I1 d;refine⟨t1,t2,?_⟩;rw[m.trees];refine Calls.callWith_builtin rfl (Calls.evalArgs_plain (Calls.spliced_cons (thn (he pins s1 σ H1 _ I1 q1) fun iv s2 ⟨y,H2,I2,ry,q2⟩=>
  Calls.spliced_cons (thn (hf pins s2 σ H2 _ I2 q2) fun fv s3 ⟨z,H3,I3,rz,ov,g,q3⟩=>Calls.spliced_nil ?_))))
 exact Dc hu I3 g ry rz fun w' s4 I4 rw'=>⟨_,H3,I4,rw',q3⟩
theorem vO(ho:PE X o td)(he:PE X e ty)(m:M1 X o "pop" apos e cpos):PE X (.Call (.Attribute o "pop" apos) [e] [] cpos) (xw td ty):=by
 intro pins s σ H Q I h;refine wpAny_Call_method m.base m.few m.line PySem.F.plainAttrs_dict PySem.F.slot_dict_pop PySem.F.type_dict_pop (thn (ho pins s σ H _ I h) fun u s1 hz=>?_);obtain⟨x,H1,I1,rx,a,ex,d,q1⟩:=hz;subst ex;obtain rfl:u=Value.ref a:=rx;obtain⟨t1,t2,_⟩:=xT I1 d;refine⟨t1,t2,?_⟩;rw[m.trees];refine Calls.callWith_builtin rfl (Calls.evalArgs_plain (Calls.spliced_cons (thn (he pins s1 σ H1 _ I1 q1) fun iv s2 ⟨y,H2,I2,ry,kvs,k,v,ea,ey,l,q2⟩=>Calls.spliced_nil ?_)));subst ey;exact FW I2 ea ry l (.inl rfl) fun w' s3 I3 rw'=>⟨v,_,I3,rw',q2⟩
end
end L2
namespace Att
open PySem PySem.W PySem.Calls PyProof.Rows
theorem jM{P:Params}{h:Heap}:∀(ns:List Int) (vs:List Value),WellAll P h vs (ns.map WData.int)->IntsAre vs ns:=by
 intro ns;induction ns with
 |nil=>
  intro vs w;rw[Qs]at w;cases w;exact .nil
 |cons n ns ih=>
  intro vs w;rw[QU]at w;cases w with
  |cons a b=>
   cases a;exact .cons _ _ (ih _ b)
theorem sy{l:OpenLaw}{n:Nat}(hn:l.most=some n){P:Params}{h:Heap}{args:List WData}{vals:List Value}
  (hpre:l.row.toRowW.claim.pre args=true) (hwl:WellAll P h vals args) :
  ∃a vs ns,vals=[Value.ref a]/\args=[WData.list (ns.map WData.int)]/\h.get? a=some { cls:=.type "list",data:=.seq vs.toArray }/\IntsAre vs ns/\ns.length<=n:=by
 have hsh:WShape.hasAll [] args [.list .int]=true:=(pre_splitW hpre).1;have hc:l.pre.holds [] { args:=args }=true:=(pre_splitW hpre).2;obtain⟨d,r,rfl,h1,h2⟩:=hasAllW_cons hsh;obtain rfl:=hasAllW_nil h2;obtain⟨xs,rfl,h3⟩:=hasW_list h1;obtain⟨ns,rfl⟩:=items_int h3;have hlen:ns.length<=n:=by
  unfold OpenLaw.pre at hc;have h4:(WTm.not (.lt (.lit (.int (n:Int))) (.len (.arg 0)))).holds [] { args:=[.list (ns.map .int)] }=true:=by
   have h4:=(holds_andW hc).1;rw[hn]at h4;exact h4
  have h5:=condW_of h4 (w_not (w_lt w_lit (w_len_list (w_arg rfl))));rw[QZ]at h5;refine Nat.le_of_not_lt fun q=>?_;have q':(n:Int)<((ns.length:Nat):Int):=by omega
  first
   |(rw[decide_eq_true q']at h5;exact absurd h5 (by decide))
   |(simp at h5;omega)
 cases hwl with
 |cons w1 w2=>
  cases w2;cases w1 with
  |list ho hall=>exact⟨_,_,ns,rfl,rfl,ho,jM ns _ hall,hlen⟩
theorem sJ(l:OpenLaw)(args:List WData):l.row.toRowW.claim.post args (.bool true) args=true:=
 postW_of (r:=l.row.toRowW) (X:=(true == true))
  (show WShape.has [] (.bool true) .bool=true by first|rfl|decide|simp[WShape.has,WShape.arms,WShape.armsAll])
  (show(WTm.eq .res (.lit (.bool true))).value [] { args:=args,res:=some (.bool true),after:=args }=some (.bool (true == true))from w_eq_bool (w_res rfl) w_lit) rfl
theorem attach_call{l:OpenLaw}{n:Nat}{q:Program}{dw:List Str}{XP:(Str->Option Value)->Heap->Prop}{YP:World->Heap->Prop}{d:DefRec}
  (hn:l.most=some n) (hdf:d.params.defaults=[])
  (call:∀(w:World) (s₀ s₁:Shared) (mg mb:Str->Option Value) (fa:Addr) (o:Obj) (pm cd doc:Value) (a:Addr) (vs:List Value) (ns:List Int),
   Ground q dw [] XP w s₀ mg mb s₁.heap->YP w s₁.heap->
   s₁.heap.get? fa=some o->o.data=.func (docDef d.name d.params d.body d.scope pm cd doc)->s₁.heap.CodeRec cd d.name->mg d.name=some (.ref fa)->
   s₁.heap.get? a=some { cls:=.type "list",data:=.seq vs.toArray }->IntsAre vs ns->ns.length<=n->s₁.gens=#[]->
   codeAny (model l.prog w) callerA (.call (.ref fa) ⟨[.ref a],[]⟩) (fun r s'=>r=.ok (.ret (.bool true))/\OldK s₁.heap s'.heap/\s'.os=s₁.os/\AllBare s'.gens) s₁) :
  WalkO q dw XP YP l.row.toRowW d [] (fun f vs=>PySem.call f vs):=by
 intro w s₀ s₁ mg mb G Y fa o pm cd doc dV kV ho hd hcd hD hmg hg args vals as hpre hlay hrd hwl hlo;obtain rfl:dV=.none:=Dflts.none hD hdf;obtain rfl:kV=.none:=Dflts.noKw hD;obtain⟨a,vs,ns,rfl,rfl,hobj,hints,hlen⟩:=sy hn hpre hwl;refine enter_call (codeAny_mono (call w s₀ s₁ mg mb fa o pm cd doc a vs ns G Y ho (fd_plain hd) hcd hmg hobj hints hlen hg) fun r s' hq=>?_);obtain⟨rfl,h2,h3,h4⟩:=hq;exact⟨.inl ⟨.bool true,.bool true,[],rfl,fun _=>rfl,.bool true,sJ l _,fun _=>⟨List.Pairwise.nil,fun _ hm=>(nomatch hm)⟩⟩,h2,h3,h4⟩
end Att
namespace L2
open PySem PySem.Spec PyProof.Rows
theorem fR:∀{vs:List Value} {ns:List Int},IntsAre vs ns->bK (ns.map V.int) vs
 |_,_,.nil=>.nil
 |_,_,.cons n t h=>.cons ⟨t,rfl⟩ (fR h)
def bO(s:Stmt)(j:Nat):Stmt:=match s with
 |.ClassDef _ _ _ body _ _ _ _ _ _ _=>body.getD j (.Pass ⟨0,0,0,0⟩)
 |_=>.Pass ⟨0,0,0,0⟩
def hU(s:Stmt):Arguments:=match s with
 |.FunctionDef _ a _ _ _ _ _ _ _ _=>a
 |_=>{ posonlyargs:=[],args:=[],vararg:=none,kwonlyargs:=[],kw_defaults:=[],kwarg:=none,defaults:=[] }
def cU(s:Stmt):List Stmt:=match s with
 |.FunctionDef _ _ b _ _ _ _ _ _ _=>b
 |_=>[]
def aw(s:Stmt):Scope:=match s with
 |.FunctionDef _ _ _ _ _ _ sc _ _ _=>sc
 |_=>{ kind:=.function,names:=[],isGenerator:=false,isCoroutine:=false }
abbrev CX0:CXT:=fun _ _ _ _ _ _=>False
abbrev E0:XK:=fun _ _ _=>False
def vS{X:Cx}:gQ CX0 X E0:=fun _ _ _ _ _ _ _ h=>h.elim
structure Fun(K:Q1)(x qual:Str)(st:Stmt)(f:Addr)(fd:FuncData):Prop where
 ex:∃(oc:Value) (od:Option Addr) (kV doc pm:Value) (an:Option Addr) (cdv ct:Value) (osl:Array (Option Value)),
  fd=PySem.W.fnOf x qual (hU st) (cU st) (aw st) .none kV doc pm an cdv ct/\K.lookup f=some ⟨oc,od,.func fd,osl⟩/\PySem.W.codeIn K cdv qual=true
 kp:PySem.W.keepIn K (.ref f)=true
section
variable{P:Program}{w:World}{K:Q1}{mg:Str->Option Value}{base:Heap}
theorem Fun.ok{x qual:Str}{st:Stmt}{f:Addr}{fd:FuncData}{N ps:List Str}{k:Nat}{sp:Sp}(F:Fun K x qual st f fd)(S:aQ N ps (aw st))(len:∀vs H Q E,sp vs H Q E->vs.length=ps.length)
  (hbody:∀(cdv:Value) (A:Around) (outer:List Env) (s:Shared) (H:Hp) (vs:List V) (Q:VK) (E:XK),eU k (A.deeper (envOfC qual (aw st) s.heap.objs.size f cdv))->sp vs H Q E->
   ∃t,PSs (nW CX0 P w K mg base N qual (aw st) f cdv A outer s H E).nox (cU st) t/\t { nx:=fun _ H'=>Q .non H',rt:=Q } (ic N vs) H):je P w K mg base CX0 (k+1) f fd ps sp:=by
 obtain⟨oc,od,kV,doc,pm,an,cdv,ct,osl,rfl,lk,hcd⟩:=F.ex;refine C4 lk hcd S len fun A outer s H vs Q E hr hsp=>?_;obtain⟨t,h,q⟩:=hbody cdv A outer s H vs Q E hr hsp;exact⟨t,h.nox,q⟩
theorem Fun.binds{x qual:Str}{st:Stmt}{f:Addr}{fd:FuncData}{ps:List Str}(F:Fun K x qual st f fd)
  (h:∀(kV doc pm:Value) (an:Option Addr) (cdv ct:Value) (us:List Value),us.length=ps.length->bindArgs (PySem.W.fnOf x qual (hU st) (cU st) (aw st) .none kV doc pm an cdv ct) ⟨us,[]⟩=pure (ps.zip us)):fP K fd ps []:=by
 obtain⟨oc,od,kV,doc,pm,an,cdv,ct,osl,rfl,lk,hcd⟩:=F.ex;exact .all (h kV doc pm an cdv ct)
theorem xW{x qual:Str}{st:Stmt}{f:Addr}{oc:Value}{od an:Option Addr}{osl:Array (Option Value)}{kV doc pm cdv ct:Value}(l:K.lookup f=some ⟨oc,od,.func (PySem.W.fnOf x qual (hU st) (cU st) (aw st) .none kV doc pm an cdv ct),osl⟩)
  (c:PySem.W.codeIn K cdv qual=true) (k:PySem.W.keepIn K (.ref f)=true):Fun K x qual st f (PySem.W.fnOf x qual (hU st) (cU st) (aw st) .none kV doc pm an cdv ct):=⟨⟨oc,od,kV,doc,pm,an,cdv,ct,osl,rfl,l,c⟩,k⟩
end
theorem dC{A:Around}{k:Nat}(hr:eU k A):A.units+1<cLine:=Nat.lt_of_le_of_lt (Nat.add_le_add_left (by decide:1<=64) _) hr.units
def sx{n:Nat}(h:n<=1000):n<sizeLine:=Nat.lt_of_le_of_lt h (by decide)
section
variable{X:Cx}
theorem pv(i:Nat){x:Str}{pos:Pos}(hN:X.N[i]?=some x:=by rfl)(hv:Vis X.env.scope x:=by first|exact Or.inl rfl|exact Or.inr (Or.inl rfl)|exact Or.inr (Or.inr rfl))(hd:(x == ("__debug__":Str))=false:=by decide)
  (hcd:(x == ("__classdict__":Str))=false:=by decide):PE X (.Name x pos) (DD i):=Ca hN hv hd hcd
theorem ux:gv X (.builtin "len") (fun xs H Q=>∃a kvs,xs=[V.ref a]/\H a=some (.dK kvs)/\Q (.int kvs.length) H):=by
 intro pins s σ H xs us Q I r h;obtain⟨a,kvs,rfl,ha,q⟩:=h;obtain⟨u,rfl,ru⟩:=n5 r;cases ru;exact FX I (.inl ha) fun t s' I'=>⟨.int kvs.length,H,I',⟨t,rfl⟩,q⟩
end
theorem DR{A B:Prop}(h:B):if false=true then A else B:=by
 rw[if_neg Q7];exact h
theorem DQ{A B:Prop}(h:A):if true=true then A else B:=by
 rw[if_pos rfl];exact h
def yg(H H':Hp):Prop:=∀b o,H b=some o->H' b=some o
def yg.refl(H:Hp):yg H H:=fun _ _ h=>h
end L2
namespace OG
open PySem PySem.Spec PyProof.Rows L2
structure WE(X:Cx)(e:Expr)(t:TE):Prop where
 h:PE X e t
structure WT(X:Cx)(e:Expr)(t:TT):Prop where
 h:PT X e t
structure WW(X:Cx)(e:Expr)(t:TT):Prop where
 h:PW X e t
structure WA(X:Cx)(es:List Expr)(t:TA):Prop where
 h:PA X es t
structure WS(X:Cx)(st:Stmt)(t:TS):Prop where
 h:PS X st t
structure WSs(X:Cx)(st:List Stmt)(t:TS):Prop where
 h:PSs X st t
structure WI(X:Cx)(tg iter:Expr)(wi:TI):Prop where
 h:PI X tg iter wi
structure WG(X:Cx)(target:Expr)(t:TG):Prop where
 h:PG X target t
structure WGs(X:Cx)(ts:List Expr)(t:TGs):Prop where
 h:PGs X ts t
structure WC(X:Cx)(op:CmpOp)(a b:Expr)(t:TE):Prop where
 h:PC X op a b t
structure WO(X:Cx)(e:Option Expr)(t:TO):Prop where
 h:PO X e t
section
variable{X:Cx}
def aB{i j pos}:WE X (.Constant (.int i) j pos) (tC (.int i)):=⟨Ci ⟩
def i7{b j pos}:WE X (.Constant (.bool b) j pos) (tC (.bl b)):=⟨Fp ⟩
def iN{j pos}:WE X (.Constant .none j pos) (tC .non):=⟨Ce ⟩
def aT{x j pos}:WE X (.Constant (.str x) j pos) (tC (.str x)):=⟨Cc ⟩
end
section
variable{X:Cx}
variable{a b:Expr}{pos:Pos}
theorem rH{op:CmpOp}{t:TE}(h:WC X op a b t)(h1:behindInMarks op b=false:=by first|exact nobehind _ (by decide) (by decide)|rfl):WT X (.Compare a [op] [b] pos) (tB t):=⟨B0 h.h h1⟩
end
section
variable{X:Cx}
variable{pos:Pos}
theorem yH{e:Expr}{t:TE}(h:WE X e t)(he:∀whole,isTrue e X.env whole=(do let v <-whole;standAt e.pos;holding [v] (truthy v)):=by intro _;rfl):WT X e (tB t):=⟨BY h.h he⟩
end
section
variable{X:Cx}
variable{a:Expr}{pos:Pos}
variable{tA:TT}
def u3(ha:WT X a tA):WW X (.BoolOp .And [a] pos) tA:=⟨zo ha.h⟩
def yF(ha:WT X a tA):WW X (.BoolOp .Or [a] pos) tA:=⟨BW ha.h⟩
end
section
variable{X:Cx}
variable{a b:Expr}{pos:Pos}
variable{tA tB':TT}{rest:List Expr}
theorem yG(ha:WT X a tA)(hb:WW X (.BoolOp .And (b::rest) pos) tB'):WW X (.BoolOp .And (a::b::rest) pos) (Gm tA tB'):=⟨BX ha.h hb.h⟩
theorem Bt(ha:WT X a tA)(hb:WW X (.BoolOp .Or (b::rest) pos) tB'):WW X (.BoolOp .Or (a::b::rest) pos) (tOr tA tB'):=⟨Ff ha.h hb.h⟩
end
section
variable{X:Cx}
variable{a:Expr}{pos:Pos}
variable{tA:TT}
def yI(ha:WT X a tA):WT X (.UnaryOp .Not a pos) (Gg tA):=⟨BZ ha.h⟩
end
section
variable{X:Cx}
variable{a:Expr}{pos:Pos}
def yQ{op}{t:TE}(h:WE X a t):WE X (.BoolOp op [a] pos) t:=⟨Cd h.h⟩
end
section
variable{X:Cx}
variable{a b:Expr}{ta tb:TE}{pos:Pos}
variable{rest:List Expr}
theorem Bv(ha:WE X a ta)(hb:WE X (.BoolOp .Or (b::rest) pos) tb):WE X (.BoolOp .Or (a::b::rest) pos) (Gf ta tb):=⟨Fi ha.h hb.h⟩
end
section
variable{X:Cx}
def u9 :WSs X [] BE:=⟨zu ⟩
end
section
variable{X:Cx}{st:Stmt}{rest:List Stmt}{t u:TS}
def rJ(h1:WS X st t)(h2:WSs X rest u):WSs X (st::rest) (Gd t u):=⟨vH h1.h h2.h⟩
end
section
variable{X:Cx}{st:Stmt}{t:TS}
def u6(h1:WS X st t):WSs X [st] t:=⟨zr h1.h⟩
end
section
variable{X:Cx}{e:Expr}{te:TE}{pos:Pos}
theorem va(he:WE X e te)(hs:swapsWith e none pos.line X.env=pure false:=by rfl):WS X (.Expr e pos) (BF te):=⟨zv he.h hs⟩
def yK(he:WE X e te):WS X (.Return (some e) pos) (Ge te):=⟨B2 he.h⟩
end
section
variable{X:Cx}{t u:TS}{pos:Pos}
theorem Bu{c:Expr}{a b:List Stmt}{tc:TT}(hc:WT X c tc)(ha:WSs X a t)(hb:WSs X b u):WS X (.If c a b pos) (Gi tc t u):=⟨Fg hc.h ha.h hb.h⟩
end
section
variable{X:Cx}{st:Stmt}
def rK :WS X st xv:=⟨vI ⟩
end
section
variable{X:Cx}{pos:Pos}
theorem bA{i:Nat}{x:Str}(hN:X.N.Nodup)(hi:X.N[i]?=some x)(hx:Loc X.env.scope x)(hf:X.fn x=true\/X.env.scope.names.lookup x=some .local:=by first|exact .inl rfl|exact .inr rfl|assumption):WG X (.Name x pos) (qX i):=⟨zD hN hi hx hf⟩
end
section
variable{X:Cx}
def vi :WGs X [] GK:=⟨zC ⟩
theorem rN{e:Expr}{es:List Expr}{t:TG}{u:TGs}(h1:WG X e t)(h2:WGs X es u)(hs:(assignEach (e::es) X.env).map (·.2)=assign e X.env::(assignEach es X.env).map (·.2):=by rfl):WGs X (e::es) (C3 t u):=⟨vL h1.h h2.h hs⟩
end
section
variable{X:Cx}{pos:Pos}
theorem yN{es:List Expr}{k:Nat}{t:TGs}{n:Nat}(hc:X.calm=true)(h:WGs X es t)(hn:(assignEach es X.env).length=n:=by rfl)(hst:(assignEach es X.env).findIdx? (·.1)=none:=by rfl):WG X (.Tuple es k pos) (GI X.K n t):=⟨B7 hc h.h hn hst⟩
theorem yO {o i : Expr} {to ti : TE} {t : DW} (ho : WE X o to) (hi : WE X i ti) (hs : F9 X t) (ha : ∀ v, assign (.Subscript o i pos) X.env v = (do
   let ov <-holding [v] (eval o X.env)
   let iv <-holding [v,ov] (eval i X.env)
   standAt pos
   holding [v,ov,iv] (setItem ov iv v)
   release [v,ov,iv] []):=by intro _;rfl):WG X (.Subscript o i pos) (GJ to ti t):=⟨B9 ho.h hi.h hs ha⟩
theorem rM{tg e:Expr}{te:TE}{g:TG}(he:WE X e te)(hg:WG X tg g)(hs:swapsWithSole [tg] e pos.line X.env=pure false:=by rfl)(hw:swappedStores [tg] e X.env=pure none:=by rfl)(h1:(assignEach [tg] X.env).map (·.2)=[assign tg X.env]:=by rfl):WS X (.Assign [tg] e pos) (BJ te g):=⟨B5 he.h hg.h hs hw h1⟩
theorem yJ{i:Nat}{x:Str}{e:Expr}{te:TE}{pos':Pos}(hN:X.N.Nodup)(hi:X.N[i]?=some x)(hx:Loc X.env.scope x)(he:WE X e te)(hs:swapsWith e (some (.Name x pos')) pos.line X.env=pure false:=by rfl)(hf:X.fn x=true\/X.env.scope.names.lookup x=some .local:=by first|exact .inl rfl|exact .inr rfl|assumption):WS X (.Assign [.Name x pos'] e pos) (BJ te (qX i)):=⟨B1 hN hi hx he.h hs hf⟩
end
section
variable{X:Cx}{tg:Expr}
def vh{l:Expr}{tl:TE}(hl:WE X l tl):WI X tg l (C2 X.K tl):=⟨zB hl.h⟩
def yM{l:Expr}{tl:TE}(hl:WE X l tl):WI X tg l (GH X.K tl):=⟨B6 hl.h⟩
theorem qC{a:Expr}{ta:TA}{p pos:Pos}(hg:Gl X "range")(hm:X.mg "range"=none)(ha:WA X [a] ta)(hs:starEach [a] X.env=[(false,eval a X.env)]:=by rfl):WI X tg (.Call (.Name "range" p) [a] [] pos) (C1 ta):=⟨sM hg hm ha.h hs⟩
theorem rL{iter:Expr}{body:List Stmt}{wi:TI}{g:TG}{tb:TS}{pos:Pos}(hp:PassesOwn (model X.prog X.w) X.A X.env X.xe)(hc:X.calm=true)(hi:WI X tg iter wi)(hg:WG X tg g)(hb:WSs X body tb)(hs:∀x,foldedSetIterable iter X.env x=pure x:=by intro _;rfl):WS X (.For tg iter body [] pos) (DH wi g tb):=⟨B3 hp hc hi.h hg.h hb.h hs⟩
end
section
variable{X:Cx}{a b:Expr}{ta tb:TE}{pos:Pos}
theorem Bw{op:Operator}{r:R2}(ho:OpR X (binaryOp op) r)(ha:WE X a ta)(hb:WE X b tb):WE X (.BinOp a op b pos) (tOp r ta tb):=⟨Fj ho ha.h hb.h⟩
theorem vn{op:CmpOp}{r:R2}(ho:OpR X (compareOp op) r)(ha:WE X a ta)(hb:WE X b tb)(hm:behindInMarks op b=false):WE X (.Compare a [op] [b] pos) (tOp r ta tb):=⟨zH ho ha.h hb.h hm⟩
theorem kW{op:CmpOp}{r:R2}(ho:OpR X (compareOp op) r)(ha:WE X a ta)(hb:WE X b tb)(hm:behindInMarks op b=false):WT X (.Compare a [op] [b] pos) (BC (tOp r ta tb)):=⟨zq ho ha.h hb.h hm⟩
end
section
variable{X:Cx}{e:Expr}{f:Str}{pos:Pos}{ta:TE}
theorem yS(he:WE X e ta)(hb:attributeBase e f X.env (eval e X.env)=eval e X.env):WE X (.Attribute e f pos) (Gj X.K ta f):=⟨Cj he.h hb⟩
end
section
variable{X:Cx}{o value:Expr}{f:Str}{pos pos':Pos}{ta tv:TE}
theorem yL(ha:WE X o ta)(hv:WE X value tv)(hs:swapsWith value (some (.Attribute o f pos')) pos.line X.env=pure false):WS X (.Assign [.Attribute o f pos'] value pos) (Gp X.K ta tv f):=⟨B4 ha.h hv.h hs⟩
end
section
variable{X:Cx}
def yV :WA X [] DG:=⟨Cn ⟩
end
section
variable{X:Cx}{e:Expr}{es:List Expr}{te:TE}{t:TA}
theorem vo(ha:WE X e te)(hr:WA X es t)(hs:starEach (e::es) X.env=(false,eval e X.env)::starEach es X.env:=by rfl):WA X (e::es) (BH te t):=⟨zK ha.h hr.h hs⟩
end
section
variable{X:Cx}{es:List Expr}{t:TA}{pos:Pos}
def yP{x1}(h:WA X es t):WE X (.Tuple es x1 pos) (Gb t):=⟨Cb h.h⟩
def yR(h:WA X es t):WE X (.List es pos) (Gh t):=⟨Cg h.h⟩
end
section
variable{X:Cx}{CX:CXT}{k:Nat}{f C:Addr}{fd:FuncData}{ps:List Str}{sp:Sp}{dvs:List V}{ds:List Value}{E:XK}{m:Str}{pos apos:Pos}{e o:Expr}{es:List Expr}{ta:TE}{t:TA}
theorem vj {pl : Sem Bool} (he : WE X o ta) (c : Cls X.K C) (hm : AG X.K C m f) (F : je X.prog X.w X.K X.mg X.base CX k f fd ps sp) (hr : eU k X.A) (hb : fP X.K fd ps ds) (hd : bK dvs ds) (hx : gQ CX X E) (ha : WA X (e :: es) t) (hst : starEach (e :: es) X.env = (false, eval e X.env) :: starEach es X.env := by rfl) (hpl : (backTo pos (starEach es X.env)).any (·.1) = false := by rfl) (ht : eval (.Call (.Attribute o m apos) (e :: es) [] pos) X.env = (do
   let ov <-eval o X.env
   standAt apos.atName
   let (f,first) <-holding [ov] (getMethod ov m pl)
   callWith pos f first (backTo pos (starEach (e::es) X.env)) (backToKw pos (keywordEach [] X.env))):=by rfl):WE X (.Call (.Attribute o m apos) (e::es) [] pos) (si C m sp dvs E ta t):=⟨zE he.h c hm F hr hb hd hx ha.h hst hpl ht⟩
end
section
variable{X:Cx}{CX:CXT}{k:Nat}{f C:Addr}{fd:FuncData}{ps:List Str}{sp:Sp}{dvs:List V}{ds:List Value}{E:XK}{m:Str}{pos apos:Pos}{o:Expr}{ta:TE}
theorem rP {pl : Sem Bool} (he : WE X o ta) (c : Cls X.K C) (hm : AG X.K C m f) (F : je X.prog X.w X.K X.mg X.base CX k f fd ps sp) (hr : eU k X.A) (hb : fP X.K fd ps ds) (hd : bK dvs ds) (hx : gQ CX X E) (ht : eval (.Call (.Attribute o m apos) [] [] pos) X.env = (do
   let ov <-eval o X.env
   standAt apos.atName
   let (f,first) <-holding [ov] (getMethod ov m pl)
   callWith pos f first (backTo pos (starEach [] X.env)) (backToKw pos (keywordEach [] X.env))):=by rfl):WE X (.Call (.Attribute o m apos) [] [] pos) (si C m sp dvs E ta DG):=⟨vN he.h c hm F hr hb hd hx ht⟩
end
section
variable{X:Cx}{CX:CXT}{k:Nat}{f C:Addr}{fd:FuncData}{ps:List Str}{sp:Sp}{dvs:List V}{ds:List Value}{E:XK}{x:Str}{p pos:Pos}{e:Expr}{es:List Expr}{t:TA}
theorem vk(M:Mk X.K C f)(F:je X.prog X.w X.K X.mg X.base CX k f fd ps sp)(hr:eU (k+1) X.A)(hg:Gl X x)(hm:X.mg x=some (.ref C))(hb:fP X.K fd ps ds)(hd:bK dvs ds)(hx:gQ CX X E)(ha:WA X (e::es) t)(hdb:(x == ("__debug__":Str))=false:=by decide)(he:starEach (e::es) X.env=(false,eval e X.env)::starEach es X.env:=by rfl)(hpl:(backTo pos (starEach es X.env)).any (·.1)=false:=by rfl):WE X (.Call (.Name x p) (e::es) [] pos) (y4 C sp dvs E t):=⟨zF M F hr hg hm hb hd hx ha.h hdb he hpl⟩
end
section
variable{X:Cx}{x:Str}{p pos:Pos}{e:Expr}{es:List Expr}{t:TA}{id:String}{r:List V->Hp->VK->Prop}
theorem rV(hc:gv X (.builtin id) r)(hg:Gl X x)(hm:X.mg x=none)(hv:bootBuiltins x=some (.builtin id))(ha:WA X (e::es) t)(hn:x≠"__name__":=by decide)(hdb:(x == ("__debug__":Str))=false:=by decide)(he:starEach (e::es) X.env=(false,eval e X.env)::starEach es X.env:=by rfl)(hpl:(backTo pos (starEach es X.env)).any (·.1)=false:=by rfl):WE X (.Call (.Name x p) (e::es) [] pos) (tCB r t):=⟨vR hc hg hm hv ha.h hn hdb he hpl⟩
end
section
variable{X:Cx}{x:Str}{p pos:Pos}{e:Expr}{es:List Expr}{t:TA}{T:String}{r:List V->Hp->VK->Prop}
theorem qD(hc:gv X (.type T) r)(hg:Gl X x)(hm:X.mg x=none)(hv:bootBuiltins x=some (.type T))(ha:WA X (e::es) t)(hn:x≠"__name__":=by decide)(hdb:(x == ("__debug__":Str))=false:=by decide)(he:starEach (e::es) X.env=(false,eval e X.env)::starEach es X.env:=by rfl)(hpl:(backTo pos (starEach es X.env)).any (·.1)=false:=by rfl):WE X (.Call (.Name x p) (e::es) [] pos) (tCB r t):=⟨sP hc hg hm hv ha.h hn hdb he hpl⟩
end
section
variable{X:Cx}
def vg :WO X none sh:=⟨zA ⟩
end
section
variable{X:Cx}{e:Expr}{te:TE}
def ve(h:WE X e te):WO X (some e) (BD te):=⟨zy h.h⟩
end
section
variable{X:Cx}{e:Expr}{te:TE}{lo hi:Option Expr}{tl th:TO}{pos p2:Pos}
theorem rO{r:V->Option Int->Option Int->Hp->VK->Prop}(hr:SlR X r)(he:WE X e te)(hl:WO X lo tl)(hu:WO X hi th):WE X (.Subscript e (.Slice lo hi none p2) pos) (tSl r te tl th):=⟨vM hr he.h hl.h hu.h⟩
end
section
variable{X:Cx}{a b:Expr}{ta tb:TE}{pos:Pos}
theorem Bx{r:R2}(hr:IxR X r)(ha:WE X a ta)(hb:WE X b tb)(hs:oS b):WE X (.Subscript a b pos) (tOp r ta tb):=⟨Fl hr ha.h hb.h hs⟩
end
section
variable{X:Cx}
variable{o:Expr}{to:TE}{name:Str}{apos cpos:Pos}{T id:String}{r:V->List V->Hp->VK->Prop}
theorem yT(pa:PlainAttrs T)(slot:Slot T name id)(hty:typeOf (.builtin id)=pure (.type "method_descriptor"))(hm:MtR X id r)(ho:WE X o to)(hbase:attributeBase o name X.env (eval o X.env)=eval o X.env:=by rfl)(hline:(apos.endLine == cpos.line)=true:=by rfl):WE X (.Call (.Attribute o name apos) [] [] cpos) (Gk X.K T r to):=⟨Ck pa slot hty hm ho.h hbase hline⟩
end
section
variable{X:Cx}
variable{o e:Expr}{es:List Expr}{to:TE}{t:TA}{name:Str}{apos cpos:Pos}{T id:String}{r:V->List V->Hp->VK->Prop}
theorem xq (pa : PlainAttrs T) (slot : Slot T name id) (hty : typeOf (.builtin id) = pure (.type "method_descriptor")) (hm : MtR X id r) (ho : WE X o to) (ha : WA X (e :: es) t) (hbase : attributeBase o name X.env (eval o X.env) = eval o X.env := by rfl) (hfew : ((backTo cpos (starEach (e :: es) X.env)).all (fun x => !x.1) && (backToKw cpos (keywordEach [] X.env)).all (fun x => x.1.isSome)
   && decide ((e::es).length+([]:List Keyword).length+(if ([]:List Keyword).isEmpty then 0 else 1)<30))=true:=by rfl) (hline:(apos.endLine == cpos.line)=true:=by rfl) (hs:starEach (e::es) X.env=(false,eval e X.env)::starEach es X.env:=by rfl) (hplain:(backTo cpos (starEach es X.env)).any (·.1)=false:=by rfl):WE X (.Call (.Attribute o name apos) (e::es) [] cpos) (tBM X.K T r to t):=⟨Fo pa slot hty hm ho.h ha.h hbase hfew hline hs hplain⟩
end
section
variable{X:Cx}{o i:Expr}{pos:Pos}{td ty:TE}
theorem vm(hu:X.A.units+1<cLine)(ho:WE X o td)(hi:WE X i ty)(hs:DX i):WE X (.Subscript o i pos) (BG td ty):=⟨zG hu ho.h hi.h hs⟩
end
section
variable{X:Cx}{o i:Expr}{td ty:TE}
def yU(hu:X.A.units+1<cLine)(hi:WE X i ty)(ho:WE X o td):WC X .In i o (E3 ty td):=⟨Cm hu hi.h ho.h⟩
def qE(hu:X.A.units+1<cLine)(hi:WE X i ty)(ho:WE X o td):WC X .NotIn i o (oh ty td):=⟨sQ hu hi.h ho.h⟩
end
section
variable{X:Cx}{o i value:Expr}{pos pos':Pos}{td ty tv:TE}
theorem vb(hu:X.A.units+1<cLine)(ho:WE X o td)(hi:WE X i ty)(hv:WE X value tv)(hs:swapsWith value (some (.Subscript o i pos')) pos.line X.env=pure false):WS X (.Assign [.Subscript o i pos'] value pos) (BM td ty tv):=⟨zw hu ho.h hi.h hv.h hs⟩
end
section
variable{X:Cx}{pos:Pos}
def rR :WE X (.Dict [] [] pos) xy:=⟨vP ⟩
end
section
variable{X:Cx}{o e f:Expr}{apos cpos:Pos}{td ty tx:TE}
theorem rS(hu:X.A.units+1<cLine)(ho:WE X o td)(he:WE X e ty)(hf:WE X f tx)(m:M2 X o "get" apos e f cpos):WE X (.Call (.Attribute o "get" apos) [e,f] [] cpos) (xA td ty tx):=⟨vQ hu ho.h he.h hf.h m⟩
end
section
variable{X:Cx}{o e:Expr}{apos cpos:Pos}{td ty:TE}
theorem rQ(ho:WE X o td)(he:WE X e ty)(m:M1 X o "pop" apos e cpos):WE X (.Call (.Attribute o "pop" apos) [e] [] cpos) (xw td ty):=⟨vO ho.h he.h m⟩
end
section
variable{X:Cx}
theorem wpv(i:Nat){x:Str}{pos:Pos}(hN:X.N[i]?=some x:=by rfl)(hv:Vis X.env.scope x:=by first|exact Or.inl rfl|exact Or.inr (Or.inl rfl)|exact Or.inr (Or.inr rfl))(hd:(x == ("__debug__":Str))=false:=by decide)(hcd:(x == ("__classdict__":Str))=false:=by decide):WE X (.Name x pos) (DD i):=⟨pv i hN hv hd hcd⟩
end
def WW.pt{X:Cx}{e:Expr}{t:TT}(h:WW X e t):WT X e t:=⟨h.h.pt⟩
section
variable{X:Cx}
def rp(i j:Int):Prop:=0<j/\j.natAbs.log2<9000
theorem lu:OpR X (binaryOp .FloorDiv) (rI rp fun i j=>.int (i / j)):=opI fun i j _ _ _ _ _ hc q=>by
 refine PyProof.Rows.floordiv_int (by have:=hc.1;omega) ?_ (.inl (PyProof.noPylong_of_log2 hc.2));rw[Int.fdiv_eq_ediv_of_nonneg i (Int.le_of_lt hc.1)];exact q
end
def gw{H:Hp}{p:Addr}(h:H p=none)(o:HO):yg H (upd H p o):=fun b u q=>by rw[aK (cV q h)];exact q
def Def(K:Q1)(mg:Str->Option Value)(x:Str)(st:Stmt)(ps:List Str):Prop:=
 ∃f fd,Fun K x x st f fd/\fP K fd ps []/\mg x=some (.ref f)
def Has(P:Program)(w:World)(K:Q1)(mg:Str->Option Value)(base:Heap)(x:Str)(k:Nat)(ps:List Str)(sp:Sp):Prop:=
 ∃f fd,je P w K mg base CX0 k f fd ps sp/\fP K fd ps []/\PySem.W.keepIn K (.ref f)=true/\mg x=some (.ref f)
section
variable{P:Program}{w:World}{K:Q1}{mg:Str->Option Value}{base:Heap}{x:Str}{st:Stmt}{ps N:List Str}{k j:Nat}{sp:Sp}
theorem Has.mono(h:Has P w K mg base x j ps sp)(l:j<=k):Has P w K mg base x k ps sp:=by
 obtain⟨f,fd,a,b,c,d⟩:=h;exact⟨f,fd,a.mono l,b,c,d⟩
theorem Def.has(d:Def K mg x st ps)(S:aQ N ps (aw st))(len:∀vs H Q E,sp vs H Q E->vs.length=ps.length)
  (hbody:∀(f:Addr) (cdv:Value) (A:Around) (outer:List Env) (s:Shared) (H:Hp) (vs:List V) (Q:VK) (E:XK),eU k (A.deeper (envOfC x (aw st) s.heap.objs.size f cdv))->sp vs H Q E->
   ∃t,WSs (nW CX0 P w K mg base N x (aw st) f cdv A outer s H E).nox (cU st) t/\t { nx:=fun _ H'=>Q .non H',rt:=Q } (ic N vs) H):Has P w K mg base x (k+1) ps sp:=by
 obtain⟨f,fd,F,b,m⟩:=d;exact⟨f,fd,F.ok S len (fun cdv A outer s H vs Q E hr h=>let ⟨t,a,b⟩:=hbody f cdv A outer s H vs Q E hr h;⟨t,a.h,b⟩),b,F.kp,m⟩
end
theorem By{X:Cx}{k:Nat}{ps:List Str}{sp:Sp}{x:Str}{p pos:Pos}{e:Expr}{es:List Expr}{t:TA}(F:Has X.prog X.w X.K X.mg X.base x k ps sp)(hr:eU k X.A)(hg:Gl X x)
  (ha:WA X (e::es) t) (hdb:(x == ("__debug__":Str))=false:=by decide) (he:starEach (e::es) X.env=(false,eval e X.env)::starEach es X.env:=by rfl) (hpl:(backTo pos (starEach es X.env)).any (·.1)=false:=by rfl) :
  WE X (.Call (.Name x p) (e::es) [] pos) (BI sp [] E0 t):=by
 obtain⟨f,fd,a,b,c,d⟩:=F;exact⟨zI a hr hg d c b .nil vS ha.h hdb he hpl⟩
structure Blt(mg:Str->Option Value):Prop where
 len:mg "len"=none
 isinstance:mg "isinstance"=none
 int:mg "int"=none
 bool:mg "bool"=none
 str:mg "str"=none
 tuple:mg "tuple"=none
 list:mg "list"=none
 range:mg "range"=none
 min:mg "min"=none
 sum:mg "sum"=none
 all:mg "all"=none
 zip:mg "zip"=none
 sorted:mg "sorted"=none
 dict:mg "dict"=none
 enumerate:mg "enumerate"=none
 any:mg "any"=none
 max:mg "max"=none
 set:mg "set"=none
def mz{n:Nat}(h:n<=1000):n<=sizeLine:=Nat.le_of_lt (sx h)
theorem qT{n:Nat}(h:n<2^60):n.log2<1920:=by
 by_cases e:n=0
 ·subst e;decide
 ·have:=(Nat.log2_lt e).mpr h;omega
def kO:bootBuiltins "tuple"=some (.type "tuple"):=rfl
def nL:bootBuiltins "list"=some (.type "list"):=rfl
def qu:bootBuiltins "any"=some (.builtin "any"):=rfl
def jV:bootBuiltins "sorted"=some (.builtin "sorted"):=rfl
theorem Fun.okW{P:Program}{w:World}{K:Q1}{mg:Str->Option Value}{base:Heap}{x qual:Str}{st:Stmt}{f:Addr}{fd:FuncData}{N ps:List Str}{k:Nat}{sp:Sp}(F:Fun K x qual st f fd)(S:aQ N ps (aw st))(len:∀vs H Q E,sp vs H Q E->vs.length=ps.length)
  (hbody:∀(cdv:Value) (A:Around) (outer:List Env) (s:Shared) (H:Hp) (vs:List V) (Q:VK) (E:XK),eU k (A.deeper (envOfC qual (aw st) s.heap.objs.size f cdv))->sp vs H Q E->
   ∃t,WSs (nW CX0 P w K mg base N qual (aw st) f cdv A outer s H E).nox (cU st) t/\t { nx:=fun _ H'=>Q .non H',rt:=Q } (ic N vs) H):je P w K mg base CX0 (k+1) f fd ps sp:=
 F.ok S len fun cdv A outer s H vs Q E hr h=>let ⟨t,a,b⟩:=hbody cdv A outer s H vs Q E hr h;⟨t,a.h,b⟩
def qz(env:Env):List (Str×Addr)->Prop
 |[]=>True
 |p::r=>env.cells.lookup p.1=some p.2/\qz env r
theorem qz.look{env:Env}:∀{cl:List (Str×Addr)} {y:Str} {c:Addr},qz env cl->cl.lookup y=some c->env.cells.lookup y=some c
 |[],_,_,_,h=>by simp at h
 |(n,d)::r,y,c,a,h=>by
  obtain⟨a1,a2⟩:=a;rw[Qn]at h;by_cases e:(y == n)=true
  ·rw[e]at h;have e':y=n:=by simpa using e
   subst e';cases h;exact a1
  ·have e':(y == n)=false:=by simpa using e
   rw[e']at h;exact qz.look a2 h
abbrev cxC(X:Cx)(Nc:List Str)(scope:Scope)(cl:List (Str×Addr))(s3:Shared)(H3:Hp)(fp:List Addr):Cx where
 prog:=X.prog
 w:=X.w
 K:=X.K
 mg:=X.mg
 base:=X.base
 A:=X.A
 N:=Nc
 s₀:=s3
 H₀:=H3
 env:=compEnvC scope cl s3.heap.objs.size X.env
 outer:=X.stack
 stack:=X.stack
 ex:=fp
 fn:=fun _=>false
 calm:=X.calm
 pn:=[]
 xe:=fun _ _=>False
def stC(n:Nat)(caps:List Nat)(σ:L2.St):L2.St:=QQ n none++caps.map fun i=>(σ[i]?).getD none
def vv(wi:TI)(g:TG)(te:TE)(n:Nat)(caps:List Nat):TE:=fun σ H Q=>wi σ H fun J H1=>∀l,H1 l=none->∃W:Nat->Nat->L2.St->Hp->Prop,(∃m,W 0 m (stC n caps σ) (upd H1 l (.lst [])))/\
 ∀i m σ' H2,W i m σ' H2->(J.stop i H2/\Q (.ref l) H2)\/(J.go i H2/\∃N:L2.St->Hp->Prop,(∀σ'' H',N σ'' H'->∃m',m'<m/\W (i+1) m' σ'' H')/\
  ∀x H3,J.yld i H2 x H3->g x σ' H3 fun σ2 H4=>te σ2 H4 fun v H5=>∃ys,H5 l=some (.lst ys)/\ys.length<sizeLine/\N σ2 (upd H5 l (.lst (ys++[v]))))
theorem nG{prog:Program}{w:World}{A:Around}{R:Result->Shared->Prop}{s:Shared}{elt target iter:Expr}{scope:Scope}{pos:Pos}{it acc:Value}{env:Env}(I:Nat->Shared->Prop)
  (turn:∀n s,I n s->wpAny (model prog w) A (pyNext it) (fun r s₁=>match r with
   |none=>R (.ok .next) s₁
   | some v=>wpAny (model prog w) A (letOwnedTupleGo target it v) (fun _ s₁'=>wpAny (model prog w) A (assign target env v) (fun _ s₂=>wpAny (model prog w) A (eval elt env) (fun x s₃=>
     wpAny (model prog w) A (call (.builtin "list.append") [acc,x]) (fun _ s₄=>∃m,m<n/\I m s₄) (fun _ _=>False) s₃)
     (fun _ _=>False) s₂) (fun _ _=>False) s₁') (fun _ _=>False) s₁) (fun _ _=>False) s)
  (n:Nat) (h:I n s) :
  codeAny (model prog w) A (.compLoop (.ListComp elt [⟨target,iter,[],0⟩] scope pos) 0 it acc env) R s:=by
 refine codeAny_loop rfl I (fun n s hI=>?_) n h;show wpAny _ _ ((compTurn (.ListComp elt [⟨target,iter,[],0⟩] scope pos) 0 it acc env).onRaise (fun x=>do noteFrame x env;theTreesLotGoes x)) _ _ s;refine wpAny_noted ?_;rw[compTurn_list1];refine Q2 (wpAny_standAt (Q2 (Qh (turn n s hI) (fun r s₁ h₁=>?_) fun _ _ h'=>h'.elim)));cases r with
 |none=>exact QY h₁
 |some v=>
  refine Q2 (Qh h₁ (fun _ s₁' h₁'=>?_) fun _ _ h'=>h'.elim);exact Q2 (Qh h₁' (fun _ s₂ h₂=>Q2 (Q2 (Qh h₂ (fun x s₃ h₃=>Q2 (Qh h₃
   (fun _ s₄ h₄=>QY (QY ⟨rfl,h₄⟩)) fun _ _ h'=>h'.elim)) fun _ _ h'=>h'.elim))) fun _ _ h'=>h'.elim)
section
variable{X:Cx}{pins:List (Addr×Obj)}{σ:L2.St}{H:Hp}{s:Shared}{Nc capN:List Str}{scope:Scope}{cl:List (Str×Addr)}{fp:List Addr}{n:Nat}{caps:List Nat}
def Cap(X:Cx)(scope:Scope)(cl:List (Str×Addr))(i:Nat)(y:Str):Prop:=X.N[i]?=some y/\X.env.scope.names.lookup y=some .cell/\(relabel scope X.env).names.lookup y=some .cell/\∃c,cl.lookup y=some c
theorem Inv.comp{h1:Heap}{t':Nat}(I:Inv X pins σ H s)(hc:X.calm=true)(f2:∀b∈fp,uQ X pins H b)(fo:∀b∈fp,b<s.heap.objs.size)(hkind:scope.kind=.function)(hcl:qz X.env cl)
  (hhas:((relabel scope X.env).names.all fun p=>!(p.2 == .cell||p.2 == .free)||(cl.lookup p.1).isSome)=true)
  (hcap:Paired (Cap X scope cl) caps capN) (tn:List Str) (hN:Nc=tn++capN) (hn:tn.length=n)
  (hns:h1.Ns s.heap.objs.size (fun _=>none)) (hk:∀b o,s.heap.get? b=some o->h1.get? b=some o) :
  Inv (cxC X Nc scope cl s H fp) [] (stC n caps σ) H { s with heap:=h1,toks:=t' }:=by
 have lkc:∀y c,cl.lookup y=some c->X.env.cells.lookup y=some c:=fun y c e=>hcl.look e;refine⟨⟨I.ok.mod,?_,I.ok.glob,I.ok.blt,Q5 _,fun x y c a b=>I.ok.inj x y c (lkc _ _ a) (lkc _ _ b),fun x hx=>?_,fun x c z=>(nomatch z),I.ok.hd,I.ok.frames,.inl rfl,fun b hb=>⟨QD (fo b hb),fun x c e=>(f2 b hb).2.2.2.2.1 x c (lkc _ _ e)⟩,I.bs,QL I.ok.bsz I.sz,
  fun b o e hb=>?_,fun b hb z=>?_,I.stack,I.stkFree⟩,rfl,I.bare,Un.kept hk,⟨_,hns,fun i y v h1' h2 h3=>?_⟩,fun y c e=>?_,I.hok.fresh (Q5 _),fun y c e=>I.freeC y c (lkc _ _ e),fun p hp=>(by simp at hp),I.hok.kept hk,?_⟩
 ·exact hkind
 ·have hx':(relabel scope X.env).names.lookup x=some .cell\/(relabel scope X.env).names.lookup x=some .free:=hx;have mem:∀{k},(relabel scope X.env).names.lookup x=some k->(x,k)∈(relabel scope X.env).names:=fun{k} e=>by
   generalize (relabel scope X.env).names=L at e;induction L with
   |nil=>simp at e
   |cons p r ih=>
    obtain⟨a,b⟩:=p;rw[Qn]at e;by_cases q:(x == a)=true
    ·rw[q]at e;cases e;have:x=a:=by simpa using q
     subst this;exact QB
    ·rw[show(x == a)=false by simpa using q]at e;exact Q8 _ (ih e)
  have fin:∀{k},(k=NameKind.cell\/k=.free)->(relabel scope X.env).names.lookup x=some k->∃c,cl.lookup x=some c:=fun{k} hk' e=>by
   have:=List.all_eq_true.mp hhas _ (mem e);dsimp only at this;have q:(cl.lookup x).isSome=true:=by
    rcases hk' with z|z<;>subst z<;>simpa using this
   exact Qp.mp q
  rcases hx' with e|e
  ·exact fin (.inl rfl) e
  ·exact fin (.inr rfl) e
 ·rcases(f2 b hb).2.2.2.1 with z|z
  ·exact I.ok.noex b o e z
  ·exact absurd (QR (Q9 e) I.ok.bsz) (Nat.not_lt.mpr z)
 ·rcases QC.mp (I.stkSub b z)with q|q
  ·exact(f2 b hb).2.1 q
  ·exact(f2 b hb).2.2.1 q
 ·obtain⟨m,hm,hl⟩:=I.loc;have h2':(stC n caps σ)[i]?=some (some v):=h2;have h1'':Nc[i]?=some y:=h1';unfold stC at h2';by_cases hi:i<n
  ·rw[Qk (by simpa using hi),Ql,if_pos hi]at h2';cases h2'
  ·rw[Qj (by simp;omega),List.length_replicate,Qq]at h2';rw[hN,Qj (by omega),hn]at h1'';have key:∀(j:Nat) {caps:List Nat} {capN:List Str},Paired (Cap X scope cl) caps capN->capN[j]?=some y->(Option.map (fun i=>(σ[i]?).getD none) caps[j]?)=some (some v)->∃k,Cap X scope cl k y/\σ[k]?=some (some v):=by
    intro j;induction j with
    |zero=>
     intro caps capN P e1 e2;cases P with
     |nil=>simp at e1
     |@cons a b l r p t=>
      simp at e1 e2;subst e1;cases q:σ[a]? with
      |none=>rw[q]at e2;simp at e2
      |some w'=>rw[q]at e2;simp at e2;subst e2;exact⟨a,p,q⟩
    |succ j ih=>
     intro caps capN P e1 e2;cases P with
     |nil=>simp at e1
     |cons p t=>exact ih t (by simpa using e1) (by simpa using e2)
   obtain⟨k,⟨c1,c2,c3,c,c4⟩,e⟩:=key _ hcap h1'' h2';obtain⟨u,r,lk⟩:=hl k y v c1 e (.inr (.inl c2));refine⟨u,r,.inr ⟨.inl c3,c,c4,?_⟩⟩;rcases lk with⟨z,_⟩|⟨_,c',e',o,ho,hd⟩
   ·have z':X.env.scope.names.lookup y=some .local:=z;rw[c2]at z';cases z'
   ·rw[lkc _ _ c4]at e';cases e';exact⟨o,hk _ _ ho,hd⟩
 ·obtain⟨v,o,ho,hd⟩:=I.cell y c (lkc _ _ e);exact⟨v,o,hk _ _ ho,hd⟩
 ·show(stC n caps σ).length=Nc.length;have pl:caps.length=capN.length:=Paired.length hcap;unfold stC;rw[QH,List.length_replicate,QZ,hN,QH,hn,pl]
end
theorem qo{X:Cx}{Nc capN tn:List Str}{scope:Scope}{cl:List (Str×Addr)}{n:Nat}{caps:List Nat}{tg iter elt:Expr}{pos:Pos}{wi:TI}{g:TG}{te:TE}
  (hc:X.calm=true) (hi:WI X tg iter wi) (hg:∀s3 H3 fp,WG (cxC X Nc scope cl s3 H3 fp) tg g) (he:∀s3 H3 fp,WE (cxC X Nc scope cl s3 H3 fp) elt te)
  (hclos:closureFor scope X.env=pure cl) (hkind:scope.kind=.function) (hnl:∀x∈scope.names,x.2=.local->scope.names.lookup x.1=some .local) (hcell:∀x∈scope.names,x.2≠.cell)
  (hcl:qz X.env cl) (hhas:((relabel scope X.env).names.all fun p=>!(p.2 == .cell||p.2 == .free)||(cl.lookup p.1).isSome)=true)
  (hcap:Paired (Cap X scope cl) caps capN) (hN:Nc=tn++capN) (hn:tn.length=n)
  {use:Option (Value->Sem Unit)} {pins:List (Addr×Obj)} {σ:L2.St} {H:Hp} {s:Shared} {Q:VK} {Qf:Value->Shared->Prop} (I:Inv X pins σ H s) (h:vv wi g te n caps σ H Q)
  (hend:∀(D C:Addr) (s6:Shared) (H5:Hp) (m:Str->Option Value),Inv X pins σ H5 s6->s6.heap.Ns C m->H5 C=none->C≠X.env.locals->X.s₀.heap.objs.size<=C->(∀x c,X.env.cells.lookup x=some c->c≠C)->(∀p∈X.pn++pins,p.1≠C)->Q (.ref D) H5->compPost (model X.prog X.w) X.A X.xe use Qf (.ref D) C (.ok .next) s6)
  (hs:∀x,foldedSetIterable iter X.env x=pure x) :
  wpAny (model X.prog X.w) X.A (comprehension (.ListComp elt [⟨tg,iter,[],0⟩] scope pos) scope X.env (firstIterPos [⟨tg,iter,[],0⟩] pos) (newList []) (firstAsync [⟨tg,iter,[],0⟩]) (firstIter [⟨tg,iter,[],0⟩] X.env) use) Qf X.xe s:=by
 refine wpAny_comprehension_free (use:=use) (g:=⟨tg,iter,[],0⟩) (gs:=[]) rfl hs hclos hkind hnl (thn (hi.h pins s σ H _ I h) fun v s1 h1=>thn h1 fun itv s2 h2=>?_);obtain⟨it,fp,tnn,J,H2,rfl,I2,T,st2,f2,hW⟩:=h2;have hD:=I2.fresh;obtain⟨W,⟨m0,w0⟩,turn⟩:=hW _ hD;refine wpAny_newObj_type (wpAny_newFunctionEnv hcell (by intro y hy;simp at hy) (fun h₁ hns₁ hsb₁=>?_) hkind);dsimp only at hns₁ hsb₁ ⊢;have I3:Inv X pins σ (upd H2 s2.heap.objs.size (.lst [])) { s2 with heap:=s2.heap.push { cls:=.type "list",dict:=none,data:=.seq ([]:List Value).toArray },toks:=s2.toks }:=I2.lnew (its:=[]) .nil (Qe _);generalize hs3:({ s2 with heap:=s2.heap.push { cls:=.type "list",dict:=none,data:=.seq ([]:List Value).toArray },toks:=s2.toks }:Shared)=s3 at I3;have es3:s3.heap=s2.heap.push { cls:=.type "list",dict:=none,data:=.seq ([]:List Value).toArray }:=by rw[<-hs3]
 generalize hDD:s2.heap.objs.size=D at *;have kept:∀b o,s3.heap.get? b=some o->h₁.get? b=some o:=fun b o e=>by
  have lt:=Q9 e;rw[es3]at lt e;exact hsb₁.extBut b o (QD lt) (Q3 _ e)
 have old:∀b o,s2.heap.get? b=some o->s3.heap.get? b=some o:=fun b o e=>by rw[es3];exact Q3 _ e
 have ltD:∀b∈fp,b<D:=fun b hb=>by
  obtain⟨o,e,_⟩:=T.obj 0 _ st2 b hb;rw[<-hDD];exact Q9 e
 have fo:∀b∈fp,b<s3.heap.objs.size:=fun b hb=>by
  obtain⟨o,e,_⟩:=T.obj 0 _ st2 b hb;exact Q9 (old _ _ e)
 have f3:∀b∈fp,uQ X pins (upd H2 D (.lst [])) b:=fun b hb=>by
  refine⟨?_,(f2 b hb).2⟩;rw[aK (QD (ltD b hb))];exact(f2 b hb).1
 rw[<-es3]at hns₁ hsb₁ ⊢;have Ic:=fun t'=>Inv.comp (h1:=h₁) (t':=t') (Nc:=Nc) (n:=n) I3 hc f3 fo hkind hcl hhas hcap tn hN hn hns₁ kept;have stat:∀{H':Hp},(∀b∈fp,H' b=none)->∀b∈fp,uQ (cxC X Nc scope cl s3 (upd H2 D (.lst [])) fp) [] H' b:=fun hn' b hb=>by
  refine⟨hn' b hb,QD (fo b hb),fun z=>?_,.inl hb,fun x c e=>(f2 b hb).2.2.2.2.1 x c (hcl.look e),fun p hp=>(by simp at hp)⟩;rcases QC.mp (I3.stkSub b z)with q|q
  ·exact(f2 b hb).2.1 q
  ·exact(f2 b hb).2.2.1 q
 have loop:∀s4:Shared,(∃t',s4={ s3 with heap:=h₁,toks:=t' })->codeAny (model X.prog X.w) X.A (.compLoop (.ListComp elt [⟨tg,iter,[],0⟩] scope pos) 0 (.ref it) (.ref D) (compEnvC scope cl s3.heap.objs.size X.env))
   (compPost (model X.prog X.w) X.A X.xe use Qf (.ref D) s3.heap.objs.size) s4:=by
  rintro s4 ⟨t',rfl⟩;refine nG (fun n' s'=>∃i σ' H',Inv (cxC X Nc scope cl s3 (upd H2 D (.lst [])) fp) [] σ' H' s'/\tnn i s'.heap/\(∀b∈fp,H' b=none)/\W i n' σ' H') ?_ m0
   ⟨0,_,_,Ic t',T.keep 0 _ _ st2 fun b hb o e=>kept _ _ (old _ _ e),fun b hb=>(f3 b hb).1,w0⟩
  rintro n' s5 ⟨i,σ5,H5,I5,st5,fr5,w5⟩;rcases turn i n' σ5 H5 w5 with⟨stop,qn⟩|⟨go,N,hN',step⟩
  ·refine thn (T.done (cxC X Nc scope cl s3 (upd H2 D (.lst [])) fp) rfl rfl rfl hc i [] s5 σ5 H5 (fun _ _=>False) I5 (stat fr5) st5 stop) fun r s6 ⟨hr,I6⟩=>?_;subst hr;obtain⟨m,hm,_⟩:=I6.loc;have I7:Inv X pins σ H5 s6:=Inv.call' (ch:=fp) I3 I6.os I6.base I6.hok I6.bare fun b hb=>⟨(f2 b hb).2.2.2.1,(f2 b hb).2.1,(f2 b hb).2.2.2.2.1,(f2 b hb).2.2.2.2.2⟩;exact hend D _ s6 H5 m I7 hm I6.free (Ne.symm (QD I3.lt)) I3.sz (fun x c e=>by
     obtain⟨v',o,ho,_⟩:=I3.cell x c e;exact QD (Q9 ho)) (fun p hp=>QD (Q9 (I3.pin p hp).1)) qn
  ·refine thn (T.item (cxC X Nc scope cl s3 (upd H2 D (.lst [])) fp) rfl rfl rfl hc i [] s5 σ5 H5 (fun _ _=>False) I5 (stat fr5) st5 go) fun r s6 ⟨u,hr,h6⟩=>?_;subst hr;refine thn h6 fun _ s7 hz=>?_;obtain⟨x,H7,I7,r7,y7,st7,fr7⟩:=hz;have I7':=I7.pinned (stat fr7) (T.obj _ _ st7);refine thn ((hg s3 (upd H2 D (.lst [])) fp).h _ s7 σ5 H7 x u _ I7' r7 (step x H7 y7)) fun _ s8 hz=>?_;obtain⟨σ8,H8,I8,q8⟩:=hz;refine thn ((he s3 (upd H2 D (.lst [])) fp).h _ s8 σ8 H8 _ I8 q8) fun v9 s9 hz=>?_;obtain⟨x9,H9,I9,r9,ys,hy,hlt,q9⟩:=hz;refine thn (jG (X:=cxC X Nc scope cl s3 (upd H2 D (.lst [])) fp) _ s9 σ8 H9 (.ref D) [x9] (.ref D) [v9] (fun _ H'=>N σ8 H') I9 rfl (.cons r9 .nil) ⟨D,ys,x9,rfl,rfl,hy,hlt,q9⟩) fun _ s10 hz=>?_;obtain⟨_,H10,I10,_,q10⟩:=hz;obtain⟨m',hm,w10⟩:=hN' σ8 H10 q10;refine⟨m',hm,i+1,σ8,H10,I10.unpinned,T.keep _ _ _ st7 fun b hb o e=>(I10.pin (b,o) (QK _ (QK _ (eI hb e)))).1,fun b hb=>?_,w10⟩;obtain⟨o,e,d⟩:=T.obj _ _ st7 b hb;exact(I10.pin (b,o) (QK _ (QK _ (eI hb e)))).2.1
 have e4:∀t',({ s2 with heap:=h₁,toks:=t' }:Shared)={ s3 with heap:=h₁,toks:=t' }:=fun t'=>by rw[<-hs3]
 refine codeAny_compStart_list (loop _ ⟨_,e4 _⟩) (T.self _ 0 _ _ _ (T.keep 0 _ _ st2 fun b hb o e=>kept _ _ (old _ _ e)) (loop _ ⟨_,e4 _⟩))
theorem o8{X:Cx}{Nc capN tn:List Str}{scope:Scope}{cl:List (Str×Addr)}{n:Nat}{caps:List Nat}{tg iter elt:Expr}{pos:Pos}{wi:TI}{g:TG}{te:TE}
  (hc:X.calm=true) (hi:WI X tg iter wi) (hg:∀s3 H3 fp,WG (cxC X Nc scope cl s3 H3 fp) tg g) (he:∀s3 H3 fp,WE (cxC X Nc scope cl s3 H3 fp) elt te)
  (hclos:closureFor scope X.env=pure cl) (hkind:scope.kind=.function) (hnl:∀x∈scope.names,x.2=.local->scope.names.lookup x.1=some .local) (hcell:∀x∈scope.names,x.2≠.cell)
  (hcl:qz X.env cl) (hhas:((relabel scope X.env).names.all fun p=>!(p.2 == .cell||p.2 == .free)||(cl.lookup p.1).isSome)=true)
  (hcap:Paired (Cap X scope cl) caps capN) (hN:Nc=tn++capN) (hn:tn.length=n)
  (hs:∀x,foldedSetIterable iter X.env x=pure x:=by intro _;rfl) :
  WE X (.ListComp elt [⟨tg,iter,[],0⟩] scope pos) (vv wi g te n caps):=by
 constructor;intro pins s σ H Q I h;rw[eval_ListComp];refine qo hc hi hg he hclos hkind hnl hcell hcl hhas hcap hN hn I h (fun D C s6 H5 m I7 hm fr nl sz cn pn qn=>⟨m,hm,fun h' hs'=>?_⟩) hs;exact⟨.ref D,H5,I7.turned (t':=s6.toks) (it:=C) (fun b o hb e=>hs'.extBut b o hb e) fr nl (.inr sz) cn pn,rfl,qn⟩
theorem rW:∀{bs:List Bool} {us:List Value} {i:Nat} {v:Value},bK (bs.map V.bl) us->us[i]?=some v->∃b,bs[i]?=some b/\v=.bool b
 |[],_,_,_,r,e=>by cases r;simp at e
 |b::bs,_,0,_,.cons r _,e=>by
  have r':_=Value.bool b:=r;simp at e;subst e;exact⟨b,by simp,r'⟩
 |b::bs,_,i+1,v,.cons _ t,e=>by
  obtain⟨b',e1,e2⟩:=rW (i:=i) (v:=v) t (by simpa using e);exact⟨b',by simpa using e1,e2⟩
theorem zW{h:Heap}{b:Addr}{o:Obj}(e:h.get? b=some o):¬b∈[h.objs.size]:=fun z=>by
 have z':b=h.objs.size:=by simpa using z
 exact absurd (Q9 e) (by rw[z'];exact Qt _)
open PySem.AutoSeq1 (wpAny_loadPart')
theorem wX{prog:Program}{w:World}{A:Around}{E:Value->Shared->Prop}{s:Shared}{t b:Addr}{vs ws:List Value}{Q:Value->Shared->Prop}(ht:IsTup s.heap t vs.toArray)(hb:IsTup s.heap b ws.toArray)(hv:vs=[])
  (h1:Q (.ref b) s):wpAny (model prog w) A (binaryOp .Add (.ref t) (.ref b)) Q E s:=by
 obtain⟨⟨cls,dd,data,sl⟩,ho,hc,n,hd⟩:=id ht;obtain⟨⟨cls2,dd2,data2,sl2⟩,ho2,hc2,n2,hd2⟩:=id hb;simp only at hc hd hc2 hd2;subst hc hd hc2 hd2;exact concat_meets ⟨_,ho,rfl⟩ ⟨_,ho2,rfl⟩ noFill_tuple_add seq_tuple_add PySem.F.slot_tuple_add PySem.F.entry_tuple_add (PySem.F.args_tuple_add_2 _ _)
   (tuple_addW0 t b vs.toArray ws.toArray n n2 dd dd2 sl sl2 (by simp[hv])) ⟨ho,ho2,h1⟩
theorem jg:fillsNumberSlot (.type "tuple") "mul"=pure false:=
 PySem.fillsNumberSlot_seq (id:="tuple.__mul__") (r:=some (.builtin "tuple.__rmul__")) F.slot_tuple_mul.lookup (by decide +kernel) F.slot_tuple_rmul.lookup (by decide +kernel)
theorem mG:seqRepeat? (.type "tuple")=pure (some (.builtin "tuple.__mul__")):=by
 unfold seqRepeat?;rw[PySem.seqSlot_of (T:="tuple") (name:="__mul__") (id:="tuple.__mul__") F.slot_tuple_mul.lookup (by decide +kernel),PySem.seqSlot_of (T:="tuple") (name:="__rmul__") (id:="tuple.__rmul__") F.slot_tuple_rmul.lookup (by decide +kernel)];rfl
theorem j4(a:Int)(t:Tok)(l:Addr)(items:Array Value)(n:Nat)(dd:Option Addr)(sl:Array (Option Value)) :
  Meets (Builtin.«int.__rmul__» ⟨[.int a t,.ref l],[]⟩) (fun _ R s=>s.heap.get? l=some { cls:=.type "tuple",dict:=dd,data:=.seq items n,slots:=sl }/\R (.ok (.ret Value.notImplemented)) s):=
 .of_wp fun prog w A R s h=>by obtain⟨hp,g,d,tk,os⟩:=s;obtain⟨hl,h⟩:=h;wp_walk using wpAny_loadPart' hl;exact⟨_,rfl,h⟩
theorem og(l:Addr)(items:Array Value)(n:Nat)(dd:Option Addr)(sl:Array (Option Value))(t:Tok) :
  Meets (Builtin.«tuple.__mul__» ⟨[.ref l,.int 1 t],[]⟩) (fun _ R s=>s.heap.get? l=some { cls:=.type "tuple",dict:=dd,data:=.seq items n,slots:=sl }/\R (.ok (.ret (Value.ref l))) s):=
 .of_wp fun prog w A R s h=>by obtain⟨hp,g,d,tk,os⟩:=s;obtain⟨hl,h⟩:=h;have f1:=AutoSeq1.idx_int;wp_walk using wpAny_loadPart' hl;exact⟨_,rfl,h⟩
theorem oe(l:Addr)(items:Array Value)(n:Nat)(dd:Option Addr)(sl:Array (Option Value))(k:Int)(t:Tok)(hc0:¬(decide (k < -2^63)||decide (k≥2^63))=true)(hc1:¬(items.isEmpty||k == 1)=true)(hc2:¬(decide (k<=0)||items.isEmpty)=true)
  (hc3:¬((items.size:Int)*k>(2^63-1) / 8)) (hc4:¬Builtin.Tuple.tupleTooMany ((items.size:Int)*k)=true) (hz:(List.foldl (fun x1 x2=>x1++x2) #[] (QQ k.toNat items)).size<=sizeLine) :
  Meets (Builtin.«tuple.__mul__» ⟨[.ref l,.int k t],[]⟩) (fun _ R s=>s.heap.get? l=some { cls:=.type "tuple",dict:=dd,data:=.seq items n,slots:=sl }/\
   R (.ok (.ret (Value.ref s.heap.objs.size))) { s with heap:=s.heap.push { cls:=Value.type "tuple",data:=Data.seq (List.foldl (fun x1 x2=>x1++x2) #[] (QQ k.toNat items)) } }):=
 .of_wp fun prog w A R s h=>by
  obtain⟨hp,g,d,tk,os⟩:=s;obtain⟨hl,h⟩:=h;have f1:=AutoSeq1.idx_int;have g0:(decide (k < -2^63)||decide (k≥2^63))=false:=by simpa using hc0
  have g1:(items.isEmpty||k == 1)=false:=by simpa using hc1
  have g2:(decide (k<=0)||items.isEmpty)=false:=by simpa using hc2
  have g4:Builtin.Tuple.tupleTooMany ((items.size:Int)*k)=false:=by simpa using hc4
  wp_walk using wpAny_loadPart' hl
  refine PySem.W.KFB.if_not g0 ?_
  wp_walk using wpAny_loadPart' hl
  try (refine PySem.W.KFB.if_not g1 ?_;wp_walk using wpAny_loadPart' hl)
  try (refine PySem.W.KFB.if_not g2 ?_;wp_walk using wpAny_loadPart' hl)
  try (rw[if_neg hc3];wp_walk using wpAny_loadPart' hl)
  try (refine PySem.W.KFB.if_not g4 ?_;wp_walk using wpAny_loadPart' hl)
  try (refine wpAny_ite_false (decide_eq_false (Nat.not_lt.mpr hz)) ?_;wp_walk)
  exact⟨_,rfl,h⟩
theorem tF{m:Int}(h0:0<=m)(h:m<2^60):m.natAbs.log2<9000:=by
 have:=qT (n:=m.natAbs) (by omega);omega
end OG
namespace OP
open PySem PySem.Spec PyProof.Rows L2 OG
inductive U where
 |non|bl (b:Bool)|int (i:Int)|str (x:Str)|tup (us:List U)|ref (l:Nat)|kl (ns:List Int)
structure Cl where
 C:Addr
 ns:List Str
inductive O where
 |lst (us:List U)|dic (kvs:List (Key×U))|ins (c:Cl) (fs:List (Option U))|fdc (ep:Nat) (kvs:List (Key×U))|dit (kvs:List (List Key×U))|fdt (ep:Nat) (kvs:List (List Key×U))|dnt (kvs:List (List (List Int)×U))|fdn (ep:Nat) (kvs:List (List (List Int)×U))|cod (p:Addr) (pos:Pos) (q:Str)
abbrev Sto:=List O
abbrev Rho:=List (Option U)
def KL(K:Q1)(H:Hp)(a:Addr)(ns:List Int):Prop:=
 (∃o,H a=some (.frz o (.lst (ns.map V.int))))\/
  ∃(o:Obj) (its:Array Value) (n:Nat),K.lookup a=some o/\o.cls=.type "list"/\o.dict=none/\o.data=.seq its n/\its.size<=sizeLine/\bK (ns.map V.int) its.toList
theorem KL.sq{K:Q1}{H:Hp}{a:Addr}{ns:List Int}(h:KL K H a ns):SqL K H a (ns.map V.int):=by
 rcases h with h|h
 ·exact .inl (.inr h)
 ·exact .inr h
mutual
def Is(K:Q1)(m:List Addr)(H:Hp):V->U->Prop
 |v,.non=>v=.non
 |v,.bl b=>v=.bl b
 |v,.int i=>v=.int i
 |v,.str x=>v=.str x
 |v,.tup us=>∃a xs,v=.ref a/\SqT K H a xs/\IsL K m H xs us
 |v,.ref l=>∃a,m[l]?=some a/\v=.ref a
 |v,.kl ns=>∃a,v=.ref a/\KL K H a ns
def IsL(K:Q1)(m:List Addr)(H:Hp):List V->List U->Prop
 |xs,[]=>xs=[]
 |xs,u::us=>∃x r,xs=x::r/\Is K m H x u/\IsL K m H r us
end
structure uP(K:Q1)(H H':Hp):Prop where
 t:∀a xs,SqT K H a xs->SqT K H' a xs
 l:∀a ns,KL K H a ns->KL K H' a ns
 c:∀a ob,H a=some (.frz ob (.own 0))->H' a=some (.frz ob (.own 0))
structure Ext(K:Q1)(m:List Addr)(H:Hp)(m':List Addr)(H':Hp):Prop where
 pre:∃t,m'=m++t
 keep:uP K H H'
section
variable{K:Q1}{m m' m'':List Addr}{H H' H'':Hp}{v x:V}{u:U}{xs ys:List V}{us ws:List U}{a q:Addr}{o:HO}
def Ext.refl:Ext K m H m H:=⟨⟨[],by simp⟩,fun _ _ h=>h,fun _ _ h=>h,fun _ _ h=>h⟩
theorem Ext.trans(a:Ext K m H m' H')(b:Ext K m' H' m'' H''):Ext K m H m'' H'':=by
 obtain⟨t,rfl⟩:=a.pre;obtain⟨t',rfl⟩:=b.pre;exact⟨⟨t++t',by simp⟩,fun c ys h=>b.keep.t c ys (a.keep.t c ys h),fun c ys h=>b.keep.l c ys (a.keep.l c ys h),fun c ob h=>b.keep.c c ob (a.keep.c c ob h)⟩
def Ext.of(k:uP K H H'):Ext K m H m H':=⟨⟨[],by simp⟩,k⟩
def Ext.new(k:uP K H H'):Ext K m H (m++[q]) H':=⟨⟨[q],rfl⟩,k⟩
theorem Ext.get{l:Nat}(e:Ext K m H m' H')(h:m[l]?=some a):m'[l]?=some a:=by
 obtain⟨t,rfl⟩:=e.pre;rw[Qk (Q4.mp h).1];exact h
mutual
theorem Is.mono(e:Ext K m H m' H'):∀{v:V} {u:U},Is K m H v u->Is K m' H' v u
 |v,.non,h=>by unfold Is at h ⊢;exact h
 |v,.bl b,h=>by unfold Is at h ⊢;exact h
 |v,.int i,h=>by unfold Is at h ⊢;exact h
 |v,.str x,h=>by unfold Is at h ⊢;exact h
 |v,.tup us,h=>by
  unfold Is at h ⊢;obtain⟨a,xs,e1,k,l⟩:=h;exact⟨a,xs,e1,e.keep.t _ _ k,IsL.mono e l⟩
 |v,.ref l,h=>by
  unfold Is at h ⊢;obtain⟨a,k,e1⟩:=h;exact⟨a,e.get k,e1⟩
 |v,.kl ns,h=>by
  unfold Is at h ⊢;obtain⟨a,e1,k⟩:=h;exact⟨a,e1,e.keep.l _ _ k⟩
theorem IsL.mono(e:Ext K m H m' H'):∀{xs:List V} {us:List U},IsL K m H xs us->IsL K m' H' xs us
 |xs,[],h=>by unfold IsL at h ⊢;exact h
 |xs,u::us,h=>by
  unfold IsL at h ⊢;obtain⟨x,r,e1,k,l⟩:=h;exact⟨x,r,e1,Is.mono e k,IsL.mono e l⟩
end
def Is.int_{i:Int}:Is K m H (.int i) (.int i):=by unfold Is;rfl
def Is.bl_{b:Bool}:Is K m H (.bl b) (.bl b):=by unfold Is;rfl
def Is.non_:Is K m H .non .non:=by unfold Is;rfl
def Is.str_{x:Str}:Is K m H (.str x) (.str x):=by unfold Is;rfl
def Is.of_int{i:Int}(h:Is K m H v (.int i)):v=.int i:=by unfold Is at h;exact h
def Is.of_bl{b:Bool}(h:Is K m H v (.bl b)):v=.bl b:=by unfold Is at h;exact h
def Is.of_non(h:Is K m H v .non):v=.non:=by unfold Is at h;exact h
def Is.of_str{x:Str}(h:Is K m H v (.str x)):v=.str x:=by unfold Is at h;exact h
def Is.of_tup(h:Is K m H v (.tup us)):∃a xs,v=.ref a/\SqT K H a xs/\IsL K m H xs us:=by unfold Is at h;exact h
def Is.of_ref{l:Nat}(h:Is K m H v (.ref l)):∃a,m[l]?=some a/\v=.ref a:=by unfold Is at h;exact h
def Is.of_kl{ns:List Int}(h:Is K m H v (.kl ns)):∃a,v=.ref a/\KL K H a ns:=by unfold Is at h;exact h
def Is.kl_{ns:List Int}(e:KL K H a ns):Is K m H (.ref a) (.kl ns):=by unfold Is;exact⟨a,rfl,e⟩
def Is.tup_(e:SqT K H a xs)(h:IsL K m H xs us):Is K m H (.ref a) (.tup us):=by unfold Is;exact⟨a,xs,rfl,e,h⟩
def Is.ref_{l:Nat}(e:m[l]?=some a):Is K m H (.ref a) (.ref l):=by unfold Is;exact⟨a,e,rfl⟩
def IsL.nil_:IsL K m H [] []:=by unfold IsL;rfl
def IsL.cons_(h:Is K m H x u)(t:IsL K m H xs us):IsL K m H (x::xs) (u::us):=by unfold IsL;exact⟨x,xs,rfl,h,t⟩
def IsL.of_nil(h:IsL K m H xs []):xs=[]:=by unfold IsL at h;exact h
def IsL.of_cons(h:IsL K m H xs (u::us)):∃x r,xs=x::r/\Is K m H x u/\IsL K m H r us:=by unfold IsL at h;exact h
theorem IsL.length:∀{xs:List V} {us:List U},IsL K m H xs us->xs.length=us.length
 |xs,[],h=>by rw[h.of_nil];rfl
 |xs,d::ds,h=>by
  obtain⟨x,r,rfl,_,t⟩:=h.of_cons;rw[QJ,QJ,IsL.length t]
theorem IsL.getD:∀{xs:List V} {us:List U} {i:Nat} {u:U},IsL K m H xs us->us[i]?=some u->∃x,xs[i]?=some x/\Is K m H x u
 |xs,[],i,x,h,e=>by simp at e
 |xs,d::ds,0,x,h,e=>by
  obtain⟨y,r,rfl,k,t⟩:=h.of_cons;simp at e;subst e;exact⟨y,by simp,k⟩
 |xs,d::ds,i+1,x,h,e=>by
  obtain⟨y,r,rfl,k,t⟩:=h.of_cons;obtain⟨d',e1,e2⟩:=IsL.getD (i:=i) (u:=x) t (by simpa using e);exact⟨d',by simpa using e1,e2⟩
theorem IsL.append:∀{xs:List V} {us:List U},IsL K m H xs us->IsL K m H ys ws->IsL K m H (xs++ys) (us++ws)
 |xs,[],h,k=>by rw[h.of_nil];exact k
 |xs,d::ds,h,k=>by
  obtain⟨y,r,rfl,z,t⟩:=h.of_cons;exact .cons_ z (IsL.append t k)
theorem IsL.set:∀{xs:List V} {us:List U} {j:Nat},IsL K m H xs us->Is K m H x u->IsL K m H (xs.set j x) (us.set j u)
 |xs,[],j,h,k=>by rw[h.of_nil];exact .nil_
 |xs,d::ds,0,h,k=>by
  obtain⟨y,r,rfl,z,t⟩:=h.of_cons;exact .cons_ k t
 |xs,d::ds,j+1,h,k=>by
  obtain⟨y,r,rfl,z,t⟩:=h.of_cons;exact .cons_ z (IsL.set t k)
theorem IsL.drop:∀{xs:List V} {us:List U} (n:Nat),IsL K m H xs us->IsL K m H (xs.drop n) (us.drop n)
 |xs,us,0,h=>h
 |xs,[],n+1,h=>by rw[h.of_nil];exact .nil_
 |xs,d::ds,n+1,h=>by
  obtain⟨y,r,rfl,z,t⟩:=h.of_cons;exact IsL.drop n t
theorem IsL.take:∀{xs:List V} {us:List U} (n:Nat),IsL K m H xs us->IsL K m H (xs.take n) (us.take n)
 |xs,us,0,h=>.nil_
 |xs,[],n+1,h=>by rw[h.of_nil];exact .nil_
 |xs,d::ds,n+1,h=>by
  obtain⟨y,r,rfl,z,t⟩:=h.of_cons;exact .cons_ z (IsL.take n t)
theorem IsL.erase:∀{xs:List V} {us:List U} (n:Nat),IsL K m H xs us->IsL K m H (xs.eraseIdx n) (us.eraseIdx n)
 |xs,[],n,h=>by rw[h.of_nil];exact .nil_
 |xs,d::ds,0,h=>by
  obtain⟨y,r,rfl,z,t⟩:=h.of_cons;exact t
 |xs,d::ds,n+1,h=>by
  obtain⟨y,r,rfl,z,t⟩:=h.of_cons;exact .cons_ z (IsL.erase n t)
theorem IsL.rep:∀(n:Nat),IsL K m H xs us->IsL K m H (QQ n xs).flatten (QQ n us).flatten
 |0,h=>.nil_
 |n+1,h=>by
  rw[Qi,Qi,ZX,ZX];exact h.append (IsL.rep n h)
theorem pZ(h:H a=some o)(nt:∀xs,o≠.tup xs)(nf:∀ob xs,o≠.frz ob (.tup xs))(nl:∀ob xs,o≠.frz ob (.lst xs))(nc:∀ob,o≠.frz ob (.own 0))(o':HO):uP K H (upd H a o'):=by
 refine⟨fun b xs q=>?_,fun b ns q=>?_,fun b ob q=>by rw[aK (fun z=>by subst z;rw[q]at h;cases h;exact nc _ rfl)];exact q⟩
 ·rcases q with(q|⟨ob,q⟩)|q
  ·have n:b≠a:=fun z=>by subst z;rw[q]at h;cases h;exact nt _ rfl
   exact .inl (.inl (by rw[aK n];exact q))
  ·have n:b≠a:=fun z=>by subst z;rw[q]at h;cases h;exact nf _ _ rfl
   exact .inl (.inr ⟨ob,by rw[aK n];exact q⟩)
  ·exact .inr q
 ·rcases q with⟨ob,q⟩|q
  ·have n:b≠a:=fun z=>by subst z;rw[q]at h;cases h;exact nl _ _ rfl
   exact .inl ⟨ob,by rw[aK n];exact q⟩
  ·exact .inr q
theorem cI(s:yg H H'):uP K H H':=by
 refine⟨fun b xs q=>?_,fun b ns q=>?_,fun b ob q=>s _ _ q⟩
 ·rcases q with(q|⟨ob,q⟩)|q
  ·exact .inl (.inl (s _ _ q))
  ·exact .inl (.inr ⟨ob,s _ _ q⟩)
  ·exact .inr q
 ·rcases q with⟨ob,q⟩|q
  ·exact .inl ⟨ob,s _ _ q⟩
  ·exact .inr q
def cy(h:H q=none)(o':HO):uP K H (upd H q o'):=cI (gw h o')
end
abbrev NK:=List (List Int)
def hNK(ks:NK):Int:=reduceHash (Builtin.Tuple.tupleHashOf (ks.map fun k=>reduceHash (Builtin.Tuple.tupleHashOf (k.map hashInt))))
abbrev KN:List ((NK×Addr)×V)->List (NK×Addr×Value)->Prop:=Paired fun p q=>p.1.1=q.1/\p.1.2=q.2.1/\cu p.2 q.2.2
def dNo(a:Addr)(kvs:List ((NK×Addr)×V)):HO:=.ext fun h=>kvs.length<=sizeLine/\(a == sysModules)=false/\∃xs,KN kvs xs/\
 ∃o es ep,h.get? a=some o/\o.ExactDict/\o.data=.dict es ep/\es.toList=(xs.map fun x=>(⟨hNK x.1,.ref x.2.1,x.2.2⟩:DictEntry))/\(xs.map (·.1)).Nodup
def Dr(K:Q1)(H:Hp)(b:Addr)(k:NK):Prop:=∃cs:List Addr,SqT K H b (cs.map V.ref)/\Paired (fun(l:List Int) c=>SqT K H c (l.map V.int)) k cs
theorem Dr.mono{K:Q1}{H H':Hp}{b:Addr}{k:NK}(e:uP K H H')(h:Dr K H b k):Dr K H' b k:=let ⟨cs,p,q⟩:=h;⟨cs,e.t _ _ p,Paired.mapP q fun _ _ z=>e.t _ _ z⟩
def nP(kvs:List ((NK×Addr)×V)):List (NK×V):=kvs.map fun p=>(p.1.1,p.2)
def IsP{κ:Type}(K:Q1)(m:List Addr)(H:Hp)(kvs:List (κ×V))(kus:List (κ×U)):Prop:=kvs.map (·.1)=kus.map (·.1)/\IsL K m H (kvs.map (·.2)) (kus.map (·.2))
def Rf(K:Q1)(m:List Addr)(H:Hp):Option V->Option U->Prop
 |some v,some u=>Is K m H v u
 |none,none=>True
 |_,_=>False
structure InF(K:Q1)(m:List Addr)(H:Hp)(c:Cl)(fs:List (Str×V))(fus:List (Option U)):Prop where
 nd:c.ns.Nodup
 few:c.ns.length<1000
 knd:(fs.map (·.1)).Nodup
 sub:∀x∈fs.map (·.1),x∈c.ns
 len:fus.length=c.ns.length
 at_:∀(i:Nat) (x:Str),c.ns[i]?=some x->Rf K m H (fs.lookup x) ((fus[i]?).join)
theorem Rf.mono{K:Q1}{m m':List Addr}{H H':Hp}{v:Option V}{u:Option U}(e:Ext K m H m' H')(h:Rf K m H v u):Rf K m' H' v u:=by
 cases v with
 |none=>cases u with
  |none=>trivial
  |some u=>exact h.elim
 |some v=>cases u with
  |none=>exact h.elim
  |some u=>exact Is.mono e h
theorem InF.mono{K:Q1}{m m':List Addr}{H H':Hp}{c:Cl}{fs:List (Str×V)}{fus:List (Option U)}(e:Ext K m H m' H')(h:InF K m H c fs fus):InF K m' H' c fs fus:=⟨h.nd,h.few,h.knd,h.sub,h.len,fun i x q=>(h.at_ i x q).mono e⟩
def xf(H:Hp)(pos:Pos)(q:Str)(ps:Array Value):Prop:=TriplesOk ps.toList/\(codeAmong pos ps.toList=none\/∃c ob vs t,codeAmong pos ps.toList=some (.ref c)/\H c=some (.frz ob (.own 0))/\ob.data=.fields vs/\vs[1]?=some (.str q t))
theorem xf.mono{K:Q1}{H H':Hp}{pos:Pos}{q:Str}{ps:Array Value}(e:uP K H H')(h:xf H pos q ps):xf H' pos q ps:=⟨h.1,h.2.imp id fun⟨c,ob,vs,t,h1,h2,h3⟩=>⟨c,ob,vs,t,h1,e.c _ _ h2,h3⟩⟩
def Ob(K:Q1)(m:List Addr)(H:Hp)(a:Addr):O->Prop
 |.lst us=>∃xs,H a=some (.lst xs)/\IsL K m H xs us
 |.dic kus=>∃kvs,H a=some (.dK kvs)/\IsP K m H kvs kus
 |.ins c fus=>∃dx fs,H a=some (.ins c.C dx fs)/\InF K m H c fs fus
 |.fdc ep kus=>∃ob es kvs,H a=some (.frz ob (.dK kvs))/\ob.data=.dict es ep/\IsP K m H kvs kus
 |.dit kus=>∃kvs,H a=some (.dT kvs)/\IsP K m H kvs kus
 |.fdt ep kus=>∃ob es kvs,H a=some (.frz ob (.dT kvs))/\ob.data=.dict es ep/\IsP K m H kvs kus
 |.dnt kus=>∃kvs,H a=some (dNo a kvs)/\(∀p∈kvs,Dr K H p.1.2 p.1.1)/\IsP K m H (nP kvs) kus
 |.fdn ep kus=>∃ob es kvs,H a=some (.frz ob (dNo a kvs))/\ob.data=.dict es ep/\(∀p∈kvs,Dr K H p.1.2 p.1.1)/\IsP K m H (nP kvs) kus
 |.cod p pos q=>a=p/\∃ps,H a=some (.tbl ps)/\xf H pos q ps
structure Sr(K:Q1)(m:List Addr)(S:Sto)(H:Hp):Prop where
 len:m.length=S.length
 nd:m.Nodup
 ob:∀(l:Nat) (a:Addr) (o:O),m[l]?=some a->S[l]?=some o->Ob K m H a o
structure Lr(K:Q1)(m:List Addr)(H:Hp)(ρ:Rho)(σ:L2.St):Prop where
 len:ρ.length=σ.length
 at_:∀(i:Nat) (u:U),ρ[i]?=some (some u)->∃v,σ[i]?=some (some v)/\Is K m H v u
section
variable{κ:Type}{K:Q1}{m m':List Addr}{H H':Hp}{S:Sto}{ρ:Rho}{σ:L2.St}{a q:Addr}{l:Nat}{o:O}{ho:HO}{us:List U}{v:V}{u:U}{kvs:List (κ×V)}{kus:List (κ×U)}
def IsP.mono(e:Ext K m H m' H')(h:IsP K m H kvs kus):IsP K m' H' kvs kus:=⟨h.1,h.2.mono e⟩
def IsP.length(h:IsP K m H kvs kus):kvs.length=kus.length:=by have:=h.2.length;simpa using this
def IsP.nil_:IsP (κ:=κ) K m H [] []:=⟨rfl,.nil_⟩
theorem IsP.cons_{k:κ}(h:Is K m H v u)(t:IsP K m H kvs kus):IsP K m H ((k,v)::kvs) ((k,u)::kus):=⟨by simp[t.1],.cons_ h t.2⟩
theorem IsP.ind{P:List (κ×V)->List (κ×U)->Prop}(h0:P [] [])(h1:∀k v u kvs kus,Is K m H v u->IsP K m H kvs kus->P kvs kus->P ((k,v)::kvs) ((k,u)::kus)):∀{kvs:List (κ×V)} {kus:List (κ×U)},IsP K m H kvs kus->P kvs kus
 |[],[],_=>h0
 |[],p::r,h=>by have:=h.length;simp at this
 |p::r,[],h=>by have:=h.length;simp at this
 |(k,v)::r,(k',u)::r',h=>by
  obtain⟨e,i⟩:=h;simp only[QU,List.cons.injEq]at e;obtain⟨e1,e2⟩:=e;subst e1;obtain⟨x,t,e3,iu,it⟩:=i.of_cons;cases e3;exact h1 k v u r r' iu ⟨e2,it⟩ (IsP.ind h0 h1 (⟨e2,it⟩:IsP K m H r r'))
theorem Ob.mono(e:Ext K m H m' H')(h1:H' a=H a)(h:Ob K m H a o):Ob K m' H' a o:=by
 cases o with
 |lst us=>obtain⟨xs,k,i⟩:=h;exact⟨xs,h1.trans k,i.mono e⟩
 |dic kus=>obtain⟨xs,k,i⟩:=h;exact⟨xs,h1.trans k,i.mono e⟩
 |ins C fus=>obtain⟨dx,fs,k,i⟩:=h;exact⟨dx,fs,h1.trans k,i.mono e⟩
 |fdc ep kus=>obtain⟨ob,es,kvs,k,d,i⟩:=h;exact⟨ob,es,kvs,h1.trans k,d,i.mono e⟩
 |dit kus=>obtain⟨xs,k,i⟩:=h;exact⟨xs,h1.trans k,i.mono e⟩
 |fdt ep kus=>obtain⟨ob,es,kvs,k,d,i⟩:=h;exact⟨ob,es,kvs,h1.trans k,d,i.mono e⟩
 |dnt kus=>obtain⟨kvs,k,y,i⟩:=h;exact⟨kvs,h1.trans k,fun p hp=>(y p hp).mono e.keep,i.mono e⟩
 |fdn ep kus=>obtain⟨ob,es,kvs,k,d,y,i⟩:=h;exact⟨ob,es,kvs,h1.trans k,d,fun p hp=>(y p hp).mono e.keep,i.mono e⟩
 |cod p pos q=>obtain⟨z,ps,k,i⟩:=h;exact⟨z,ps,h1.trans k,i.mono e.keep⟩
theorem Ob.some(h:Ob K m H a o):∃ho,H a=some ho/\(∀xs,ho≠.tup xs)/\(∀ob xs,ho≠.frz ob (.tup xs))/\(∀ob xs,ho≠.frz ob (.lst xs))/\(∀ob,ho≠.frz ob (.own 0)):=by
 cases o with
 |lst us=>obtain⟨xs,k,i⟩:=h;exact⟨_,k,by simp,by simp,by simp,by simp⟩
 |dic kus=>obtain⟨xs,k,i⟩:=h;exact⟨_,k,by simp,by simp,by simp,by simp⟩
 |ins C fus=>obtain⟨dx,fs,k,i⟩:=h;exact⟨_,k,by simp,by simp,by simp,by simp⟩
 |fdc ep kus=>obtain⟨ob,es,kvs,k,d,i⟩:=h;exact⟨_,k,by simp,by simp,by simp,by simp⟩
 |dit kus=>obtain⟨xs,k,i⟩:=h;exact⟨_,k,by simp,by simp,by simp,by simp⟩
 |fdt ep kus=>obtain⟨ob,es,kvs,k,d,i⟩:=h;exact⟨_,k,by simp,by simp,by simp,by simp⟩
 |dnt kus=>obtain⟨kvs,k,y,i⟩:=h;exact⟨_,k,by simp[dNo],by simp[dNo],by simp[dNo],by simp[dNo]⟩
 |fdn ep kus=>obtain⟨ob,es,kvs,k,d,y,i⟩:=h;exact⟨_,k,by simp,by simp[dNo],by simp[dNo],by simp[dNo]⟩
 |cod p pos q=>obtain⟨z,ps,k,i⟩:=h;exact⟨_,k,by simp,by simp,by simp,by simp⟩
theorem Lr.mono(e:Ext K m H m' H')(h:Lr K m H ρ σ):Lr K m' H' ρ σ:=⟨h.len,fun i u e1=>let ⟨v,e2,e3⟩:=h.at_ i u e1;⟨v,e2,e3.mono e⟩⟩
theorem Lr.set(h:Lr K m H ρ σ)(i:Nat)(hv:Is K m H v u):Lr K m H (ρ.set i (some u)) (σ.set i (some v)):=by
 refine⟨by simp[h.len],fun j w e=>?_⟩;by_cases c:i=j
 ·subst c;rw[List.getElem?_set_self' ]at e;rw[List.getElem?_set_self'];have hl:=h.len;cases e1:ρ[i]? with
  |none=>rw[e1]at e;simp at e
  |some z=>
   rw[e1]at e;simp at e;subst e;have:i < σ.length:=by rw[<-hl];exact(Q4.mp e1).1
   rw[QV this];exact⟨v,rfl,hv⟩
 ·rw[QM c]at e;rw[QM c];exact h.at_ j w e
theorem Sr.get(r:Sr K m S H)(h:S[l]?=some o):∃a,m[l]?=some a/\Ob K m H a o:=by
 have hl:l<m.length:=by rw[r.len];exact(Q4.mp h).1
 exact⟨_,QV hl,r.ob _ _ _ (QV hl) h⟩
theorem Sr.at_(r:Sr K m S H)(h:m[l]?=some a):∃o,S[l]?=some o/\Ob K m H a o:=by
 have hl:l<S.length:=by rw[<-r.len];exact(Q4.mp h).1
 exact⟨_,QV hl,r.ob _ _ _ h (QV hl)⟩
theorem Sr.same(r:Sr K m S H)(s:yg H H'):Sr K m S H':=⟨r.len,r.nd,fun l a o h1 h2=>by
 have q:=r.ob l a o h1 h2;obtain⟨ho,e,_⟩:=q.some;exact q.mono (.of (cI s)) (by rw[s _ _ e,e])⟩
theorem Sr.new(r:Sr K m S H)(h:H q=none)(n:Ob K (m++[q]) (upd H q ho) q o):Sr K (m++[q]) (S++[o]) (upd H q ho):=by
 have hq:q∉m:=fun z=>by
  obtain⟨l,e⟩:=List.getElem?_of_mem z;obtain⟨o,_,k⟩:=r.at_ e;obtain⟨ho,e2,_⟩:=k.some;rw[h]at e2;cases e2
 refine⟨by simp[r.len],?_,fun l a o' h1 h2=>?_⟩
 ·rw[List.nodup_append];exact⟨r.nd,by simp,fun x hx y hy z=>by simp at hy;subst hy;subst z;exact hq hx⟩
 ·by_cases c:l<m.length
  ·rw[Qk c]at h1;rw[Qk (by rw[<-r.len];exact c)]at h2;have q':=r.ob l a o' h1 h2;obtain⟨ho',e,_⟩:=q'.some;exact q'.mono (.new (cy h _)) (by rw[aK (cV e h)])
  ·have e:l=m.length:=by
    have:=(Q4.mp h1).1;simp at this;omega
   subst e;rw[Qj (Q5 _)]at h1;rw[Qj (by rw[r.len];exact Q5 _)]at h2;simp[r.len]at h1 h2;subst h1;subst h2;exact n
theorem Sr.put(r:Sr K m S H)(h:m[l]?=some a)(n:Ob K m (upd H a ho) a o):Sr K m (S.set l o) (upd H a ho):=by
 obtain⟨o0,h0,k0⟩:=r.at_ h;obtain⟨ho',e,nt,nf,nl,nc⟩:=k0.some;refine⟨by simp[r.len],r.nd,fun l' a' o' h1 h2=>?_⟩;by_cases c:l=l'
 ·subst c;rw[h]at h1;cases h1;rw[List.getElem?_set_self (Q4.mp h0).1]at h2;cases h2;exact n
 ·rw[QM c]at h2;have na:a'≠a:=fun z=>by
   subst z;obtain⟨p1,e1⟩:=Q4.mp h;obtain⟨p2,e2⟩:=Q4.mp h1;exact c ((List.getElem_inj r.nd).mp (e1.trans e2.symm))
  exact(r.ob l' a' o' h1 h2).mono (.of (pZ e nt nf nl nc _)) (by rw[aK na])
theorem Sr.keep(r:Sr K m S H)(h:m[l]?=some a)(ho:HO):uP K H (upd H a ho):=by
 obtain⟨o0,h0,k0⟩:=r.at_ h;obtain⟨ho',e,nt,nf,nl,nc⟩:=k0.some;exact pZ e nt nf nl nc _
end
def iX(K:Q1)(m:List Addr)(H:Hp)(Q:VK)(u:U)(S':Sto):Prop:=∀m' v H',Ext K m H m' H'->Sr K m' S' H'->Is K m' H' v u->Q v H'
abbrev CE:=Rho->Sto->Option (U×Sto)
abbrev CT:=Rho->Sto->Option (Bool×Sto)
abbrev CA:=Rho->Sto->Option (List U×Sto)
inductive Out where
 |nx|rt (u:U)|bk|ct
abbrev CS:=Rho->Sto->Option (Out×Rho×Sto)
def xg(K:Q1)(m:List Addr)(H:Hp)(Q:Bool->Hp->Prop)(b:Bool)(S':Sto):Prop:=∀m' H',Ext K m H m' H'->Sr K m' S' H'->Q b H'
def F4(K:Q1)(m:List Addr)(H:Hp)(Q:List V->Hp->Prop)(us:List U)(S':Sto):Prop:=∀m' vs H',Ext K m H m' H'->Sr K m' S' H'->IsL K m' H' vs us->Q vs H'
def gF(K:Q1)(m:List Addr)(H:Hp)(Q:L2.St->Hp->Prop)(ρ':Rho)(S':Sto):Prop:=∀m' σ' H',Ext K m H m' H'->Sr K m' S' H'->Lr K m' H' ρ' σ'->Q σ' H'
def rn(K:Q1)(m:List Addr)(H:Hp)(D:uW):Out->Rho->Sto->Prop
 |.nx,ρ',S'=>gF K m H D.nx ρ' S'
 |.bk,ρ',S'=>gF K m H D.bk ρ' S'
 |.ct,ρ',S'=>gF K m H D.ct ρ' S'
 |.rt u,_,S'=>iX K m H D.rt u S'
theorem kg{α β γ δ ε:Type}{A B C D:α->β->γ->δ->ε->Prop}{p:Prop}(h:∃a b c d e,A a b c d e/\B a b c d e/\C a b c d e/\D a b c d e)(f:∀a b c d e,A a b c d e->B a b c d e->C a b c d e->D a b c d e->p):p:=by
 obtain⟨a,b,c,d,e,h1,h2,h3,h4⟩:=h;exact f a b c d e h1 h2 h3 h4
theorem qZ{α β γ δ ε ζ:Type}{A B C D:α->β->γ->δ->ε->ζ->Prop}{p:Prop}(h:∃a b c d e g,A a b c d e g/\B a b c d e g/\C a b c d e g/\D a b c d e g)(f:∀a b c d e g,A a b c d e g->B a b c d e g->C a b c d e g->D a b c d e g->p):p:=by
 obtain⟨a,b,c,d,e,g,h1,h2,h3,h4⟩:=h;exact f a b c d e g h1 h2 h3 h4
theorem GL{α β γ δ ε ζ:Type}{A B C D E:α->β->γ->δ->ε->ζ->Prop}{p:Prop}(h:∃a b c d e g,A a b c d e g/\B a b c d e g/\C a b c d e g/\D a b c d e g/\E a b c d e g)(f:∀a b c d e g,A a b c d e g->B a b c d e g->C a b c d e g->D a b c d e g->E a b c d e g->p):p:=by
 obtain⟨a,b,c,d,e,g,h1,h2,h3,h4,h5⟩:=h;exact f a b c d e g h1 h2 h3 h4 h5
def tE(K:Q1)(c:CE):TE:=fun σ H Q=>∃m ρ S u S',Sr K m S H/\Lr K m H ρ σ/\c ρ S=some (u,S')/\iX K m H Q u S'
def tT(K:Q1)(c:CT):TT:=fun σ H Q=>∃m ρ S u S',Sr K m S H/\Lr K m H ρ σ/\c ρ S=some (u,S')/\xg K m H Q u S'
def tA(K:Q1)(c:CA):TA:=fun σ H Q=>∃m ρ S u S',Sr K m S H/\Lr K m H ρ σ/\c ρ S=some (u,S')/\F4 K m H Q u S'
def tS(K:Q1)(c:CS):TS:=fun D σ H=>∃m ρ S o ρ' S',Sr K m S H/\Lr K m H ρ σ/\c ρ S=some (o,ρ',S')/\rn K m H D o ρ' S'
abbrev QE(X:Cx)(e:Expr)(c:CE):Prop:=WE X e (tE X.K c)
abbrev QT(X:Cx)(e:Expr)(c:CT):Prop:=WT X e (tT X.K c)
abbrev QW(X:Cx)(e:Expr)(c:CT):Prop:=WW X e (tT X.K c)
abbrev QS(X:Cx)(e:Stmt)(c:CS):Prop:=WS X e (tS X.K c)
abbrev QSs(X:Cx)(e:List Stmt)(c:CS):Prop:=WSs X e (tS X.K c)
structure QA(X:Cx)(es:List Expr)(c:CA):Prop where
 h:WA X es (tA X.K c)
 len:∀ρ S us S',c ρ S=some (us,S')->us.length=es.length
section
variable{X:Cx}{e:Expr}{es:List Expr}{st:Stmt}{sts:List Stmt}
theorem _root_.OG.WE.imp{t t':TE}(h:WE X e t)(i:∀σ H Q,t' σ H Q->t σ H Q):WE X e t':=⟨fun pins s σ H Q I k=>h.h pins s σ H Q I (i σ H Q k)⟩
theorem _root_.OG.WT.imp{t t':TT}(h:WT X e t)(i:∀σ H Q,t' σ H Q->t σ H Q):WT X e t':=⟨fun pins s σ H Q I k=>h.h pins s σ H Q I (i σ H Q k)⟩
theorem _root_.OG.WW.imp{t t':TT}(h:WW X e t)(i:∀σ H Q,t' σ H Q->t σ H Q):WW X e t':=⟨fun wh pins s σ H Q I k=>h.h wh pins s σ H Q I (i σ H Q k)⟩
theorem _root_.OG.WA.imp{t t':TA}(h:WA X es t)(i:∀σ H Q,t' σ H Q->t σ H Q):WA X es t':=⟨fun pos pins s σ H Q I k=>h.h pos pins s σ H Q I (i σ H Q k)⟩
theorem _root_.OG.WS.imp{t t':TS}(h:WS X st t)(i:∀D σ H,t' D σ H->t D σ H):WS X st t':=⟨fun pins s σ H D I k=>h.h pins s σ H D I (i D σ H k)⟩
theorem _root_.OG.WSs.imp{t t':TS}(h:WSs X sts t)(i:∀D σ H,t' D σ H->t D σ H):WSs X sts t':=⟨fun pins s σ H D I k=>h.h pins s σ H D I (i D σ H k)⟩
theorem _root_.OG.WI.imp{tg:Expr}{t t':TI}(h:WI X tg e t)(i:∀σ H R,t' σ H R->t σ H R):WI X tg e t':=⟨fun pins s σ H R I k=>h.h pins s σ H R I (i σ H R k)⟩
theorem _root_.OG.WG.imp{t t':TG}(h:WG X e t)(i:∀v σ H Q,t' v σ H Q->t v σ H Q):WG X e t':=⟨fun pins s σ H v u Q I r k=>h.h pins s σ H v u Q I r (i v σ H Q k)⟩
theorem _root_.OG.WGs.imp{t t':TGs}(h:WGs X es t)(i:∀v σ H Q,t' v σ H Q->t v σ H Q):WGs X es t':=⟨fun pins s σ H v u Q I r k=>h.h pins s σ H v u Q I r (i v σ H Q k)⟩
theorem _root_.OG.WE.or{t t':TE}(h:WE X e t)(h':WE X e t'):WE X e (fun σ H Q=>t σ H Q\/t' σ H Q):=⟨fun pins s σ H Q I k=>k.elim (h.h pins s σ H Q I) (h'.h pins s σ H Q I)⟩
theorem _root_.OG.WT.or{t t':TT}(h:WT X e t)(h':WT X e t'):WT X e (fun σ H Q=>t σ H Q\/t' σ H Q):=⟨fun pins s σ H Q I k=>k.elim (h.h pins s σ H Q I) (h'.h pins s σ H Q I)⟩
theorem _root_.OG.WS.or{t t':TS}(h:WS X st t)(h':WS X st t'):WS X st (fun D σ H=>t D σ H\/t' D σ H):=⟨fun pins s σ H D I k=>k.elim (h.h pins s σ H D I) (h'.h pins s σ H D I)⟩
theorem _root_.OG.WI.or{tg:Expr}{t t':TI}(h:WI X tg e t)(h':WI X tg e t'):WI X tg e (fun σ H D=>t σ H D\/t' σ H D):=⟨fun pins s σ H D I k=>k.elim (h.h pins s σ H D I) (h'.h pins s σ H D I)⟩
end
section
variable{K:Q1}{m m':List Addr}{H H':Hp}{Q:VK}{R:L2.St->Hp->Prop}{D:uW}{u:U}{o:Out}{S':Sto}{ρ':Rho}
def iX.mono(e:Ext K m H m' H')(p:iX K m H Q u S'):iX K m' H' Q u S':=fun m2 v H2 e2 r i=>p m2 v H2 (e.trans e2) r i
theorem xg.mono{Q:Bool->Hp->Prop}{b:Bool}(e:Ext K m H m' H')(p:xg K m H Q b S'):xg K m' H' Q b S':=fun m2 H2 e2 r=>p m2 H2 (e.trans e2) r
theorem gF.mono(e:Ext K m H m' H')(p:gF K m H R ρ' S'):gF K m' H' R ρ' S':=fun m2 v H2 e2 r i=>p m2 v H2 (e.trans e2) r i
theorem rn.mono(e:Ext K m H m' H')(p:rn K m H D o ρ' S'):rn K m' H' D o ρ' S':=by
 cases o with
 |nx=>exact gF.mono e p
 |rt u=>exact iX.mono e p
 |bk=>exact gF.mono e p
 |ct=>exact gF.mono e p
end
def LIM:Nat:=100000
def lim{n:Nat}(h:n<=LIM):n<=sizeLine:=QL h (by unfold LIM sizeLine;decide)
def DK{n:Nat}(h:n<LIM):n<sizeLine:=QR h (by unfold LIM sizeLine;decide)
def ak(i:Nat):CE:=fun ρ S=>match ρ[i]? with
 |some (some u)=>some (u,S)
 |_=>none
def cC(u:U):CE:=fun _ S=>some (u,S)
section
variable{X:Cx}{e a b c:Expr}{ca cb:CE}{pos:Pos}
theorem ae{i:Nat}(h:WE X e (DD i)):QE X e (ak i):=h.imp fun σ H Q hz=>kg hz fun m ρ S u S' sr lr hc post=>by
 unfold ak at hc;split at hc
 ·rename_i u' e;cases hc;obtain⟨v,e1,e2⟩:=lr.at_ i u e;exact⟨v,e1,post m v H .refl sr e2⟩
 ·cases hc
theorem q_c{v:V}{u:U}(h:WE X e (tC v))(hi:∀m H,Is X.K m H v u):QE X e (cC u):=h.imp fun σ H Q hz=>kg hz fun m ρ S u' S' sr lr hc post=>by
 cases hc;exact post m v H .refl sr (hi m H)
def aS{i:Int}(h:WE X e (tC (.int i))):QE X e (cC (.int i)):=q_c h fun _ _=>.int_
def xG{i:Bool}(h:WE X e (tC (.bl i))):QE X e (cC (.bl i)):=q_c h fun _ _=>.bl_
def cE{i:Str}(h:WE X e (tC (.str i))):QE X e (cC (.str i)):=q_c h fun _ _=>.str_
def qJ(h:WE X e (tC .non)):QE X e (cC .non):=q_c h fun _ _=>.non_
def cOp(f:U->U->Sto->Option (U×Sto))(ca cb:CE):CE:=fun ρ S=>(ca ρ S).bind fun p=>(cb ρ p.2).bind fun q=>f p.1 q.1 q.2
def OpP(K:Q1)(r:R2)(f:U->U->Sto->Option (U×Sto)):Prop:=
 ∀m S H x y v w u S' Q,Sr K m S H->Is K m H v x->Is K m H w y->f x y S=some (u,S')->iX K m H Q u S'->r v w H Q
theorem sW{K:Q1}{r:R2}{f:U->U->Sto->Option (U×Sto)}(hp:OpP K r f):∀σ H Q,tE K (cOp f ca cb) σ H Q->tOp r (tE K ca) (tE K cb) σ H Q:=by
 rintro σ H Q ⟨m,ρ,S,u,S',sr,lr,hc,post⟩;obtain⟨⟨x,S1⟩,h1,h⟩:=Q0.mp hc;obtain⟨⟨y,S2⟩,h2,h3⟩:=Q0.mp h;exact⟨m,ρ,S,x,S1,sr,lr,h1,fun m1 v1 H1 e1 sr1 i1=>⟨m1,ρ,S1,y,S2,sr1,lr.mono e1,h2,fun m2 v2 H2 e2 sr2 i2=>hp m2 S2 H2 x y v1 v2 u S' Q sr2 (i1.mono e2) i2 h3 (post.mono (e1.trans e2))⟩⟩
theorem iM{op:Operator}{r:R2}{f:U->U->Sto->Option (U×Sto)}(ho:OpR X (binaryOp op) r)(hp:OpP X.K r f)(ha:QE X a ca)(hb:QE X b cb):QE X (.BinOp a op b pos) (cOp f ca cb):=(Bw ho ha hb).imp (sW hp)
theorem zj{op:CmpOp}{r:R2}{f:U->U->Sto->Option (U×Sto)}(ho:OpR X (compareOp op) r)(hp:OpP X.K r f)(ha:QE X a ca)(hb:QE X b cb)(hm:behindInMarks op b=false):QE X (.Compare a [op] [b] pos) (cOp f ca cb):=(vn ho ha hb hm).imp (sW hp)
def aP(c:CE):CT:=fun ρ S=>(c ρ S).bind fun p=>match p.1 with
 |.bl b=>some (b,p.2)
 |_=>none
theorem jn{K:Q1}{c:CE}{t:TE}(h:∀σ H Q,tE K c σ H Q->t σ H Q):∀σ H Q,tT K (aP c) σ H Q->t σ H fun x H'=>∃k,x=.bl k/\Q k H':=by
 rintro σ H Q ⟨m,ρ,S,u,S',sr,lr,hc,post⟩;obtain⟨⟨x,S1⟩,h1,h2⟩:=Q0.mp hc;refine h σ H _ ⟨m,ρ,S,x,S1,sr,lr,h1,fun m1 v1 H1 e1 sr1 i1=>?_⟩;cases x<;>simp at h2;obtain⟨rfl,rfl⟩:=h2;exact⟨_,i1.of_bl,post m1 H1 e1 sr1⟩
theorem bN{op:CmpOp}{r:R2}{f:U->U->Sto->Option (U×Sto)}(ho:OpR X (compareOp op) r)(hp:OpP X.K r f)(ha:QE X a ca)(hb:QE X b cb)(hm:behindInMarks op b=false):QT X (.Compare a [op] [b] pos) (aP (cOp f ca cb)):=(kW ho ha hb hm).imp (jn (sW hp))
theorem kE(h:QE X e ca)(he:∀whole,isTrue e X.env whole=(do let v <-whole;standAt e.pos;holding [v] (truthy v)):=by intro _;rfl):QT X e (aP ca):=(yH h he).imp (jn fun _ _ _ z=>z)
variable{ta tb:CT}{rest:List Expr}
def Dh(ta tb:CT):CT:=fun ρ S=>(ta ρ S).bind fun p=>if p.1=true then tb ρ p.2 else some (false,p.2)
def cOr(ta tb:CT):CT:=fun ρ S=>(ta ρ S).bind fun p=>if p.1=true then some (true,p.2)else tb ρ p.2
def FY(ta:CT):CT:=fun ρ S=>(ta ρ S).bind fun p=>some (!p.1,p.2)
def BP(h:QW X e ta):QT X e ta:=WW.pt h
def BV(ha:QT X a ta):QW X (.BoolOp .And [a] pos) ta:=u3 ha
def vC(ha:QT X a ta):QW X (.BoolOp .Or [a] pos) ta:=yF ha
theorem Fe(ha:QT X a ta)(hb:QW X (.BoolOp .And (b::rest) pos) tb):QW X (.BoolOp .And (a::b::rest) pos) (Dh ta tb):=(yG ha hb).imp fun σ H Q hz=>kg hz fun m ρ S u S' sr lr hc post=>by
 obtain⟨⟨x,S1⟩,h1,h2⟩:=Q0.mp hc;refine⟨m,ρ,S,x,S1,sr,lr,h1,fun m1 H1 e1 sr1=>?_⟩;cases x with
 |true=>exact DQ ⟨m1,ρ,S1,u,S',sr1,lr.mono e1,h2,post.mono e1⟩
 |false=>cases h2;exact DR (post m1 H1 e1 sr1)
theorem BS(ha:QT X a ta)(hb:QW X (.BoolOp .Or (b::rest) pos) tb):QW X (.BoolOp .Or (a::b::rest) pos) (cOr ta tb):=(Bt ha hb).imp fun σ H Q hz=>kg hz fun m ρ S u S' sr lr hc post=>by
 obtain⟨⟨x,S1⟩,h1,h2⟩:=Q0.mp hc;refine⟨m,ρ,S,x,S1,sr,lr,h1,fun m1 H1 e1 sr1=>?_⟩;cases x with
 |true=>cases h2;exact DQ (post m1 H1 e1 sr1)
 |false=>exact DR ⟨m1,ρ,S1,u,S',sr1,lr.mono e1,h2,post.mono e1⟩
theorem BQ(ha:QT X a ta):QT X (.UnaryOp .Not a pos) (FY ta):=(yI ha).imp fun σ H Q hz=>kg hz fun m ρ S u S' sr lr hc post=>by
 obtain⟨⟨x,S1⟩,h1,h2⟩:=Q0.mp hc;cases h2;exact⟨m,ρ,S,x,_,sr,lr,h1,fun m1 H1 e1 sr1=>post m1 H1 e1 sr1⟩
def Dg(ca cb:CE):CE:=fun ρ S=>(ca ρ S).bind fun p=>match p.1 with
 |.bl true=>cb ρ p.2
 |.bl false=>some (.bl false,p.2)
 |_=>none
def DV(ca cb:CE):CE:=fun ρ S=>(ca ρ S).bind fun p=>match p.1 with
 |.bl false=>cb ρ p.2
 |.bl true=>some (.bl true,p.2)
 |_=>none
def Dd(ca:CE):CE:=fun ρ S=>(ca ρ S).bind fun p=>match p.1 with
 |.bl b=>some (.bl (!b),p.2)
 |_=>none
def Fd{op}(h:QE X a ca):QE X (.BoolOp op [a] pos) ca:=yQ h
theorem Fc(ha:QE X a ca)(hb:QE X (.BoolOp .Or (b::rest) pos) cb):QE X (.BoolOp .Or (a::b::rest) pos) (DV ca cb):=(Bv ha hb).imp fun σ H Q hz=>kg hz fun m ρ S u S' sr lr hc post=>by
 obtain⟨⟨x,S1⟩,h1,h2⟩:=Q0.mp hc;refine⟨m,ρ,S,x,S1,sr,lr,h1,fun m1 v1 H1 e1 sr1 i1=>?_⟩;cases x with
 |bl k=>
  refine⟨k,i1.of_bl,?_⟩;cases k with
  |false=>exact DR ⟨m1,ρ,S1,u,S',sr1,lr.mono e1,h2,post.mono e1⟩
  |true=>cases h2;exact DQ (post m1 _ H1 e1 sr1 .bl_)
 |_=>simp at h2
def cIf(t:CT)(ca cb:CE):CE:=fun ρ S=>(t ρ S).bind fun p=>if p.1=true then ca ρ p.2 else cb ρ p.2
variable{es:List Expr}{cr:CA}
def aH:CA:=fun _ S=>some ([],S)
def ag(ca:CE)(cr:CA):CA:=fun ρ S=>(ca ρ S).bind fun p=>(cr ρ p.2).bind fun q=>some (p.1::q.1,q.2)
theorem aF:QA X [] aH:=⟨yV.imp fun σ H Q hz=>kg hz fun m ρ S u S' sr lr hc post=>by cases hc;exact post m [] H .refl sr .nil_,fun ρ S us S' h=>by cases h;rfl⟩
theorem ah(ha:QE X e ca)(hr:QA X es cr)(hs:starEach (e::es) X.env=(false,eval e X.env)::starEach es X.env:=by rfl):QA X (e::es) (ag ca cr):=⟨(vo ha hr.h hs).imp fun σ H Q hz=>kg hz fun m ρ S u S' sr lr hc post=>by
 obtain⟨⟨x,S1⟩,h1,h⟩:=Q0.mp hc;obtain⟨⟨y,S2⟩,h2,h3⟩:=Q0.mp h;cases h3;exact⟨m,ρ,S,x,S1,sr,lr,h1,fun m1 v1 H1 e1 sr1 i1=>⟨m1,ρ,S1,y,S2,sr1,lr.mono e1,h2,fun m2 v2 H2 e2 sr2 i2=>post m2 _ H2 (e1.trans e2) sr2 (.cons_ (i1.mono e2) i2)⟩⟩,
 fun ρ S us S' h=>by
 obtain⟨⟨x,S1⟩,h1,h⟩:=Q0.mp h;obtain⟨⟨y,S2⟩,h2,h3⟩:=Q0.mp h;cases h3;simp[hr.len ρ S1 y S2 h2]⟩
def gi(cr:CA):CE:=fun ρ S=>(cr ρ S).bind fun p=>some (.tup p.1,p.2)
def fQ(cr:CA):CE:=fun ρ S=>(cr ρ S).bind fun p=>some (.ref p.2.length,p.2++[.lst p.1])
def eY{m:List Addr}{S:Sto}{q:Addr}(h:m.length=S.length):(m++[q])[S.length]?=some q:=by rw[Qj (by omega)];simp[h]
theorem k9{K:Q1}{m:List Addr}{H:Hp}{S:Sto}{us:List U}{xs:List V}{Q:VK}{p:Addr}(sr:Sr K m S H)(i:IsL K m H xs us)(post:iX K m H Q (.tup us) S)(hp:H p=none):Q (.ref p) (upd H p (.tup xs)):=
 post m _ _ (.of (cy hp _)) (sr.same (gw hp _)) (.tup_ (SqT.of aI) (i.mono (.of (cy hp _))))
theorem eD{K:Q1}{m:List Addr}{H:Hp}{S:Sto}{us:List U}{xs:List V}{Q:VK}{p:Addr}(sr:Sr K m S H)(i:IsL K m H xs us)(post:iX K m H Q (.ref S.length) (S++[.lst us]))(hp:H p=none):Q (.ref p) (upd H p (.lst xs)):=
 post (m++[p]) _ _ (.new (cy hp _)) (sr.new hp ⟨xs,aI,i.mono (.new (cy hp _))⟩) (.ref_ (eY sr.len))
theorem fF{x1}(h:QA X es cr)(hl:es.length<=1000:=by exact Nat.le_of_ble_eq_true rfl):QE X (.Tuple es x1 pos) (gi cr):=(yP h.h).imp fun σ H Q hz=>kg hz fun m ρ S u S' sr lr hc post=>by
 obtain⟨⟨us,S1⟩,h1,h2⟩:=Q0.mp hc;cases h2;refine⟨m,ρ,S,us,_,sr,lr,h1,fun m1 v1 H1 e1 sr1 i1=>⟨mz ?_,fun p hp=>k9 sr1 i1 (post.mono e1) hp⟩⟩;rw[i1.length,h.len _ _ _ _ h1];exact hl
theorem fO(h:QA X es cr)(hl:es.length<=1000:=by exact Nat.le_of_ble_eq_true rfl):QE X (.List es pos) (fQ cr):=(yR h.h).imp fun σ H Q hz=>kg hz fun m ρ S u S' sr lr hc post=>by
 obtain⟨⟨us,S1⟩,h1,h2⟩:=Q0.mp hc;cases h2;refine⟨m,ρ,S,us,_,sr,lr,h1,fun m1 v1 H1 e1 sr1 i1=>⟨mz ?_,fun p hp=>eD sr1 i1 (post.mono e1) hp⟩⟩;rw[i1.length,h.len _ _ _ _ h1];exact hl
def cCB(f:List U->Sto->Option (U×Sto))(cr:CA):CE:=fun ρ S=>(cr ρ S).bind fun p=>f p.1 p.2
def nU(K:Q1)(r:List V->Hp->VK->Prop)(f:List U->Sto->Option (U×Sto)):Prop:=
 ∀m S H us vs u S' Q,Sr K m S H->IsL K m H vs us->f us S=some (u,S')->iX K m H Q u S'->r vs H Q
theorem yd{K:Q1}{r:List V->Hp->VK->Prop}{f:List U->Sto->Option (U×Sto)}(hp:nU K r f):∀σ H Q,tE K (cCB f cr) σ H Q->tCB r (tA K cr) σ H Q:=by
 rintro σ H Q ⟨m,ρ,S,u,S',sr,lr,hc,post⟩;obtain⟨⟨us,S1⟩,h1,h2⟩:=Q0.mp hc;exact⟨m,ρ,S,us,S1,sr,lr,h1,fun m1 v1 H1 e1 sr1 i1=>hp m1 S1 H1 us v1 u S' Q sr1 i1 h2 (post.mono e1)⟩
theorem eN{id:String}{x:Str}{p:Pos}{r:List V->Hp->VK->Prop}{f:List U->Sto->Option (U×Sto)}(hc:gv X (.builtin id) r)(hp:nU X.K r f)(hg:Gl X x)(hm:X.mg x=none)(hv:bootBuiltins x=some (.builtin id))(ha:QA X (e::es) cr)(hn:x≠"__name__":=by decide)(hdb:(x == ("__debug__":Str))=false:=by decide)(he:starEach (e::es) X.env=(false,eval e X.env)::starEach es X.env:=by rfl)(hpl:(backTo pos (starEach es X.env)).any (·.1)=false:=by rfl) :
  QE X (.Call (.Name x p) (e::es) [] pos) (cCB f cr):=(rV hc hg hm hv ha.h hn hdb he hpl).imp (yd hp)
theorem js{id:String}{x:Str}{p:Pos}{r:List V->Hp->VK->Prop}{f:List U->Sto->Option (U×Sto)}(hc:gv X (.type id) r)(hp:nU X.K r f)(hg:Gl X x)(hm:X.mg x=none)(hv:bootBuiltins x=some (.type id))(ha:QA X (e::es) cr)(hn:x≠"__name__":=by decide)(hdb:(x == ("__debug__":Str))=false:=by decide)(he:starEach (e::es) X.env=(false,eval e X.env)::starEach es X.env:=by rfl)(hpl:(backTo pos (starEach es X.env)).any (·.1)=false:=by rfl) :
  QE X (.Call (.Name x p) (e::es) [] pos) (cCB f cr):=(qD hc hg hm hv ha.h hn hdb he hpl).imp (yd hp)
end
def vw(K:Q1)(f:List U->Sto->Option (U×Sto)):Sp:=fun vs H Q _=>∃m us S u S',IsL K m H vs us/\Sr K m S H/\f us S=some (u,S')/\iX K m H Q u S'
abbrev Fn:=List U->Sto->Option (U×Sto)
abbrev oV(P:Program)(w:World)(K:Q1)(mg:Str->Option Value)(base:Heap)(x:Str)(k:Nat)(ps:List Str)(f:Fn):Prop:=Has P w K mg base x k ps (vw K f)
def mx(n:Nat)(us:List U):Rho:=us.map some++QQ (n-us.length) none
def fnU(n k:Nat)(c:CS):Fn:=fun us S=>if us.length=k then(c (mx n us) S).bind fun r=>match r.1 with
 |.rt u=>some (u,r.2.2)
 |.nx=>some (.non,r.2.2)
 |_=>none else none
section
variable{P:Program}{w:World}{K:Q1}{mg:Str->Option Value}{base:Heap}{x:Str}{st:Stmt}{ps N:List Str}{k:Nat}{c:CS}{f:Fn}
theorem wt{m:List Addr}{H:Hp}{vs:List V}{us:List U}(i:IsL K m H vs us):Lr K m H (mx N.length us) (L2.ic N vs):=by
 have hl:=i.length;refine⟨by simp[mx,L2.ic,hl],fun j u e=>?_⟩;unfold mx at e;unfold L2.ic;by_cases c:j<us.length
 ·rw[Qk (by simpa using c),Qq]at e;rw[Qk (by simpa [hl] using c),Qq];rw[QV c]at e;simp at e;obtain⟨v,e1,e2⟩:=i.getD (QV c);rw[e1];subst e;exact⟨v,rfl,e2⟩
 ·rw[Qj (by simpa using c),Ql]at e;split at e<;>cases e
theorem oC{X:Cx}{body:List Stmt}{Q:VK}{E:XK}{vs:List V}{H:Hp}(hK:X.K=K)(h:vw K (fnU N.length ps.length c) vs H Q E):tS X.K c { nx:=fun _ H'=>Q .non H',rt:=Q } (L2.ic N vs) H:=by
 subst hK;obtain⟨m,us,S,u,S',i,sr,hf,post⟩:=h;unfold fnU at hf;split at hf
 ·obtain⟨⟨o,ρ',S2⟩,h1,h2⟩:=Q0.mp hf;refine⟨m,_,S,o,ρ',S2,sr,wt i,h1,?_⟩;cases o with
  |rt v=>cases h2;exact post
  |nx=>cases h2;exact fun m1 σ1 H1 e1 sr1 _=>post m1 _ H1 e1 sr1 .non_
  |bk=>simp at h2
  |ct=>simp at h2
 ·cases hf
theorem kZ{vs:List V}{H:Hp}{Q:VK}{E:XK}{n k:Nat}(h:vw K (fnU n k c) vs H Q E):vs.length=k:=by
 obtain⟨m,us,S,u,S',i,sr,hf,post⟩:=h;unfold fnU at hf;split at hf
 ·rename_i e;rw[i.length,e]
 ·cases hf
theorem _root_.OG.Def.pure(d:Def K mg x st ps)(S:aQ N ps (aw st))
  (hb:∀(f:Addr) (cdv:Value) (A:Around) (outer:List Env) (s:Shared) (H:Hp) (E:XK),eU k (A.deeper (envOfC x (aw st) s.heap.objs.size f cdv))->
   WSs (nW CX0 P w K mg base N x (aw st) f cdv A outer s H E).nox (cU st) (tS K c)):oV P w K mg base x (k+1) ps (fnU N.length ps.length c):=
 d.has S (fun vs H Q E h=>kZ h) fun f cdv A outer s H vs Q E hr h=>⟨_,hb f cdv A outer s H E hr,oC (X:=(nW CX0 P w K mg base N x (aw st) f cdv A outer s H E).nox) (body:=[]) (ps:=ps) rfl h⟩
theorem cH{X:Cx}{e:Expr}{es:List Expr}{cr:CA}{p pos:Pos}(F:Has X.prog X.w X.K X.mg X.base x k ps (vw X.K f))(hr:eU k X.A)(hg:Gl X x)(ha:QA X (e::es) cr)
  (hdb:(x == ("__debug__":Str))=false:=by decide) (he:starEach (e::es) X.env=(false,eval e X.env)::starEach es X.env:=by rfl) (hpl:(backTo pos (starEach es X.env)).any (·.1)=false:=by rfl) :
  QE X (.Call (.Name x p) (e::es) [] pos) (cCB f cr):=(By F hr hg ha.h hdb he hpl).imp fun σ H Q hz=>kg hz fun m ρ S u S' sr lr hc post=>by
 obtain⟨⟨us,S1⟩,h1,h2⟩:=Q0.mp hc;exact⟨m,ρ,S,us,S1,sr,lr,h1,fun m1 v1 H1 e1 sr1 i1=>⟨m1,us,S1,u,S',by simpa using i1,sr1,h2,post.mono e1⟩⟩
end
section
variable{X:Cx}{e a c:Expr}{ca cb:CE}{pos:Pos}{st:Stmt}{sts:List Stmt}{c1 c2:CS}
def bX:CS:=fun ρ S=>some (.nx,ρ,S)
def aX(c1 c2:CS):CS:=fun ρ S=>(c1 ρ S).bind fun r=>match r.1 with
 |.nx=>c2 r.2.1 r.2.2
 |o=>some (o,r.2.1,r.2.2)
theorem bL:QSs X [] bX:=u9.imp fun D σ H hz=>qZ hz fun m ρ S o ρ' S' sr lr hc post=>by cases hc;exact post m σ H .refl sr lr
theorem aq(h1:QS X st c1)(h2:QSs X sts c2):QSs X (st::sts) (aX c1 c2):=(rJ h1 h2).imp fun D σ H hz=>qZ hz fun m ρ S o ρ' S' sr lr hc post=>by
 obtain⟨⟨o1,ρ1,S1⟩,h1,h2⟩:=Q0.mp hc;refine⟨m,ρ,S,o1,ρ1,S1,sr,lr,h1,?_⟩;cases o1 with
 |nx=>exact fun m1 σ1 H1 e1 sr1 lr1=>⟨m1,ρ1,S1,o,ρ',S',sr1,lr1,h2,post.mono e1⟩
 |rt u=>cases h2;exact post
 |bk=>cases h2;exact post
 |ct=>cases h2;exact post
def aM(h1:QS X st c1):QSs X [st] c1:=u6 h1
def nJ:CS:=fun _ _=>none
def jq:QS X st nJ:=rK.imp fun D σ H hz=>qZ hz fun m ρ S o ρ' S' sr lr hc post=>by cases hc
def dY(ca:CE):CS:=fun ρ S=>(ca ρ S).bind fun p=>some (.nx,ρ,p.2)
theorem de(he:QE X e ca)(hs:swapsWith e none pos.line X.env=pure false:=by rfl):QS X (.Expr e pos) (dY ca):=(va he hs).imp fun D σ H hz=>qZ hz fun m ρ S o ρ' S' sr lr hc post=>by
 obtain⟨⟨u,S1⟩,h1,h2⟩:=Q0.mp hc;cases h2;exact⟨m,ρ,S,u,_,sr,lr,h1,fun m1 v1 H1 e1 sr1 i1=>post m1 σ H1 e1 sr1 (lr.mono e1)⟩
def eJ(ca:CE):CS:=fun ρ S=>(ca ρ S).bind fun p=>some (.rt p.1,ρ,p.2)
theorem aV(he:QE X e ca):QS X (.Return (some e) pos) (eJ ca):=(yK he).imp fun D σ H hz=>qZ hz fun m ρ S o ρ' S' sr lr hc post=>by
 obtain⟨⟨u,S1⟩,h1,h2⟩:=Q0.mp hc;cases h2;exact⟨m,ρ,S,u,_,sr,lr,h1,post⟩
def fj(t:CT)(c1 c2:CS):CS:=fun ρ S=>(t ρ S).bind fun p=>if p.1=true then c1 ρ p.2 else c2 ρ p.2
theorem dc{t:CT}{s1 s2:List Stmt}(hc:QT X c t)(h1:QSs X s1 c1)(h2:QSs X s2 c2):QS X (.If c s1 s2 pos) (fj t c1 c2):=(Bu hc h1 h2).imp fun D σ H hz=>qZ hz fun m ρ S o ρ' S' sr lr hc post=>by
 obtain⟨⟨x,S1⟩,h1,h2⟩:=Q0.mp hc;refine⟨m,ρ,S,x,S1,sr,lr,h1,fun m1 H1 e1 sr1=>?_⟩;cases x with
 |true=>exact DQ ⟨m1,ρ,S1,o,ρ',S',sr1,lr.mono e1,h2,post.mono e1⟩
 |false=>exact DR ⟨m1,ρ,S1,o,ρ',S',sr1,lr.mono e1,h2,post.mono e1⟩
abbrev CG:=U->Rho->Sto->Option (Rho×Sto)
def tG(K:Q1)(g:CG):TG:=fun v σ H Q=>∃m ρ S u ρ' S',Sr K m S H/\Lr K m H ρ σ/\Is K m H v u/\g u ρ S=some (ρ',S')/\gF K m H Q ρ' S'
abbrev QG(X:Cx)(e:Expr)(g:CG):Prop:=WG X e (tG X.K g)
def gNm(i:Nat):CG:=fun u ρ S=>some (ρ.set i (some u),S)
theorem dB{i:Nat}(h:WG X e (qX i)):QG X e (gNm i):=h.imp fun v σ H Q hz=>GL hz fun m ρ S u ρ' S' sr lr iu hc post=>by
 cases hc;exact post m _ H .refl sr (lr.set i iu)
def fM:List Nat->List U->Rho->Option Rho
 |[],[],ρ=>some ρ
 |i::is,u::us,ρ=>fM is us (ρ.set i (some u))
 |_,_,_=>none
def tGs(K:Q1)(is:List Nat):TGs:=fun vs σ H Q=>∃m ρ S us ρ',Sr K m S H/\Lr K m H ρ σ/\IsL K m H vs us/\fM is us ρ=some ρ'/\gF K m H Q ρ' S
abbrev QGs(X:Cx)(es:List Expr)(is:List Nat):Prop:=WGs X es (tGs X.K is)
theorem sG:QGs X [] []:=vi.imp fun v σ H Q ⟨m,ρ,S,us,ρ',sr,lr,iu,hc,post⟩=>by
 cases us with
 |nil=>cases hc;exact⟨iu.of_nil,post m σ H .refl sr lr⟩
 |cons a r=>simp[fM]at hc
theorem jr{i:Nat}{is:List Nat}{es:List Expr}(h:WG X e (qX i))(h2:QGs X es is)(hs:(assignEach (e::es) X.env).map (·.2)=assign e X.env::(assignEach es X.env).map (·.2):=by rfl):QGs X (e::es) (i::is):=(rN h h2 hs).imp fun v σ H Q ⟨m,ρ,S,us,ρ',sr,lr,iu,hc,post⟩=>by
 cases us with
 |nil=>simp[fM]at hc
 |cons u r=>
  obtain⟨x,xr,rfl,i1,i2⟩:=iu.of_cons;exact⟨x,xr,rfl,m,ρ.set i (some u),S,r,ρ',sr,lr.set i i1,i2,hc,post⟩
def gTp(is:List Nat):CG:=fun u ρ S=>match u with
 |.tup us=>(fM is us ρ).bind fun ρ'=>some (ρ',S)
 |_=>none
theorem kC:∀{is:List Nat} {us:List U} {ρ ρ':Rho},fM is us ρ=some ρ'->us.length=is.length
 |[],[],_,_,_=>rfl
 |[],_::_,_,_,h=>by simp[fM]at h
 |_::_,[],_,_,h=>by simp[fM]at h
 |i::is,u::us,ρ,ρ',h=>by
  have:=kC (is:=is) (us:=us) h;simp[this]
theorem xE{is:List Nat}{es:List Expr}{k:Nat}(hc:X.calm=true)(h:QGs X es is)(hn:(assignEach es X.env).length=is.length:=by rfl)(hst:(assignEach es X.env).findIdx? (·.1)=none:=by rfl):QG X (.Tuple es k pos) (gTp is):=(yN hc h hn hst).imp fun v σ H Q hz=>GL hz fun m ρ S u ρ' S' sr lr iu hc post=>by
 cases u with
 |tup us=>
  obtain⟨ρ2,h1,h2⟩:=Q0.mp hc;cases h2;obtain⟨a,xs,rfl,sq,il⟩:=iu.of_tup;refine⟨a,xs,rfl,sq,?_,m,ρ,S,us,ρ',sr,lr,il,h1,post⟩;rw[il.length];exact kC h1
 |_=>simp[gTp]at hc
def Df(ca:CE)(g:CG):CS:=fun ρ S=>(ca ρ S).bind fun p=>(g p.1 ρ p.2).bind fun q=>some (.nx,q.1,q.2)
theorem AD{K:Q1}{g:CG}:∀D σ H,tS K (Df ca g) D σ H->BJ (tE K ca) (tG K g) D σ H:=by
 rintro D σ H ⟨m,ρ,S,o,ρ',S',sr,lr,hc,post⟩;obtain⟨⟨u,S1⟩,h1,h2⟩:=Q0.mp hc;obtain⟨⟨ρ2,S2⟩,h3,h4⟩:=Q0.mp h2;cases h4;exact⟨m,ρ,S,u,S1,sr,lr,h1,fun m1 v1 H1 e1 sr1 i1=>⟨m1,ρ,S1,u,_,_,sr1,lr.mono e1,i1,h3,gF.mono e1 post⟩⟩
theorem BO{tg:Expr}{g:CG}(he:QE X e ca)(hg:QG X tg g)(hs:swapsWithSole [tg] e pos.line X.env=pure false:=by rfl)(hw:swappedStores [tg] e X.env=pure none:=by rfl)
  (h1:(assignEach [tg] X.env).map (·.2)=[assign tg X.env]:=by rfl):QS X (.Assign [tg] e pos) (Df ca g):=(rM he hg hs hw h1).imp AD
def eR(i:Nat)(ca:CE):CS:=fun ρ S=>(ca ρ S).bind fun p=>some (.nx,ρ.set i (some p.1),p.2)
theorem bz{i:Nat}{x:Str}{pos':Pos}(hN:X.N.Nodup)(hi:X.N[i]?=some x)(hx:Loc X.env.scope x)(he:QE X e ca)(hs:swapsWith e (some (.Name x pos')) pos.line X.env=pure false:=by rfl)(hf:X.fn x=true\/X.env.scope.names.lookup x=some .local:=by first|exact .inl rfl|exact .inr rfl|assumption) :
  QS X (.Assign [.Name x pos'] e pos) (eR i ca):=(yJ hN hi hx he hs hf).imp fun D σ H hz=>qZ hz fun m ρ S o ρ' S' sr lr hc post=>by
 obtain⟨⟨u,S1⟩,h1,h2⟩:=Q0.mp hc;cases h2;exact⟨m,ρ,S,u,_,sr,lr,h1,fun m1 v1 H1 e1 sr1 i1=>post m1 _ H1 e1 sr1 ((lr.mono e1).set i i1)⟩
abbrev CI:=Rho->Sto->Option (List U×(Sto->Prop)×Sto)
def xj(K:Q1)(J:It)(m:List Addr)(H:Hp)(us:List U)(ok:Sto->Prop):Prop:=∀m2 S2 H2 i,Ext K m H m2 H2->Sr K m2 S2 H2->ok S2->
 (∀u,us[i]?=some u->J.go i H2/\∀x H3,J.yld i H2 x H3->Ext K m2 H2 m2 H3/\Sr K m2 S2 H3/\Is K m2 H3 x u)/\(us.length<=i->J.stop i H2)
def tI(K:Q1)(ci:CI):TI:=fun σ H R=>∃m ρ S us ok S',Sr K m S H/\Lr K m H ρ σ/\ci ρ S=some (us,ok,S')/\∀m' H' J,Ext K m H m' H'->Sr K m' S' H'->xj K J m' H' us ok->R J H'
abbrev QI(X:Cx)(tg iter:Expr)(ci:CI):Prop:=WI X tg iter (tI X.K ci)
open Classical in
def ft(ok:Sto->Prop)(g:CG)(cb:CS):List U->CS
 |[]=>fun ρ S=>if ok S then some (.nx,ρ,S)else none
 |u::us=>fun ρ S=>if ok S then(g u ρ S).bind fun p=>(cb p.1 p.2).bind fun r=>match r.1 with
  |.nx=>ft ok g cb us r.2.1 r.2.2
  |.ct=>ft ok g cb us r.2.1 r.2.2
  |.bk=>some (.nx,r.2.1,r.2.2)
  |.rt v=>some (.rt v,r.2.1,r.2.2)else none
def nK(ci:CI)(g:CG)(cb:CS):CS:=fun ρ S=>(ci ρ S).bind fun p=>ft p.2.1 g cb p.1 ρ p.2.2
theorem jT{α:Type}{us:List α}{i:Nat}{u:α}(h:us[i]?=some u):us.drop i=u::us.drop (i+1):=by
 obtain⟨hl,e⟩:=Q4.mp h;rw[List.drop_eq_getElem_cons hl,e]
theorem pS{K:Q1}{g:CG}{cb:CS}{J:It}{us:List U}{ok:Sto->Prop}{D:uW}{m1:List Addr}{H1:Hp}{ρ ρ':Rho}{σ:L2.St}{S1 S':Sto}{o:Out}(sr1:Sr K m1 S1 H1)(lr1:Lr K m1 H1 ρ σ)(ito:xj K J m1 H1 us ok)(h2:ft ok g cb us ρ S1=some (o,ρ',S'))(post:rn K m1 H1 D o ρ' S') :
  ∃W:Nat->Nat->L2.St->Hp->Prop,(∃n,W 0 n σ H1)/\∀i n σ H,W i n σ H->
   (J.stop i H/\D.nx σ H)\/(J.go i H/\∃N:L2.St->Hp->Prop,(∀σ' H',N σ' H'->∃n',n'<n/\W (i+1) n' σ' H')/\∀x H',J.yld i H x H'->tG K g x σ H' fun σ2 H2=>tS K cb { D with nx:=N,ct:=N,bk:=D.nx } σ2 H2):=by
 let W:Nat->Nat->L2.St->Hp->Prop:=fun i n σ2 H2=>n=us.length-i/\i<=us.length/\∃m2 ρ2 S2,Ext K m1 H1 m2 H2/\Sr K m2 S2 H2/\Lr K m2 H2 ρ2 σ2/\ft ok g cb (us.drop i) ρ2 S2=some (o,ρ',S')
 refine⟨W,⟨us.length,by simp,Qe _,m1,ρ,S1,.refl,sr1,lr1,by simpa using h2⟩,?_⟩;rintro i n σ2 H2 ⟨rfl,hi,m2,ρ2,S2,e2,sr2,lr2,hl⟩;by_cases hlt:i<us.length
 ·have hu:=QV hlt;rw[jT hu]at hl;unfold ft at hl;split at hl
  ·rename_i hok;obtain⟨⟨ρ3,S3⟩,h3,hl⟩:=Q0.mp hl;obtain⟨⟨o4,ρ4,S4⟩,h4,hl⟩:=Q0.mp hl;obtain⟨hgo,hy⟩:=(ito m2 S2 H2 i e2 sr2 hok).1 _ hu;refine .inr ⟨hgo,W (i+1) (us.length-(i+1)),fun σ' H' w'=>⟨_,by omega,w'⟩,fun x H3 y=>?_⟩;obtain⟨e3,sr3,ix⟩:=hy x H3 y;refine⟨m2,ρ2,S2,_,ρ3,S3,sr3,lr2.mono e3,ix,h3,fun m4 σ4 H4 e4 sr4 lr4=>⟨m4,ρ3,S3,o4,ρ4,S4,sr4,lr4,h4,?_⟩⟩;have e14:=(e2.trans e3).trans e4;have nxt:ft ok g cb (us.drop (i+1)) ρ4 S4=some (o,ρ',S')->gF K m4 H4 (W (i+1) (us.length-(i+1))) ρ4 S4:=fun hn m5 σ5 H5 e5 sr5 lr5=>⟨rfl,hlt,m5,ρ4,S4,e14.trans e5,sr5,lr5,hn⟩;cases o4 with
   |nx=>exact nxt hl
   |ct=>exact nxt hl
   |bk=>cases hl;exact gF.mono e14 post
   |rt v=>cases hl;exact iX.mono e14 post
  ·cases hl
 ·have e:i=us.length:=by omega
  subst e;rw[List.drop_length]at hl;unfold ft at hl;split at hl
  ·rename_i hok;cases hl;exact .inl ⟨(ito m2 _ H2 _ e2 sr2 hok).2 (Q5 _),post m2 σ2 H2 e2 sr2 lr2⟩
  ·cases hl
theorem Ar{K:Q1}{ci:CI}{g:CG}{cb:CS}:∀D σ H,tS K (nK ci g cb) D σ H->DH (tI K ci) (tG K g) (tS K cb) D σ H:=by
 rintro D σ H ⟨m,ρ,S,o,ρ',S',sr,lr,hc,post⟩;obtain⟨⟨us,ok,S1⟩,h1,h2⟩:=Q0.mp hc;exact⟨m,ρ,S,us,ok,S1,sr,lr,h1,fun m1 H1 J e1 sr1 ito=>pS sr1 (lr.mono e1) ito h2 (rn.mono e1 post)⟩
theorem mI{tg iter:Expr}{body:List Stmt}{ci:CI}{g:CG}{cb:CS}(hp:PassesOwn (model X.prog X.w) X.A X.env X.xe)(hc:X.calm=true)(hi:QI X tg iter ci)(hg:QG X tg g)(hb:QSs X body cb)(hs:∀x,foldedSetIterable iter X.env x=pure x:=by intro _;rfl):QS X (.For tg iter body [] pos) (nK ci g cb):=(rL hp hc hi hg hb hs).imp Ar
def iTp(ca:CE):CI:=fun ρ S=>(ca ρ S).bind fun p=>match p.1 with
 |.tup us=>some (us,fun _=>True,p.2)
 |.ref l=>match p.2[l]? with
  |some (.lst us)=>some (us,fun S=>S[l]?=some (.lst us),p.2)
  |_=>none
 |_=>none
theorem CY{K:Q1}{m:List Addr}{H:Hp}{us:List U}{a:Addr}{xs:List V}(sq:SqT K H a xs)(il:IsL K m H xs us):xj K (Itt K a) m H us (fun _=>True):=by
 intro m2 S2 H2 i e2 sr2 _;have sq2:=e2.keep.t _ _ sq;have il2:=il.mono e2;refine⟨fun u hu=>?_,fun hi=>⟨xs,sq2,by rw[il2.length];exact hi⟩⟩;obtain⟨x,hx,ix⟩:=il2.getD hu;refine⟨⟨xs,x,sq2,hx⟩,fun y H3 hy=>?_⟩;obtain⟨rfl,hy⟩:=hy;have:=hy xs sq2;rw[hx]at this;cases this;exact⟨.refl,sr2,ix⟩
theorem CZ{K:Q1}{m:List Addr}{H:Hp}{us:List U}{a:Addr}{l:Nat}(hl:m[l]?=some a):xj K (Itl K a) m H us (fun S=>S[l]?=some (.lst us)):=by
 intro m2 S2 H2 i e2 sr2 hok;obtain⟨a',ha',xs,hx,il⟩:=sr2.get hok;rw[e2.get hl]at ha';cases ha';refine⟨fun u hu=>?_,fun hi=>⟨xs,SqL.of hx,by rw[il.length];exact hi⟩⟩;obtain⟨x,hx',ix⟩:=il.getD hu;refine⟨⟨xs,x,SqL.of hx,hx'⟩,fun y H3 hy=>?_⟩;obtain⟨rfl,hy⟩:=hy;have:=hy xs (SqL.of hx);rw[hx']at this;cases this;exact⟨.refl,sr2,ix⟩
theorem pH{tg:Expr}(h:QE X e ca):QI X tg e (iTp ca):=((yM h).or (vh h)).imp fun σ H R hz=>qZ hz fun m ρ S us ok S' sr lr hc post=>by
 obtain⟨⟨u,S1⟩,h1,h2⟩:=Q0.mp hc;cases u with
 |tup ws=>
  cases h2;refine .inl ⟨m,ρ,S,.tup us,_,sr,lr,h1,fun m1 v1 H1 e1 sr1 i1=>?_⟩;obtain⟨a,xs,rfl,sq,il⟩:=i1.of_tup;exact⟨a,rfl,⟨xs,sq⟩,post m1 H1 _ e1 sr1 (CY sq il)⟩
 |ref l=>
  simp only at h2;split at h2
  ·rename_i us' hS;cases h2;refine .inr ⟨m,ρ,S,.ref l,_,sr,lr,h1,fun m1 v1 H1 e1 sr1 i1=>?_⟩;obtain⟨a,hl,rfl⟩:=i1.of_ref;obtain⟨a',ha',xs,hx,il⟩:=sr1.get hS;rw[hl]at ha';cases ha';exact⟨a,rfl,⟨xs,SqL.of hx⟩,post m1 H1 _ e1 sr1 (CZ hl)⟩
  ·cases h2
 |_=>simp at h2
def gM(lo:Int)(n:Nat):List U:=(QF n).map fun i=>.int (lo+(i:Nat))
theorem wG{K:Q1}{m:List Addr}{H:Hp}{lo:Int}{n:Nat}:xj K (Itr lo n) m H (gM lo n) (fun _=>True):=by
 intro m2 S2 H2 i e2 sr2 _;refine⟨fun u hu=>?_,fun hi=>by show n<=i;simpa [gM] using hi⟩;unfold gM at hu;rw[Qq]at hu;by_cases c:i<n
 ·rw[List.getElem?_range c]at hu;simp at hu;subst hu;refine⟨c,fun y H3 hy=>?_⟩;obtain⟨rfl,rfl⟩:=hy;exact⟨.refl,sr2,.int_⟩
 ·rw[List.getElem?_eq_none (by simpa using c)]at hu;cases hu
def bR(cr:CA):CI:=fun ρ S=>(cr ρ S).bind fun p=>match p.1 with
 |[.int j]=>if -(2^62)<=j/\j<2^62 then some (gM 0 j.toNat,fun _=>True,p.2)else none
 |_=>none
theorem fq{tg:Expr}{cr:CA}{p:Pos}(hg:Gl X "range")(hm:X.mg "range"=none)(ha:QA X [a] cr)(hs:starEach [a] X.env=[(false,eval a X.env)]:=by rfl):QI X tg (.Call (.Name "range" p) [a] [] pos) (bR cr):=(qC hg hm ha.h hs).imp fun σ H R hz=>qZ hz fun m ρ S us ok S' sr lr hc post=>by
 obtain⟨⟨ws,S1⟩,h1,h2⟩:=Q0.mp hc;simp only at h2;split at h2
 ·rename_i j;split at h2
  ·rename_i hj;cases h2;refine⟨m,ρ,S,_,S',sr,lr,h1,fun m1 v1 H1 e1 sr1 i1=>?_⟩;obtain⟨x,r,rfl,ix,ir⟩:=i1.of_cons;rw[ir.of_nil,ix.of_int];exact⟨j,rfl,hj.1,hj.2,post m1 H1 _ e1 sr1 wG⟩
  ·cases h2
 ·cases h2
end
def fI(g:Int->Int->Option U):U->U->Sto->Option (U×Sto)
 |.int i,.int j,S=>(g i j).bind fun u=>some (u,S)
 |_,_,_=>none
section
variable{X:Cx}{K:Q1}
theorem Fs{C:Int->Int->Prop}{gV:Int->Int->V}{g:Int->Int->Option U}(h:∀i j u,g i j=some u->C i j/\∀m H,Is K m H (gV i j) u):OpP K (rI C gV) (fI g):=by
 intro m S H x y v w u S' Q sr ix iy hf post;cases x<;>cases y<;>simp only[fI]at hf<;>try cases hf
 rename_i i j;obtain⟨u1,h1,h2⟩:=Q0.mp hf;cases h2;obtain⟨hc,hi⟩:=h i j u h1;exact⟨i,j,ix.of_int,iy.of_int,hc,post m _ H .refl sr (hi m H)⟩
theorem vW{gV:Int->Int->V}{g:Int->Int->Option U}(h:∀i j u,g i j=some u->∀m H,Is K m H (gV i j) u):OpP K (rI0 gV) (fI g):=by
 intro m S H x y v w u S' Q sr ix iy hf post;cases x<;>cases y<;>simp only[fI]at hf<;>try cases hf
 rename_i i j;obtain⟨u1,h1,h2⟩:=Q0.mp hf;cases h2;exact⟨i,j,ix.of_int,iy.of_int,post m _ H .refl sr (h i j u h1 m H)⟩
def vA(K:Q1):R2:=fun x y H Q=>∃a b xs ys,x=.ref a/\y=.ref b/\SqT K H a xs/\SqT K H b ys/\xs.length+ys.length<=sizeLine/\∀q H',yg H H'->SqT K H' q (xs++ys)->Q (.ref q) H'
theorem zU:OpR X (binaryOp .Add) (vA X.K):=by
 intro pins s σ H x y v u Q I rx ry h;obtain⟨a,b,xs,ys,rfl,rfl,ha,hb,hz,q⟩:=h;by_cases e:xs=[]
 ·cases rx;cases ry;obtain⟨its,r1,p1,_⟩:=I.tuple ha;obtain⟨its2,r2,p2,_⟩:=I.tuple hb;refine wX p1 p2 (r1.nil_iff.mpr e) ⟨.ref b,H,I,rfl,q b H (.refl _) (by rw[e];exact hb)⟩
 ·refine zT pins s σ H _ _ v u Q I rx ry ⟨a,b,xs,ys,rfl,rfl,ha,hb,e,hz,fun z=>q a H (.refl _) (by rw[z,List.append_nil];exact ha),fun _ p hp=>q p _ (gw hp _) (SqT.of aI)⟩
def ub:U->U->Sto->Option (U×Sto)
 |.tup a,.tup b,S=>if a.length+b.length<=LIM then some (.tup (a++b),S)else none
 |_,_,_=>none
theorem vT:OpP K (vA K) ub:=by
 intro m S H x y v w u S' Q sr ix iy hf post;cases x<;>cases y<;>simp only[ub]at hf<;>try cases hf
 split at hf<;>try cases hf
 rename_i hl;obtain⟨a,xs,rfl,sa,la⟩:=ix.of_tup;obtain⟨b,ys,rfl,sb,lb⟩:=iy.of_tup;refine⟨a,b,xs,ys,rfl,rfl,sa,sb,lim (by rw[la.length,lb.length];exact hl),fun q H' s sq=>?_⟩;exact post m _ H' (.of (cI s)) (sr.same s) (.tup_ sq ((la.append lb).mono (.of (cI s))))
def oG:U->U->Sto->Option (U×Sto)
 |.ref l,.ref k,S=>match S[l]?,S[k]? with
  |some (.lst a),some (.lst b)=>if a.length+b.length<=LIM then some (.ref S.length,S++[.lst (a++b)])else none
  |_,_=>none
 |_,_,_=>none
theorem vX:OpP K DI oG:=by
 intro m S H x y v w u S' Q sr ix iy hf post;cases x<;>cases y<;>simp only[oG]at hf<;>try cases hf
 rename_i l k;split at hf<;>try cases hf
 rename_i a b h1 h2;split at hf<;>try cases hf
 rename_i hl;obtain⟨p,hp,rfl⟩:=ix.of_ref;obtain⟨q,hq,rfl⟩:=iy.of_ref;obtain⟨p',hp',xs,hx,il⟩:=sr.get h1;obtain⟨q',hq',ys,hy,il'⟩:=sr.get h2;rw[hp]at hp';cases hp';rw[hq]at hq';cases hq';exact⟨p,q,xs,ys,rfl,rfl,hx,hy,lim (by rw[il.length,il'.length];exact hl),fun r hr=>eD sr (il.append il') post hr⟩
def uc:U->U->Sto->Option (U×Sto)
 |.str a,.str b,S=>if a.length+b.length<=LIM then some (.str (a++b),S)else none
 |_,_,_=>none
theorem vU:OpP K (fun x y H Q=>∃i j,x=.str i/\y=.str j/\i.length+j.length<=sizeLine/\Q (.str (i++j)) H) uc:=by
 intro m S H x y v w u S' Q sr ix iy hf post;cases x<;>cases y<;>simp only[uc]at hf<;>try cases hf
 split at hf<;>try cases hf
 rename_i hl;exact⟨_,_,ix.of_str,iy.of_str,lim hl,post m _ H .refl sr .str_⟩
def oI:U->U->Sto->Option (U×Sto)
 |.int i,.int j,S=>some (.int (i+j),S)
 |.tup a,.tup b,S=>if a.length+b.length<=LIM then some (.tup (a++b),S)else none
 |.str a,.str b,S=>if a.length+b.length<=LIM then some (.str (a++b),S)else none
 |.ref l,.ref k,S=>oG (.ref l) (.ref k) S
 |_,_,_=>none
theorem j1:OpR X (binaryOp .Add) (fun x y H Q=>rI0 (fun i j=>.int (i+j)) x y H Q\/(DI x y H Q\/(vA X.K x y H Q\/∃i j,x=.str i/\y=.str j/\i.length+j.length<=sizeLine/\Q (.str (i++j)) H))):=Cv.or (Cu.or (zU.or qP))
theorem j0:OpP K (fun x y H Q=>rI0 (fun i j=>.int (i+j)) x y H Q\/(DI x y H Q\/(vA K x y H Q\/∃i j,x=.str i/\y=.str j/\i.length+j.length<=sizeLine/\Q (.str (i++j)) H))) oI:=by
 intro m S H x y v w u S' Q sr ix iy hf post;cases x<;>cases y<;>simp only[oI]at hf<;>try cases hf
 ·exact .inl ⟨_,_,ix.of_int,iy.of_int,post m _ H .refl sr .int_⟩
 ·exact .inr (.inr (.inr (vU m S H _ _ v w u S' Q sr ix iy hf post)))
 ·exact .inr (.inr (.inl (vT m S H _ _ v w u S' Q sr ix iy hf post)))
 ·exact .inr (.inl (vX m S H _ _ v w u S' Q sr ix iy hf post))
def FU:=fI fun i j=>some (.int (i-j))
def Fq:OpP K (rI0 fun i j=>.int (i-j)) FU:=vW fun i j u h m H=>by cases h;exact .int_
instance {i j:Int}:Decidable (uR i j):=by unfold uR;exact inferInstance
def jS:=fI fun i j=>if uR i j then some (.int (i*j))else none
theorem mL:OpP K (rI uR fun i j=>.int (i*j)) jS:=Fs fun i j u h=>by
 split at h
 ·rename_i c;cases h;exact⟨c,fun m H=>.int_⟩
 ·cases h
instance {i j:Int}:Decidable (rp i j):=by unfold rp;exact inferInstance
def rA:=fI fun i j=>if rp i j then some (.int (i / j))else none
theorem zM:OpP K (rI rp fun i j=>.int (i / j)) rA:=Fs fun i j u h=>by
 split at h
 ·rename_i c;cases h;exact⟨c,fun m H=>.int_⟩
 ·cases h
def oF:=fI fun i j=>if 0<j then some (.int (i % j))else none
theorem sT:OpP K (rI (fun _ j=>0<j) fun i j=>.int (i % j)) oF:=Fs fun i j u h=>by
 split at h
 ·rename_i c;cases h;exact⟨c,fun m H=>.int_⟩
 ·cases h
instance {i j:Int}:Decidable (GQ i j):=by unfold GQ;exact inferInstance
def fLt:=fI fun i j=>some (.bl (decide (i<j)))
def fLe:=fI fun i j=>some (.bl (decide (i<=j)))
def fGt:=fI fun i j=>some (.bl (decide (j<i)))
def fGe:=fI fun i j=>some (.bl (decide (j<=i)))
def DJ:OpP K (rI0 fun i j=>.bl (decide (i<j))) fLt:=vW fun i j u h m H=>by cases h;exact .bl_
def Hd:OpP K (rI0 fun i j=>.bl (decide (i<=j))) fLe:=vW fun i j u h m H=>by cases h;exact .bl_
def Fv:OpP K (rI0 fun i j=>.bl (decide (j<i))) fGt:=vW fun i j u h m H=>by cases h;exact .bl_
def eqS:U->U->Option Bool
 |.int i,.int j=>some (decide (i=j))
 |.bl i,.bl j=>some (decide (i=j))
 |.str i,.str j=>some (decide (i=j))
 |.non,.non=>some true
 |.non,.int _=>some false|.int _,.non=>some false
 |.non,.bl _=>some false|.bl _,.non=>some false
 |.non,.str _=>some false|.str _,.non=>some false
 |.int _,.str _=>some false|.str _,.int _=>some false
 |.bl _,.str _=>some false|.str _,.bl _=>some false
 |_,_=>none
def fEq:U->U->Sto->Option (U×Sto):=fun x y S=>(eqS x y).bind fun b=>some (.bl b,S)
def fNe:U->U->Sto->Option (U×Sto):=fun x y S=>(eqS x y).bind fun b=>some (.bl (!b),S)
theorem x4{m:List Addr}{H:Hp}{x y:U}{v w:V}{b:Bool}(ix:Is K m H v x)(iy:Is K m H w y)(h:eqS x y=some b):E5 v w=true/\decide (v=w)=b:=by
 cases x<;>cases y<;>simp only[eqS]at h<;>(first|cases h|skip);all_goals
  (first|(have e1:=ix.of_int)|(have e1:=ix.of_bl)|(have e1:=ix.of_str)|(have e1:=ix.of_non))
  (first|(have e2:=iy.of_int)|(have e2:=iy.of_bl)|(have e2:=iy.of_str)|(have e2:=iy.of_non))
  subst e1 e2;exact⟨rfl,by simp⟩
theorem xN:OpP K rEq fEq:=by
 intro m S H x y v w u S' Q sr ix iy hf post;obtain⟨b,h1,h2⟩:=Q0.mp hf;cases h2;obtain⟨e1,e2⟩:=x4 ix iy h1;exact⟨e1,by rw[e2];exact post m _ H .refl sr .bl_⟩
theorem Ft:OpP K rNe fNe:=by
 intro m S H x y v w u S' Q sr ix iy hf post;obtain⟨b,h1,h2⟩:=Q0.mp hf;cases h2;obtain⟨e1,e2⟩:=x4 ix iy h1;exact⟨e1,by rw[e2];exact post m _ H .refl sr .bl_⟩
def mY:U->Bool
 |.non=>true
 |_=>false
def C5:U->U->Sto->Option (U×Sto)
 |x,.non,S=>some (.bl (mY x),S)
 |_,_,_=>none
def nr:U->U->Sto->Option (U×Sto)
 |x,.non,S=>some (.bl (!mY x),S)
 |_,_,_=>none
theorem qb{m:List Addr}{H:Hp}{x:U}{v:V}(ix:Is K m H v x):decide (v=.non)=mY x:=by
 cases x with
 |non=>rw[ix.of_non];rfl
 |bl b=>rw[ix.of_bl];rfl
 |int i=>rw[ix.of_int];rfl
 |str i=>rw[ix.of_str];rfl
 |tup us=>obtain⟨a,xs,rfl,_⟩:=ix.of_tup;rfl
 |ref l=>obtain⟨a,_,rfl⟩:=ix.of_ref;rfl
 |kl ns=>obtain⟨a,rfl,_⟩:=ix.of_kl;rfl
theorem Cp:OpP K (fun x y H Q=>y=.non/\Q (.bl (decide (x=.non))) H) C5:=by
 intro m S H x y v w u S' Q sr ix iy hf post;cases y<;>simp only[C5]at hf<;>cases hf;exact⟨iy.of_non,by rw[qb ix];exact post m _ H .refl sr .bl_⟩
theorem xK:OpP K (fun x y H Q=>y=.non/\Q (.bl (!decide (x=.non))) H) nr:=by
 intro m S H x y v w u S' Q sr ix iy hf post;cases y<;>simp only[nr]at hf<;>cases hf;exact⟨iy.of_non,by rw[qb ix];exact post m _ H .refl sr .bl_⟩
section
variable{κ:Type}[DecidableEq κ]
def bB{α:Type}(kvs:List (κ×α))(k:κ):Option α:=(kvs.find? fun kv=>decide (kv.1=k)).map (·.2)
def dW{α:Type}(kvs:List (κ×α))(k:κ)(v:α):List (κ×α):=
 if (kvs.any fun kv=>decide (kv.1=k))=true then kvs.map (fun kv=>if kv.1=k then(kv.1,v)else kv)else kvs++[(k,v)]
variable{m:List Addr}{H:Hp}{kvs:List (κ×V)}{kus:List (κ×U)}{k:κ}{v:V}{u:U}
theorem IsP.val(h:IsP K m H kvs kus):Rf K m H (gC kvs k) (bB kus k):=by
 refine IsP.ind (P:=fun kvs kus=>Rf K m H (gC kvs k) (bB kus k)) trivial (fun k' v u kvs kus i _ ih=>?_) h;by_cases e:k'=k
 ·subst e;simp[gC,bB,Qx,Rf,i]
 ·simp only[gC,bB,Qx,decide_eq_false e]at ih ⊢;exact ih
theorem IsP.any_(h:IsP K m H kvs kus):(kvs.any fun kv=>decide (kv.1=k))=(kus.any fun kv=>decide (kv.1=k)):=
 IsP.ind (P:=fun kvs kus=>(kvs.any fun kv=>decide (kv.1=k))=(kus.any fun kv=>decide (kv.1=k))) rfl (fun k' v u kvs kus i _ ih=>by simp only[Z0,ih]) h
theorem IsP.append{kvs':List (κ×V)}{kus':List (κ×U)}(h:IsP K m H kvs kus)(h':IsP K m H kvs' kus'):IsP K m H (kvs++kvs') (kus++kus'):=⟨by simp[h.1,h'.1],by simpa using h.2.append h'.2⟩
theorem IsP.put(h:IsP K m H kvs kus)(i:Is K m H v u):IsP K m H (mh kvs k v) (dW kus k u):=by
 unfold mh dW;rw[h.any_];split
 ·refine IsP.ind (P:=fun kvs kus=>IsP K m H (kvs.map fun kv=>if kv.1=k then(kv.1,v)else kv) (kus.map fun kv=>if kv.1=k then(kv.1,u)else kv)) .nil_ (fun k' v' u' kvs kus i' _ ih=>?_) h;simp only[QU];by_cases e:k'=k
  ·simp only[e,if_true];exact .cons_ i ih
  ·simp only[e,if_false];exact .cons_ i' ih
 ·exact h.append (.cons_ i .nil_)
end
def jb:U->Option Key
 |.int i=>some (.inl i)
 |.str x=>some (.inr x)
 |_=>none
theorem g6{m:List Addr}{H:Hp}{x:U}{v:V}{k:Key}(ix:Is K m H v x)(h:jb x=some k):v=kV k:=by
 cases x<;>simp only[jb]at h<;>cases h
 ·exact ix.of_int
 ·exact ix.of_str
def jj:U->Bool
 |.non=>true|.bl _=>true|.int _=>true|.str _=>true|_=>false
def eqF:U->U->Bool
 |.non,.non=>true
 |.bl a,.bl b=>a == b
 |.bl a,.int b=>(if a then 1 else 0) == b
 |.int a,.bl b=>a == (if b then 1 else 0)
 |.int a,.int b=>a == b
 |.str a,.str b=>a == b
 |_,_=>false
def inU(x:U)(us:List U):Bool:=us.any fun y=>eqF y x
theorem oE{m:List Addr}{H:Hp}{x:U}{v:V}(ix:Is K m H v x)(h:jj x=true):ke v=true:=by
 cases x with
 |non=>rw[ix.of_non];rfl
 |bl b=>rw[ix.of_bl];rfl
 |int i=>rw[ix.of_int];rfl
 |str i=>rw[ix.of_str];rfl
 |tup us=>cases h
 |ref l=>cases h
 |kl l=>cases h
theorem C7{m:List Addr}{H:Hp}{x y:U}{v w:V}(ix:Is K m H v x)(iy:Is K m H w y)(hx:jj x=true)(hy:jj y=true):eqV v w=eqF x y:=by
 cases x<;>(first|cases hx|skip)<;>cases y<;>(first|cases hy|skip);all_goals
  (first|(have e1:=ix.of_int)|(have e1:=ix.of_bl)|(have e1:=ix.of_str)|(have e1:=ix.of_non))
  (first|(have e2:=iy.of_int)|(have e2:=iy.of_bl)|(have e2:=iy.of_str)|(have e2:=iy.of_non))
  subst e1 e2;rfl
theorem lO{m:List Addr}{H:Hp}:∀{xs:List V} {us:List U},IsL K m H xs us->us.all jj=true->xs.all ke=true
 |xs,[],h,_=>by rw[h.of_nil];rfl
 |xs,u::us,h,k=>by
  obtain⟨x,r,rfl,i,t⟩:=h.of_cons;rw[List.all_cons,Bool.and_eq_true]at k ⊢;exact⟨oE i k.1,lO t k.2⟩
theorem t6{m:List Addr}{H:Hp}{x:U}{v:V}(ix:Is K m H v x)(hx:jj x=true):∀{xs:List V} {us:List U},IsL K m H xs us->us.all jj=true->inV v xs=inU x us
 |xs,[],h,_=>by rw[h.of_nil];rfl
 |xs,u::us,h,k=>by
  obtain⟨y,r,rfl,i,t⟩:=h.of_cons;rw[List.all_cons,Bool.and_eq_true]at k;have ih:=t6 ix hx t k.2;unfold inV inU at ih ⊢;rw[Z0,Z0,ih,C7 i ix k.1 hx]
theorem _root_.L2.DGet.kz{H:Hp}{a:Addr}{ob:Obj}{kvs:List (Key×V)}{k:Key}(e:H a=some (.frz ob (.dK kvs))):DGet H a (kV k) (gC kvs k):=.inl ⟨kvs,k,.inr ⟨ob,e⟩,rfl,rfl⟩
def fIn(neg:Bool):U->U->Sto->Option (U×Sto):=fun x y S=>match y with
 |.tup us=>if jj x=true/\us.all jj=true then some (.bl (if neg then !inU x us else inU x us),S)else none
 |.ref l=>match S[l]? with
  |some (.lst us)=>if jj x=true/\us.all jj=true then some (.bl (if neg then !inU x us else inU x us),S)else none
  |some (.dic kus)=>(jb x).bind fun k=>some (.bl (if neg then !(bB kus k).isSome else(bB kus k).isSome),S)
  |some (.fdc ep kus)=>(jb x).bind fun k=>some (.bl (if neg then !(bB kus k).isSome else(bB kus k).isSome),S)
  |_=>none
 |_=>none
theorem Rf.isSome{m:List Addr}{H:Hp}{v:Option V}{u:Option U}(h:Rf K m H v u):v.isSome=u.isSome:=by
 cases v<;>cases u<;>first|rfl|exact h.elim
theorem xV{ca cb:CE}{neg:Bool}(t2:TE->TE->TE)(h2:∀ta tb σ H Q,(ta σ H fun y H1=>tb σ H1 fun x H2=>∃a o,x=.ref a/\DGet H2 a y o/\Q (.bl (if neg then !o.isSome else o.isSome)) H2)->t2 ta tb σ H Q):∀σ H Q,tE K (cOp (fIn neg) ca cb) σ H Q->tOp (rIn K neg) (tE K ca) (tE K cb) σ H Q\/t2 (tE K ca) (tE K cb) σ H Q:=by
 rintro σ H Q ⟨m,ρ,S,u,S',sr,lr,hc,post⟩;obtain⟨⟨x,S1⟩,h1,h⟩:=Q0.mp hc;obtain⟨⟨y,S2⟩,h3,h4⟩:=Q0.mp h;cases y with
 |tup us=>
  simp only[fIn]at h4;split at h4<;>try cases h4
  rename_i hf;refine .inl ⟨m,ρ,S,x,S1,sr,lr,h1,fun m1 v1 H1 e1 sr1 i1=>⟨m1,ρ,S1,.tup us,S',sr1,lr.mono e1,h3,fun m2 v2 H2 e2 sr2 i2=>?_⟩⟩;obtain⟨a,xs,rfl,sa,la⟩:=i2.of_tup;refine⟨a,xs,rfl,.inr sa,oE (i1.mono e2) hf.1,lO la hf.2,?_⟩;rw[t6 (i1.mono e2) hf.1 la hf.2];exact post m2 _ H2 (e1.trans e2) sr2 .bl_
 |ref l=>
  simp only[fIn]at h4;split at h4<;>try cases h4
  ·rename_i us hS;split at h4<;>try cases h4
   rename_i hf;refine .inl ⟨m,ρ,S,x,S1,sr,lr,h1,fun m1 v1 H1 e1 sr1 i1=>⟨m1,ρ,S1,.ref l,S',sr1,lr.mono e1,h3,fun m2 v2 H2 e2 sr2 i2=>?_⟩⟩;obtain⟨a,ha,rfl⟩:=i2.of_ref;obtain⟨a',ha',xs,hx,la⟩:=sr2.get hS;rw[ha]at ha';cases ha';refine⟨a,xs,rfl,.inl (SqL.of hx),oE (i1.mono e2) hf.1,lO la hf.2,?_⟩;rw[t6 (i1.mono e2) hf.1 la hf.2];exact post m2 _ H2 (e1.trans e2) sr2 .bl_
  ·rename_i kus hS;obtain⟨k,hk,h5⟩:=Q0.mp h4;cases h5;refine .inr (h2 _ _ _ _ _ ⟨m,ρ,S,x,S1,sr,lr,h1,fun m1 v1 H1 e1 sr1 i1=>⟨m1,ρ,S1,.ref l,S',sr1,lr.mono e1,h3,fun m2 v2 H2 e2 sr2 i2=>?_⟩⟩);obtain⟨a,ha,rfl⟩:=i2.of_ref;obtain⟨a',ha',kvs,hx,ip⟩:=sr2.get hS;rw[ha]at ha';cases ha';have ek:=g6 (i1.mono e2) hk;subst ek;refine⟨a,_,rfl,DGet.k hx,?_⟩;rw[(IsP.val ip).isSome];exact post m2 _ H2 (e1.trans e2) sr2 .bl_
  ·rename_i ep kus hS;obtain⟨k,hk,h5⟩:=Q0.mp h4;cases h5;refine .inr (h2 _ _ _ _ _ ⟨m,ρ,S,x,S1,sr,lr,h1,fun m1 v1 H1 e1 sr1 i1=>⟨m1,ρ,S1,.ref l,S',sr1,lr.mono e1,h3,fun m2 v2 H2 e2 sr2 i2=>?_⟩⟩);obtain⟨a,ha,rfl⟩:=i2.of_ref;obtain⟨a',ha',ob,es,kvs,hx,hd,ip⟩:=sr2.get hS;rw[ha]at ha';cases ha';have ek:=g6 (i1.mono e2) hk;subst ek;refine⟨a,_,rfl,DGet.kz hx,?_⟩;rw[(IsP.val ip).isSome];exact post m2 _ H2 (e1.trans e2) sr2 .bl_
 |_=>simp[fIn]at h4
variable{e a b:Expr}{ca cb:CE}{pos:Pos}
theorem BR(hu:X.A.units+1<cLine)(ha:QE X a ca)(hb:QE X b cb)(hm:behindInMarks .In b=false):QT X (.Compare a [.In] [b] pos) (aP (cOp (fIn false) ca cb)):=
 ((kW sV ha hb hm).or (rH (yU hu ha hb) hm)).imp (jn (xV (neg:=false) E3 fun _ _ _ _ _ h=>h))
theorem vB(hu:X.A.units+1<cLine)(ha:QE X a ca)(hb:QE X b cb)(hm:behindInMarks .NotIn b=false):QT X (.Compare a [.NotIn] [b] pos) (aP (cOp (fIn true) ca cb)):=
 ((kW mN ha hb hm).or (rH (qE hu ha hb) hm)).imp (jn (xV (neg:=true) oh fun _ _ _ _ _ h=>h))
def fIx:U->U->Sto->Option (U×Sto):=fun x y S=>match x with
 |.tup us=>match y with
  |.int i=>(atI us i).bind fun u=>some (u,S)
  |_=>none
 |.ref l=>match S[l]? with
  |some (.lst us)=>(match y with
   |.int i=>(atI us i).bind fun u=>some (u,S)
   |_=>none)
  |some (.dic kus)=>(jb y).bind fun k=>(bB kus k).bind fun u=>some (u,S)
  |some (.fdc ep kus)=>(jb y).bind fun k=>(bB kus k).bind fun u=>some (u,S)
  |_=>none
 |.kl ns=>match y with
  |.int i=>(atI (ns.map U.int) i).bind fun u=>some (u,S)
  |_=>none
 |_=>none
theorem qc{K:Q1}{m:List Addr}{H:Hp}:∀ns:List Int,IsL K m H (ns.map V.int) (ns.map U.int)
 |[]=>.nil_
 |n::ns=>.cons_ .int_ (qc ns)
theorem uE{m:List Addr}{H:Hp}{xs:List V}{us:List U}{i:Int}{u:U}(l:IsL K m H xs us)(h:atI us i=some u):∃v,atI xs i=some v/\Is K m H v u:=by
 unfold atI at h ⊢;rw[l.length];obtain⟨j,e1,e2⟩:=Q0.mp h;rw[e1];obtain⟨v,e3,e4⟩:=l.getD e2;exact⟨v,e3,e4⟩
theorem dR(hu:X.A.units+1<cLine)(ha:QE X a ca)(hb:QE X b cb)(hs:oS b)(hs2:DX b):QE X (.Subscript a b pos) (cOp fIx ca cb):=
 ((Bx (Ai.or CW) ha hb hs).or (vm hu ha hb hs2)).imp fun σ H Q hz=>kg hz fun m ρ S u S' sr lr hc post=>by
 obtain⟨⟨x,S1⟩,h1,h⟩:=Q0.mp hc;obtain⟨⟨y,S2⟩,h3,h4⟩:=Q0.mp h;cases x with
 |tup us=>
  simp only[fIx]at h4;split at h4<;>try cases h4
  rename_i i;obtain⟨w,hw,h5⟩:=Q0.mp h4;cases h5;refine .inl ⟨m,ρ,S,_,S1,sr,lr,h1,fun m1 v1 H1 e1 sr1 i1=>⟨m1,ρ,S1,_,S',sr1,lr.mono e1,h3,fun m2 v2 H2 e2 sr2 i2=>.inr ?_⟩⟩;obtain⟨a,xs,rfl,sa,la⟩:=(i1.mono e2).of_tup;obtain⟨z,ez,iz⟩:=uE la hw;exact⟨a,xs,i,z,rfl,i2.of_int,sa,ez,post m2 _ H2 (e1.trans e2) sr2 iz⟩
 |ref l=>
  simp only[fIx]at h4;split at h4<;>try cases h4
  ·rename_i us hS;split at h4<;>try cases h4
   rename_i i;obtain⟨w,hw,h5⟩:=Q0.mp h4;cases h5;refine .inl ⟨m,ρ,S,_,S1,sr,lr,h1,fun m1 v1 H1 e1 sr1 i1=>⟨m1,ρ,S1,_,S',sr1,lr.mono e1,h3,fun m2 v2 H2 e2 sr2 i2=>.inl ?_⟩⟩;obtain⟨a,ha,rfl⟩:=(i1.mono e2).of_ref;obtain⟨a',ha',xs,hx,la⟩:=sr2.get hS;rw[ha]at ha';cases ha';obtain⟨z,ez,iz⟩:=uE la hw;exact⟨a,xs,i,z,rfl,i2.of_int,SqL.of hx,ez,post m2 _ H2 (e1.trans e2) sr2 iz⟩
  ·rename_i kus hS;obtain⟨k,hk,h5⟩:=Q0.mp h4;obtain⟨w,hw,h6⟩:=Q0.mp h5;cases h6;refine .inr ⟨m,ρ,S,_,S1,sr,lr,h1,fun m1 v1 H1 e1 sr1 i1=>⟨m1,ρ,S1,_,S',sr1,lr.mono e1,h3,fun m2 v2 H2 e2 sr2 i2=>?_⟩⟩;obtain⟨a,ha,rfl⟩:=(i1.mono e2).of_ref;obtain⟨a',ha',kvs,hx,ip⟩:=sr2.get hS;rw[ha]at ha';cases ha';have ek:=g6 i2 hk;subst ek;have rf:=IsP.val (k:=k) ip;rw[hw]at rf;cases hv:gC kvs k with
   |none=>rw[hv]at rf;exact rf.elim
   |some z=>
    rw[hv]at rf;exact⟨a,z,rfl,by have:=DGet.k (k:=k) hx;rw[hv]at this;exact this,post m2 _ H2 (e1.trans e2) sr2 rf⟩
  ·rename_i ep kus hS;obtain⟨k,hk,h5⟩:=Q0.mp h4;obtain⟨w,hw,h6⟩:=Q0.mp h5;cases h6;refine .inr ⟨m,ρ,S,_,S1,sr,lr,h1,fun m1 v1 H1 e1 sr1 i1=>⟨m1,ρ,S1,_,S',sr1,lr.mono e1,h3,fun m2 v2 H2 e2 sr2 i2=>?_⟩⟩;obtain⟨a,ha,rfl⟩:=(i1.mono e2).of_ref;obtain⟨a',ha',ob,es,kvs,hx,hd,ip⟩:=sr2.get hS;rw[ha]at ha';cases ha';have ek:=g6 i2 hk;subst ek;have rf:=IsP.val (k:=k) ip;rw[hw]at rf;cases hv:gC kvs k with
   |none=>rw[hv]at rf;exact rf.elim
   |some z=>
    rw[hv]at rf;exact⟨a,z,rfl,by have:=DGet.kz (k:=k) hx;rw[hv]at this;exact this,post m2 _ H2 (e1.trans e2) sr2 rf⟩
 |kl ns=>
  simp only[fIx]at h4;split at h4<;>try cases h4
  rename_i i;obtain⟨w,hw,h5⟩:=Q0.mp h4;cases h5;refine .inl ⟨m,ρ,S,_,S1,sr,lr,h1,fun m1 v1 H1 e1 sr1 i1=>⟨m1,ρ,S1,_,S',sr1,lr.mono e1,h3,fun m2 v2 H2 e2 sr2 i2=>.inl ?_⟩⟩;obtain⟨a,rfl,ka⟩:=(i1.mono e2).of_kl;obtain⟨z,ez,iz⟩:=uE (qc (K:=X.K) (m:=m2) (H:=H2) ns) hw;exact⟨a,_,i,z,rfl,i2.of_int,ka.sq,ez,post m2 _ H2 (e1.trans e2) sr2 iz⟩
 |_=>simp[fIx]at h4
def jR:U->U->U->Sto->Option Sto:=fun o i v S=>match o with
 |.ref l=>match S[l]? with
  |some (.lst us)=>(match i with
   |.int k=>(ixN us.length k).bind fun j=>some (S.set l (.lst (us.set j v)))
   |_=>none)
  |some (.dic kus)=>(jb i).bind fun k=>if kus.length<LIM then some (S.set l (.dic (dW kus k v)))else none
  |_=>none
 |_=>none
def dr(co ci cv:CE):CS:=fun ρ S=>(cv ρ S).bind fun p=>(co ρ p.2).bind fun q=>(ci ρ q.2).bind fun r=>(jR q.1 r.1 p.1 r.2).bind fun S'=>some (.nx,ρ,S')
theorem dF{o i:Expr}{co ci cv:CE}{pos':Pos}(hu:X.A.units+1<cLine)(ho:QE X o co)(hi:QE X i ci)(hv:QE X e cv)
  (hs0:swapsWithSole [.Subscript o i pos'] e pos.line X.env=pure false:=by rfl) (hw:swappedStores [.Subscript o i pos'] e X.env=pure none:=by rfl)
  (h1:(assignEach [.Subscript o i pos'] X.env).map (·.2)=[assign (.Subscript o i pos') X.env]:=by rfl)
  (hs:swapsWith e (some (.Subscript o i pos')) pos.line X.env=pure false:=by rfl)
  (ha:∀v,assign (.Subscript o i pos') X.env v=(do
   let ov <-holding [v] (eval o X.env)
   let iv <-holding [v,ov] (eval i X.env)
   standAt pos'
   holding [v,ov,iv] (setItem ov iv v)
   release [v,ov,iv] []):=by intro _;rfl):QS X (.Assign [.Subscript o i pos'] e pos) (dr co ci cv):=
 ((rM hv (yO ho hi vx ha) hs0 hw h1).or (vb hu ho hi hv hs)).imp fun D σ H hz=>qZ hz fun m ρ S o ρ' S' sr lr hc post=>by
 obtain⟨⟨v,S1⟩,h1,h⟩:=Q0.mp hc;obtain⟨⟨ou,S2⟩,h2,h⟩:=Q0.mp h;obtain⟨⟨iu,S3⟩,h3,h⟩:=Q0.mp h;obtain⟨S4,h4,h⟩:=Q0.mp h;cases h;cases ou with
 |ref l=>
  simp only[jR]at h4;split at h4<;>try cases h4
  ·rename_i us hS;split at h4<;>try cases h4
   rename_i k;obtain⟨j,hj,h5⟩:=Q0.mp h4;cases h5;refine .inl ⟨m,ρ,S,v,S1,sr,lr,h1,fun m1 v1 H1 e1 sr1 i1=>⟨m1,ρ,S1,_,S2,sr1,lr.mono e1,h2,fun m2 v2 H2 e2 sr2 i2=>⟨m2,ρ,S2,_,S3,sr2,lr.mono (e1.trans e2),h3,fun m3 v3 H3 e3 sr3 i3=>?_⟩⟩⟩;obtain⟨a,ha,rfl⟩:=(i2.mono e3).of_ref;obtain⟨a',ha',xs,hx,la⟩:=sr3.get hS;rw[ha]at ha';cases ha';have e13:=(e1.trans e2).trans e3;have ek:Ext X.K m3 H3 m3 (upd H3 a (.lst (xs.set j v1))):=.of (sr3.keep ha _);refine⟨a,xs,k,j,rfl,i3.of_int,hx,by rw[la.length];exact hj,post m3 σ _ (e13.trans ek) (sr3.put ha ⟨_,aI,((la.set (i1.mono (e2.trans e3)))).mono ek⟩) (lr.mono (e13.trans ek))⟩
  ·rename_i kus hS;obtain⟨k,hk,h5⟩:=Q0.mp h4;split at h5<;>try cases h5
   have hlen:kus.length<LIM:=by assumption
   refine .inr ⟨m,ρ,S,v,S1,sr,lr,h1,fun m1 v1 H1 e1 sr1 i1=>⟨m1,ρ,S1,_,S2,sr1,lr.mono e1,h2,fun m2 v2 H2 e2 sr2 i2=>⟨m2,ρ,S2,_,S3,sr2,lr.mono (e1.trans e2),h3,fun m3 v3 H3 e3 sr3 i3=>?_⟩⟩⟩;obtain⟨a,ha,rfl⟩:=(i2.mono e3).of_ref;obtain⟨a',ha',kvs,hx,ip⟩:=sr3.get hS;rw[ha]at ha';cases ha';have ek:=g6 i3 hk;subst ek;have e13:=(e1.trans e2).trans e3;have ee:Ext X.K m3 H3 m3 (upd H3 a (.dK (mh kvs k v1))):=.of (sr3.keep ha _);exact⟨a,_,rfl,Dz.k hx (DK (by rw[IsP.length ip];exact hlen)),post m3 σ _ (e13.trans ee) (sr3.put ha ⟨_,aI,(IsP.put ip (i1.mono (e2.trans e3))).mono ee⟩) (lr.mono (e13.trans ee))⟩
 |_=>simp[jR]at h4
end
theorem iC{α:Type}[DecidableEq α]:∀{l l':List α},l.Nodup->(∀x∈l,x∈l')->l.length<=l'.length
 |[],_,_,_=>Qe _
 |x::r,l',nd,s=>by
  obtain⟨h1,h2⟩:=ZZ.mp nd;have hx:=s x QB;have:=iC (l:=r) (l':=l'.erase x) h2 fun y hy=>(List.mem_erase_of_ne (fun z=>h1 (by rw[<-z];exact hy))).mpr (s y (Q8 _ hy));rw[List.length_erase_of_mem hx]at this;have hp:=List.length_pos_of_mem hx;rw[QJ];omega
theorem eO(f:Str)(v:V):∀fs:List (Str×V),(jZ f v fs).map (·.1)=if f∈fs.map (·.1)then fs.map (·.1)else fs.map (·.1)++[f]
 |[]=>by simp[jZ]
 |(g,x)::r=>by
  unfold jZ;by_cases e:g=f
  ·simp[e]
  ·have ih:=eO f v r;rw[if_neg e,QU,QU,ih];by_cases c:f∈r.map (·.1)
   ·rw[if_pos c,if_pos (Q8 _ c)]
   ·rw[if_neg c,if_neg (fun z=>by rcases QC.mp z with z|z;exact e z.symm;exact c z)];rfl
section
variable{X:Cx}{K:Q1}{m:List Addr}{H:Hp}{c:Cl}{fs:List (Str×V)}{fus:List (Option U)}
theorem InF.room(h:InF K m H c fs fus):fs.length<1000:=by
 have:=iC h.knd h.sub;rw[QZ]at this;have:=h.few;omega
theorem jH{f:Str}:∀{fs:List (Str×V)},f∉fs.map (·.1)->fs.lookup f=none
 |[],_=>rfl
 |(g,x)::r,h=>by
  rw[Qn];have h1:(f == g)=false:=by
   apply beq_eq_false_iff_ne.mpr;intro z;exact h (by rw[z];exact QB)
  rw[h1];exact jH fun z=>h (Q8 _ z)
def InF.none_{f:Str}(h:InF K m H c fs fus)(hf:f∉c.ns):fs.lookup f=none:=jH fun z=>hf (h.sub f z)
theorem InF.put{f:Str}{i:Nat}{v:V}{u:U}(h:InF K m H c fs fus)(hi:c.ns[i]?=some f)(hv:Is K m H v u):InF K m H c (jZ f v fs) (fus.set i (some u)):=by
 have hfm:f∈c.ns:=List.mem_of_getElem? hi;refine⟨h.nd,h.few,?_,fun x hx=>?_,by simp[h.len],fun j x hj=>?_⟩
 ·rw[eO];split
  ·exact h.knd
  ·rename_i hn;rw[List.nodup_append];exact⟨h.knd,by simp,fun a ha b hb z=>by simp at hb;subst hb;subst z;exact hn ha⟩
 ·rw[eO]at hx;split at hx
  ·exact h.sub x hx
  ·rcases Qb.mp hx with z|z
   ·exact h.sub x z
   ·simp at z;subst z;exact hfm
 ·rw[gZ];by_cases e:i=j
  ·subst e;rw[hi]at hj;cases hj;rw[if_pos rfl];have:i<fus.length:=by rw[h.len];exact(Q4.mp hi).1
   rw[List.getElem?_set_self this];exact hv
  ·have ne:x≠f:=fun z=>by
    subst z;obtain⟨p1,e1⟩:=Q4.mp hi;obtain⟨p2,e2⟩:=Q4.mp hj;exact e ((List.getElem_inj h.nd).mp (e1.trans e2.symm))
   rw[if_neg ne,QM e];exact h.at_ j x hj
theorem InF.new(nd:c.ns.Nodup)(few:c.ns.length<1000):InF K m H c [] (QQ c.ns.length none):=by
 refine⟨nd,few,by simp,fun x hx=>by simp at hx,by simp,fun i x hi=>?_⟩;rw[Ql];split<;>exact trivial
open Classical in
def C6(c:Cl)(i:Nat)(x:U)(S:Sto):Option (U×Sto):=match x with
 |.ref l=>match S[l]? with
  |some (.ins c' fus)=>if c'=c then(fus[i]?).join.bind fun u=>some (u,S)else none
  |_=>none
 |_=>none
def bQ(c:Cl)(i:Nat)(ca:CE):CE:=fun ρ S=>(ca ρ S).bind fun p=>C6 c i p.1 p.2
open Classical in
def ud(c:Cl)(i:Nat)(x v:U)(S:Sto):Option Sto:=match x with
 |.ref l=>match S[l]? with
  |some (.ins c' fus)=>if c'=c then some (S.set l (.ins c (fus.set i (some v))))else none
  |_=>none
 |_=>none
def fH(c:Cl)(i:Nat)(ca cv:CE):CS:=fun ρ S=>(cv ρ S).bind fun p=>(ca ρ p.2).bind fun q=>(ud c i q.1 p.1 q.2).bind fun S'=>some (.nx,ρ,S')
variable{e:Expr}{ca cv:CE}{pos:Pos}{f:Str}{i:Nat}
theorem a9(hcl:Cls X.K c.C)(hna:gR X.K c.C f)(hi:c.ns[i]?=some f)(h:QE X e ca)(hb:attributeBase e f X.env (eval e X.env)=eval e X.env:=by rfl):QE X (.Attribute e f pos) (bQ c i ca):=(yS h hb).imp fun σ H Q hz=>kg hz fun m ρ S u S' sr lr hc post=>by
 obtain⟨⟨x,S1⟩,h1,h2⟩:=Q0.mp hc;refine⟨m,ρ,S,x,S1,sr,lr,h1,fun m1 v1 H1 e1 sr1 i1=>?_⟩;cases x with
 |ref l=>
  simp only[C6]at h2;split at h2<;>try cases h2
  rename_i c' fus hS;split at h2<;>try cases h2
  rename_i hc';subst hc';obtain⟨w,hw,h3⟩:=Q0.mp h2;cases h3;obtain⟨a,ha,rfl⟩:=i1.of_ref;obtain⟨a',ha',dx,fs,hx,inf⟩:=sr1.get hS;rw[ha]at ha';cases ha';have rf:=inf.at_ i f hi;rw[hw]at rf;cases hv:fs.lookup f with
  |none=>rw[hv]at rf;exact rf.elim
  |some z=>
   rw[hv]at rf;exact⟨a,_,dx,fs,z,rfl,hx,hcl,hna,hv,post m1 _ H1 e1 sr1 rf⟩
 |_=>simp[C6]at h2
theorem b8{o:Expr}{co:CE}{pos':Pos}(hcl:Cls X.K c.C)(hna:gR X.K c.C f)(hi:c.ns[i]?=some f)(ho:QE X o co)(hv:QE X e cv)(hs:swapsWith e (some (.Attribute o f pos')) pos.line X.env=pure false:=by rfl):QS X (.Assign [.Attribute o f pos'] e pos) (fH c i co cv):=(yL ho hv hs).imp fun D σ H hz=>qZ hz fun m ρ S o ρ' S' sr lr hc post=>by
 obtain⟨⟨v,S1⟩,h1,h⟩:=Q0.mp hc;obtain⟨⟨x,S2⟩,h2,h⟩:=Q0.mp h;obtain⟨S3,h3,h⟩:=Q0.mp h;cases h;refine⟨m,ρ,S,v,S1,sr,lr,h1,fun m1 v1 H1 e1 sr1 i1=>⟨m1,ρ,S1,x,S2,sr1,lr.mono e1,h2,fun m2 v2 H2 e2 sr2 i2=>?_⟩⟩;cases x with
 |ref l=>
  simp only[ud]at h3;split at h3<;>try cases h3
  rename_i c' fus hS;split at h3<;>try cases h3
  have hc':c'=c:=by assumption
  subst hc';obtain⟨a,ha,rfl⟩:=i2.of_ref;obtain⟨a',ha',dx,fs,hx,inf⟩:=sr2.get hS;rw[ha]at ha';cases ha';have ee:Ext X.K m2 H2 m2 (upd H2 a (.ins c'.C dx (jZ f v1 fs))):=.of (sr2.keep ha _);have e12:=e1.trans e2;exact⟨a,_,dx,fs,rfl,hx,hcl,hna,inf.room,post m2 σ _ (e12.trans ee) (sr2.put ha ⟨dx,_,aI,(inf.put hi (i1.mono e2)).mono ee⟩) (lr.mono (e12.trans ee))⟩
 |_=>simp[ud]at h3
structure dS(P:Program)(w:World)(K:Q1)(mg:Str->Option Value)(base:Heap)(c:Cl)(mn:Str)(k:Nat)(ps:List Str)(f:Fn):Prop where
 ex:∃fa fd,AG K c.C mn fa/\je P w K mg base CX0 k fa fd ps (vw K f)/\fP K fd ps []
theorem dS.mono{P:Program}{w:World}{mg:Str->Option Value}{base:Heap}{mn:Str}{j k:Nat}{ps:List Str}{f:Fn}(h:dS P w K mg base c mn j ps f)(l:j<=k):dS P w K mg base c mn k ps f:=by
 obtain⟨fa,fd,a,b,d⟩:=h.ex;exact⟨fa,fd,a,b.mono l,d⟩
open Classical in
def uf(c:Cl)(f:Fn)(x:U)(S:Sto)(args:Sto->Option (List U×Sto)):Option (U×Sto):=match x with
 |.ref l=>match S[l]? with
  |some (.ins c' _)=>if c'=c then(args S).bind fun q=>f (.ref l::q.1) q.2 else none
  |_=>none
 |_=>none
def bt(c:Cl)(f:Fn)(ca:CE)(cr:CA):CE:=fun ρ S=>(ca ρ S).bind fun p=>uf c f p.1 p.2 (cr ρ)
theorem pR{mn:Str}{g:Fn}{co:CE}{cr:CA}(hmn:mn∉c.ns):∀σ H Q,tE K (bt c g co cr) σ H Q->si c.C mn (vw K g) [] E0 (tE K co) (tA K cr) σ H Q:=by
 rintro σ H Q ⟨m,ρ,S,u,S',sr,lr,hc,post⟩;obtain⟨⟨x,S1⟩,h1,h2⟩:=Q0.mp hc;refine⟨m,ρ,S,x,S1,sr,lr,h1,fun m1 v1 H1 e1 sr1 i1=>?_⟩;cases x with
 |ref l=>
  simp only[uf]at h2;split at h2<;>try cases h2
  rename_i c' fus hS;split at h2<;>try cases h2
  rename_i hc';subst hc';obtain⟨⟨us,S2⟩,h3,h4⟩:=Q0.mp h2;obtain⟨a,ha,rfl⟩:=i1.of_ref;obtain⟨a',ha',dx,fs,hx,inf⟩:=sr1.get hS;rw[ha]at ha';cases ha';refine⟨a,dx,fs,rfl,hx,inf.none_ hmn,m1,ρ,S1,us,S2,sr1,lr.mono e1,h3,fun m2 vs H2 e2 sr2 i2=>?_⟩;exact⟨m2,_,S2,u,S',.cons_ (i1.mono e2) (by simpa using i2),sr2,h4,post.mono (e1.trans e2)⟩
 |_=>simp[uf]at h2
theorem cf{mn:Str}{g:Fn}{k:Nat}{ps:List Str}{o:Expr}{es:List Expr}{co:CE}{cr:CA}{apos:Pos}{pl:Sem Bool}(hcl:Cls X.K c.C)(F:dS X.prog X.w X.K X.mg X.base c mn k ps g)(hr:eU k X.A)(hmn:mn∉c.ns)(ho:QE X o co)(ha:QA X (e::es) cr)
  (hst:starEach (e::es) X.env=(false,eval e X.env)::starEach es X.env:=by rfl) (hpl:(backTo pos (starEach es X.env)).any (·.1)=false:=by rfl) (ht:eval (.Call (.Attribute o mn apos) (e::es) [] pos) X.env=(do
   let ov <-eval o X.env
   standAt apos.atName
   let (f,first) <-holding [ov] (getMethod ov mn pl)
   callWith pos f first (backTo pos (starEach (e::es) X.env)) (backToKw pos (keywordEach [] X.env))):=by rfl):QE X (.Call (.Attribute o mn apos) (e::es) [] pos) (bt c g co cr):=by
 obtain⟨fa,fd,hm,F,hb⟩:=F.ex;exact(vj ho hcl hm F hr hb .nil vS ha.h hst hpl ht).imp (pR hmn)
theorem gW{mn:Str}{g:Fn}{k:Nat}{ps:List Str}{o:Expr}{co:CE}{apos:Pos}{pl:Sem Bool}(hcl:Cls X.K c.C)(F:dS X.prog X.w X.K X.mg X.base c mn k ps g)(hr:eU k X.A)(hmn:mn∉c.ns)(ho:QE X o co)
  (ht:eval (.Call (.Attribute o mn apos) [] [] pos) X.env=(do
   let ov <-eval o X.env
   standAt apos.atName
   let (f,first) <-holding [ov] (getMethod ov mn pl)
   callWith pos f first (backTo pos (starEach [] X.env)) (backToKw pos (keywordEach [] X.env))):=by rfl):QE X (.Call (.Attribute o mn apos) [] [] pos) (bt c g co aH):=by
 obtain⟨fa,fd,hm,F,hb⟩:=F.ex;refine(rP ho hcl hm F hr hb .nil vS ht).imp fun σ H Q h=>?_;obtain⟨m,ρ,S,u,S',sr,lr,hc,k⟩:=pR hmn σ H Q h;refine⟨m,ρ,S,u,S',sr,lr,hc,fun m1 v1 H1 e1 sr1 i1=>?_⟩;obtain⟨a,dx,fs,h1,h2,h3,m2,ρ2,S2,us,S3,sr2,lr2,h4,h5⟩:=k m1 v1 H1 e1 sr1 i1;cases h4;exact⟨a,dx,fs,h1,h2,h3,h5 m2 [] H1 .refl sr2 .nil_⟩
structure CMk(P:Program)(w:World)(K:Q1)(mg:Str->Option Value)(base:Heap)(c:Cl)(x:Str)(k:Nat)(ps:List Str)(f:Fn):Prop where
 ex:∃fa fd,Mk K c.C fa/\je P w K mg base CX0 k fa fd ps (vw K f)/\fP K fd ps []/\mg x=some (.ref c.C)
 nd:c.ns.Nodup
 few:c.ns.length<1000
theorem CMk.mono{P:Program}{w:World}{mg:Str->Option Value}{base:Heap}{x:Str}{j k:Nat}{ps:List Str}{f:Fn}(h:CMk P w K mg base c x j ps f)(l:j<=k):CMk P w K mg base c x k ps f:=by
 obtain⟨fa,fd,a,b,d⟩:=h.ex;exact⟨⟨fa,fd,a,b.mono l,d⟩,h.nd,h.few⟩
def iT(c:Cl)(f:Fn):Fn:=fun us S=>(f (.ref S.length::us) (S++[.ins c (QQ c.ns.length none)])).bind fun p=>match p.1 with
 |.non=>some (.ref S.length,p.2)
 |_=>none
theorem wm{g:Fn}{cr:CA}(nd:c.ns.Nodup)(few:c.ns.length<1000):∀σ H Q,tE K (cCB (iT c g) cr) σ H Q->y4 c.C (vw K g) [] E0 (tA K cr) σ H Q:=by
 rintro σ H Q ⟨m,ρ,S,u,S',sr,lr,hc,post⟩;obtain⟨⟨us,S1⟩,h1,h2⟩:=Q0.mp hc;obtain⟨⟨w,S2⟩,h3,h4⟩:=Q0.mp h2;refine⟨m,ρ,S,us,S1,sr,lr,h1,fun m1 vs H1 e1 sr1 i1 x dx hx hdx ne=>?_⟩;cases w with
 |non=>
  cases h4;have s1:yg H1 (upd H1 dx (.own x)):=gw hdx _;have hx2:(upd H1 dx (.own x)) x=none:=by rw[aK (Ne.symm ne)];exact hx
  have ee:Ext K m1 H1 (m1++[x]) (upd (upd H1 dx (.own x)) x (.ins c.C dx [])):=.new ⟨fun b xs q=>(cy hx2 _).t b xs ((cI s1).t b xs q),fun b xs q=>(cy hx2 _).l b xs ((cI s1).l b xs q),fun b xs q=>(cy (K:=K) hx2 _).c b xs ((cI (K:=K) s1).c b xs q)⟩;refine⟨m1++[x],.ref S1.length::us,S1++[.ins c (QQ c.ns.length none)],.non,S2,.cons_ (.ref_ (eY sr1.len)) (by simpa using i1.mono ee),(sr1.same s1).new (o:=.ins c (QQ c.ns.length none)) hx2 ⟨dx,[],aI,InF.new nd few⟩,h3,fun m2 v2 H2 e2 sr2 i2=>⟨i2.of_non,?_⟩⟩;exact post m2 _ H2 ((e1.trans ee).trans e2) sr2 (.ref_ (e2.get (eY sr1.len)))
 |_=>simp at h4
theorem sH{x:Str}{g:Fn}{k:Nat}{ps:List Str}{es:List Expr}{cr:CA}{p:Pos}(M:CMk X.prog X.w X.K X.mg X.base c x k ps g)(hr:eU (k+1) X.A)(hg:Gl X x)(ha:QA X (e::es) cr)
  (hdb:(x == ("__debug__":Str))=false:=by decide) (he:starEach (e::es) X.env=(false,eval e X.env)::starEach es X.env:=by rfl) (hpl:(backTo pos (starEach es X.env)).any (·.1)=false:=by rfl):QE X (.Call (.Name x p) (e::es) [] pos) (cCB (iT c g) cr):=by
 obtain⟨fa,fd,hm,F,hb,hx⟩:=M.ex;exact(vk hm F hr hg hx hb .nil vS ha.h hdb he hpl).imp (wm M.nd M.few)
def jl:CE:=fun _ S=>some (.ref S.length,S++[.dic []])
theorem kF:QE X (.Dict [] [] pos) jl:=rR.imp fun σ H Q hz=>kg hz fun m ρ S u S' sr lr hc post=>by
 cases hc;exact fun p hp=>post (m++[p]) _ _ (.new (cy hp _)) (sr.new hp ⟨[],aI,.nil_⟩) (.ref_ (eY sr.len))
def rk(cd ck cx:CE):CE:=fun ρ S=>(cd ρ S).bind fun p=>match p.1 with
 |.ref l=>match p.2[l]? with
  |some (.dic _)=>(ck ρ p.2).bind fun q=>(cx ρ q.2).bind fun r=>match r.2[l]? with
   |some (.dic kus)=>(jb q.1).bind fun k=>some ((bB kus k).getD r.1,r.2)
   |_=>none
  |_=>none
 |_=>none
theorem xF{o e f:Expr}{cd ck cx:CE}{apos:Pos}(hu:X.A.units+1<cLine)(ho:QE X o cd)(he:QE X e ck)(hf:QE X f cx)(hm:M2 X o "get" apos e f pos):QE X (.Call (.Attribute o "get" apos) [e,f] [] pos) (rk cd ck cx):=(rS hu ho he hf hm).imp fun σ H Q hz=>kg hz fun m ρ S u S' sr lr hc post=>by
 obtain⟨⟨x,S1⟩,h1,h⟩:=Q0.mp hc;refine⟨m,ρ,S,x,S1,sr,lr,h1,fun m1 v1 H1 e1 sr1 i1=>?_⟩;cases x with
 |ref l=>
  simp only at h;split at h<;>try cases h
  rename_i kus0 hS;obtain⟨⟨ku,S2⟩,h2,h⟩:=Q0.mp h;obtain⟨⟨xu,S3⟩,h3,h⟩:=Q0.mp h;simp only at h;split at h<;>try cases h
  rename_i kus hS3;obtain⟨k,hk,h⟩:=Q0.mp h;cases h;obtain⟨a,ha,rfl⟩:=i1.of_ref;obtain⟨a',ha',kvs0,hx0,_⟩:=sr1.get hS;rw[ha]at ha';cases ha';refine⟨a,rfl,.inl ⟨kvs0,.inl hx0⟩,m1,ρ,S1,ku,S2,sr1,lr.mono e1,h2,fun m2 v2 H2 e2 sr2 i2=>⟨m2,ρ,S2,xu,_,sr2,lr.mono (e1.trans e2),h3,fun m3 v3 H3 e3 sr3 i3=>?_⟩⟩;obtain⟨a',ha',kvs,hx,ip⟩:=sr3.get hS3;rw[(e2.trans e3).get ha]at ha';cases ha';have ek:=g6 (i2.mono e3) hk;subst ek;have rf:=IsP.val (k:=k) ip;refine⟨_,DGet.k hx,post m3 _ H3 ((e1.trans e2).trans e3) sr3 ?_⟩;cases hv:gC kvs k with
  |none=>
   cases hw:bB kus k with
   |none=>exact i3
   |some w=>rw[hv,hw]at rf;exact rf.elim
  |some v=>
   cases hw:bB kus k with
   |none=>rw[hv,hw]at rf;exact rf.elim
   |some w=>rw[hv,hw]at rf;exact rf
 |_=>simp at h
end
def pF(n:Nat)(caps:List Nat)(ρ:Rho):Rho:=QQ n none++caps.map fun i=>(ρ[i]?).getD none
open Classical in
def fi(ok:Sto->Prop)(g:CG)(ce:CE)(l:Nat):List U->Rho->Sto->Option Sto
 |[],_,S=>if ok S then some S else none
 |u::us,ρ,S=>if ok S then(g u ρ S).bind fun p=>(ce p.1 p.2).bind fun r=>match r.2[l]? with
  |some (.lst ys)=>if ys.length<LIM then fi ok g ce l us p.1 (r.2.set l (.lst (ys++[r.1])))else none
  |_=>none else none
def dZ(ci:CI)(g:CG)(ce:CE)(n:Nat)(caps:List Nat):CE:=fun ρ S=>(ci ρ S).bind fun p=>(fi p.2.1 g ce p.2.2.length p.1 (pF n caps ρ) (p.2.2++[.lst []])).bind fun S'=>some (.ref p.2.2.length,S')
section
variable{X:Cx}{K:Q1}
theorem tw{m:List Addr}{H:Hp}{ρ:Rho}{σ:L2.St}{n:Nat}{caps:List Nat}(lr:Lr K m H ρ σ):Lr K m H (pF n caps ρ) (OG.stC n caps σ):=by
 refine⟨by simp[pF,OG.stC],fun j u e=>?_⟩;unfold pF at e;unfold OG.stC;by_cases c:j<n
 ·rw[Qk (by simpa using c),Ql]at e;split at e<;>cases e
 ·rw[Qj (by simp;omega),Qq]at e ⊢;simp only[List.length_replicate]at e ⊢;cases q:caps[j-n]? with
  |none=>rw[q]at e;simp at e
  |some i=>
   rw[q]at e;simp only[Z6,Option.some.injEq]at e ⊢;have e2:ρ[i]?=some (some u):=by
    cases z:ρ[i]? with
    |none=>rw[z]at e;simp at e
    |some y=>rw[z]at e;simp at e;rw[e]
   obtain⟨v,h1,h2⟩:=lr.at_ i u e2;exact⟨v,by rw[h1];rfl,h2⟩
theorem nF{g:CG}{ce:CE}{n:Nat}{caps:List Nat}{J:It}{us:List U}{ok:Sto->Prop}{Q:VK}{m1:List Addr}{H1:Hp}{S1 S':Sto}{ρ:Rho}{σ:L2.St}{l:Addr}(sr1:Sr K m1 S1 H1)(lr:Lr K m1 H1 ρ σ)(ito:xj K J m1 H1 us ok)(hl:H1 l=none)(h2:fi ok g ce S1.length us (pF n caps ρ) (S1++[.lst []])=some S')
  (post:∀m2 H2,Ext K (m1++[l]) (upd H1 l (.lst [])) m2 H2->Sr K m2 S' H2->Q (.ref l) H2) :
  ∃W:Nat->Nat->L2.St->Hp->Prop,(∃m,W 0 m (OG.stC n caps σ) (upd H1 l (.lst [])))/\
 ∀i m σ' H2,W i m σ' H2->(J.stop i H2/\Q (.ref l) H2)\/(J.go i H2/\∃N:L2.St->Hp->Prop,(∀σ'' H',N σ'' H'->∃m',m'<m/\W (i+1) m' σ'' H')/\
  ∀x H3,J.yld i H2 x H3->tG K g x σ' H3 fun σ2 H4=>tE K ce σ2 H4 fun v H5=>∃ys,H5 l=some (.lst ys)/\ys.length<sizeLine/\N σ2 (upd H5 l (.lst (ys++[v])))):=by
 have ee:Ext K m1 H1 (m1++[l]) (upd H1 l (.lst [])):=.new (cy hl _);let W:Nat->Nat->L2.St->Hp->Prop:=fun i k σ2 H2=>k=us.length-i/\i<=us.length/\∃m2 ρ2 S2,Ext K (m1++[l]) (upd H1 l (.lst [])) m2 H2/\Sr K m2 S2 H2/\Lr K m2 H2 ρ2 σ2/\fi ok g ce S1.length (us.drop i) ρ2 S2=some S'
 refine⟨W,⟨us.length,by simp,Qe _,m1++[l],pF n caps ρ,S1++[.lst []],.refl,sr1.new (o:=.lst []) hl ⟨[],aI,.nil_⟩,tw (lr.mono ee),by simpa using h2⟩,?_⟩;rintro i k σ2 H2 ⟨rfl,hi,m2,ρ2,S2,e2,sr2,lr2,hl2⟩;by_cases hlt:i<us.length
 ·have hu:=QV hlt;rw[jT hu]at hl2;unfold fi at hl2;split at hl2
  ·rename_i hok;obtain⟨⟨ρ3,S3⟩,h3,hl2⟩:=Q0.mp hl2;obtain⟨⟨u4,S4⟩,h4,hl2⟩:=Q0.mp hl2;simp only at hl2;split at hl2<;>try cases hl2
   rename_i ys hys;split at hl2<;>try cases hl2
   rename_i hlen;obtain⟨hgo,hy⟩:=(ito m2 S2 H2 i (ee.trans e2) sr2 hok).1 _ hu;refine .inr ⟨hgo,W (i+1) (us.length-(i+1)),fun σ' H' w'=>⟨_,by omega,w'⟩,fun x H3 y=>?_⟩;obtain⟨e3,sr3,ix⟩:=hy x H3 y;refine⟨m2,ρ2,S2,_,ρ3,S3,sr3,lr2.mono e3,ix,h3,fun m4 σ4 H4 e4 sr4 lr4=>⟨m4,ρ3,S3,u4,S4,sr4,lr4,h4,fun m5 v5 H5 e5 sr5 i5=>?_⟩⟩;obtain⟨a',ha',xs,hx,il⟩:=sr5.get hys;have ha:m5[S1.length]?=some l:=(((e2.trans e3).trans e4).trans e5).get (eY sr1.len);rw[ha]at ha';cases ha';have eu:Ext K m5 H5 m5 (upd H5 l (.lst (xs++[v5]))):=.of (sr5.keep ha _);refine⟨xs,hx,DK (by rw[il.length];exact hlen),rfl,hlt,m5,ρ3,_,((((e2.trans e3).trans e4).trans e5).trans eu),sr5.put (o:=.lst (ys++[u4])) ha ⟨_,aI,(il.append (.cons_ i5 .nil_)).mono eu⟩,(lr4.mono (e5.trans eu)),hl2⟩
  ·cases hl2
 ·have e:i=us.length:=by omega
  subst e;rw[List.drop_length]at hl2;unfold fi at hl2;split at hl2
  ·rename_i hok;cases hl2;exact .inl ⟨(ito m2 _ H2 _ (ee.trans e2) sr2 hok).2 (Q5 _),post m2 H2 e2 sr2⟩
  ·cases hl2
theorem qm{ci:CI}{g:CG}{ce:CE}{n:Nat}{caps:List Nat}:∀σ H Q,tE K (dZ ci g ce n caps) σ H Q->vv (tI K ci) (tG K g) (tE K ce) n caps σ H Q:=by
 rintro σ H Q ⟨m,ρ,S,u,S',sr,lr,hc,post⟩;obtain⟨⟨us,ok,S1⟩,h1,h2⟩:=Q0.mp hc;obtain⟨S2,h2,h3⟩:=Q0.mp h2;cases h3;refine⟨m,ρ,S,us,ok,S1,sr,lr,h1,fun m1 H1 J e1 sr1 ito l hl=>?_⟩;have ee:Ext K m1 H1 (m1++[l]) (upd H1 l (.lst [])):=.new (cy hl _);exact nF sr1 (lr.mono e1) ito hl h2 fun m2 H2 e2 sr2=>post m2 _ H2 ((e1.trans ee).trans e2) sr2 (.ref_ (e2.get (eY sr1.len)))
theorem pI{Nc capN tn:List Str}{scope:Scope}{cl:List (Str×Addr)}{n:Nat}{caps:List Nat}{tg iter elt:Expr}{pos:Pos}{ci:CI}{g:CG}{ce:CE}
  (hc:X.calm=true) (hi:QI X tg iter ci) (hg:∀s3 H3 fp,WG (cxC X Nc scope cl s3 H3 fp) tg (tG X.K g)) (he:∀s3 H3 fp,WE (cxC X Nc scope cl s3 H3 fp) elt (tE X.K ce))
  (hclos:closureFor scope X.env=pure cl) (hkind:scope.kind=.function) (hnl:∀x∈scope.names,x.2=.local->scope.names.lookup x.1=some .local) (hcell:∀x∈scope.names,x.2≠.cell)
  (hcl:qz X.env cl) (hhas:((relabel scope X.env).names.all fun p=>!(p.2 == .cell||p.2 == .free)||(cl.lookup p.1).isSome)=true)
  (hcap:Paired (Cap X scope cl) caps capN) (hN:Nc=tn++capN) (hn:tn.length=n)
  (hs:∀x,foldedSetIterable iter X.env x=pure x:=by intro _;rfl) :
  QE X (.ListComp elt [⟨tg,iter,[],0⟩] scope pos) (dZ ci g ce n caps):=(o8 hc hi hg he hclos hkind hnl hcell hcl hhas hcap hN hn hs).imp qm
def nV:Fn
 |[.tup us],S=>some (.int us.length,S)
 |[.ref l],S=>match S[l]? with
  |some (.lst us)=>some (.int us.length,S)
  |some (.dic us)=>some (.int us.length,S)
  |_=>none
 |[.kl ns],S=>some (.int ns.length,S)
 |_,_=>none
abbrev Gq(K:Q1):List V->Hp->VK->Prop:=fun xs H Q=>(∃p ys,xs=[.ref p]/\(SqL K H p ys\/SqT K H p ys)/\Q (.int ys.length) H)\/∃a kvs,xs=[V.ref a]/\H a=some (.dK kvs)/\Q (.int kvs.length) H
def mQ:gv X (.builtin "len") (Gq X.K):=nH.or ux
theorem IsL.one{m:List Addr}{H:Hp}{vs:List V}{u:U}(h:IsL K m H vs [u]):∃v,vs=[v]/\Is K m H v u:=by
 obtain⟨x,r,rfl,i,t⟩:=h.of_cons;rw[t.of_nil];exact⟨x,rfl,i⟩
theorem mM:nU K (Gq K) nV:=by
 intro m S H us vs u S' Q sr i hf post;match us,hf with
 |[.tup ws],hf=>
  cases hf;obtain⟨v,rfl,iv⟩:=i.one;obtain⟨a,xs,rfl,sa,la⟩:=iv.of_tup;exact .inl ⟨a,xs,rfl,.inr sa,by rw[la.length];exact post m _ H .refl sr .int_⟩
 |[.ref l],hf=>
  obtain⟨v,rfl,iv⟩:=i.one;obtain⟨a,ha,rfl⟩:=iv.of_ref;simp only[nV]at hf;split at hf<;>try cases hf
  ·rename_i ws hS;obtain⟨a',ha',xs,hx,la⟩:=sr.get hS;rw[ha]at ha';cases ha';exact .inl ⟨a,xs,rfl,.inl (SqL.of hx),by rw[la.length];exact post m _ H .refl sr .int_⟩
  ·rename_i ws hS;obtain⟨a',ha',xs,hx,la⟩:=sr.get hS;rw[ha]at ha';cases ha';exact .inr ⟨a,xs,rfl,hx,by rw[IsP.length la];exact post m _ H .refl sr .int_⟩
 |[.kl ns],hf=>
  cases hf;obtain⟨v,rfl,iv⟩:=i.one;obtain⟨a,rfl,ka⟩:=iv.of_kl;exact .inl ⟨a,_,rfl,.inl ka.sq,by rw[QZ];exact post m _ H .refl sr .int_⟩
def oH:Fn
 |[.tup us],S=>some (.ref S.length,S++[.lst us])
 |[.ref l],S=>match S[l]? with
  |some (.lst us)=>some (.ref S.length,S++[.lst us])
  |_=>none
 |_,_=>none
theorem xM:nU K (fun xs H Q=>∃p ys,xs=[.ref p]/\(SqL K H p ys\/SqT K H p ys)/\∀l,H l=none->Q (.ref l) (upd H l (.lst ys))) oH:=by
 intro m S H us vs u S' Q sr i hf post;match us,hf with
 |[.tup ws],hf=>
  cases hf;obtain⟨v,rfl,iv⟩:=i.one;obtain⟨a,xs,rfl,sa,la⟩:=iv.of_tup;exact⟨a,xs,rfl,.inr sa,fun l hl=>eD sr la post hl⟩
 |[.ref l],hf=>
  obtain⟨v,rfl,iv⟩:=i.one;obtain⟨a,ha,rfl⟩:=iv.of_ref;simp only[oH]at hf;split at hf<;>try cases hf
  rename_i ws hS;obtain⟨a',ha',xs,hx,la⟩:=sr.get hS;rw[ha]at ha';cases ha';exact⟨a,xs,rfl,.inl (SqL.of hx),fun l hl=>eD sr la post hl⟩
def jP:Fn
 |[.tup us],S=>some (.tup us,S)
 |[.ref l],S=>match S[l]? with
  |some (.lst us)=>some (.tup us,S)
  |_=>none
 |_,_=>none
theorem sS:nU K (fun xs H Q=>∃p ys,xs=[.ref p]/\((SqL K H p ys/\∀l,H l=none->Q (.ref l) (upd H l (.tup ys)))\/(SqT K H p ys/\Q (.ref p) H))) jP:=by
 intro m S H us vs u S' Q sr i hf post;match us,hf with
 |[.tup ws],hf=>
  cases hf;obtain⟨v,rfl,iv⟩:=i.one;obtain⟨a,xs,rfl,sa,la⟩:=iv.of_tup;exact⟨a,xs,rfl,.inr ⟨sa,post m _ H .refl sr iv⟩⟩
 |[.ref l],hf=>
  obtain⟨v,rfl,iv⟩:=i.one;obtain⟨a,ha,rfl⟩:=iv.of_ref;simp only[jP]at hf;split at hf<;>try cases hf
  rename_i ws hS;obtain⟨a',ha',xs,hx,la⟩:=sr.get hS;rw[ha]at ha';cases ha';exact⟨a,xs,rfl,.inl ⟨SqL.of hx,fun l hl=>k9 sr la post hl⟩⟩
def Hf:Fn
 |[.int i],S=>some (.int i,S)
 |[.bl b],S=>some (.int (if b then 1 else 0),S)
 |_,_=>none
def wI:List U->Option (List Int)
 |[]=>some []
 |.int i::r=>(wI r).map (i::·)
 |_=>none
def AN:List U->Option (List Bool)
 |[]=>some []
 |.bl i::r=>(AN r).map (i::·)
 |_=>none
theorem qe:∀{us:List U} {ns:List Int},wI us=some ns->us=ns.map U.int
 |[],ns,h=>by cases h;rfl
 |u::r,ns,h=>by
  cases u<;>simp only[wI]at h<;>try cases h
  obtain⟨ms,e,h⟩:=Qo.mp h;subst h;rw[qe e];rfl
theorem uB:∀{us:List U} {ns:List Bool},AN us=some ns->us=ns.map U.bl
 |[],ns,h=>by cases h;rfl
 |u::r,ns,h=>by
  cases u<;>simp only[AN]at h<;>try cases h
  obtain⟨ms,e,h⟩:=Qo.mp h;subst h;rw[uB e];rfl
theorem qv:∀(ns:List Bool),AN (ns.map U.bl)=some ns
 |[]=>rfl
 |n::r=>by simp[AN,qv r]
theorem IsL.ints{m:List Addr}{H:Hp}:∀{xs:List V} {ns:List Int},IsL K m H xs (ns.map U.int)->xs=ns.map V.int
 |xs,[],h=>h.of_nil
 |xs,n::ns,h=>by
  obtain⟨x,r,rfl,i,t⟩:=h.of_cons;rw[IsL.ints t,i.of_int];rfl
theorem IsL.bls{m:List Addr}{H:Hp}:∀{xs:List V} {ns:List Bool},IsL K m H xs (ns.map U.bl)->xs=ns.map V.bl
 |xs,[],h=>h.of_nil
 |xs,n::ns,h=>by
  obtain⟨x,r,rfl,i,t⟩:=h.of_cons;rw[IsL.bls t,i.of_bl];rfl
theorem jt{m:List Addr}{H:Hp}:∀(ns:List Int),IsL K m H (ns.map V.int) (ns.map U.int)
 |[]=>.nil_
 |n::ns=>.cons_ .int_ (jt ns)
inductive Ty where
 |non|bool|int|str|tuple|list|dict
def tyU:U->Sto->Option Ty
 |.non,_=>some .non|.bl _,_=>some .bool|.int _,_=>some .int|.str _,_=>some .str|.tup _,_=>some .tuple
 |.ref l,S=>match S[l]? with
  |some (.lst _)=>some .list
  |some (.dic _)=>some .dict
  |_=>none
 |.kl _,_=>none
def E4:Ty->Ty->Bool
 |.non,.non=>true|.bool,.bool=>true|.bool,.int=>true|.int,.int=>true|.str,.str=>true|.tuple,.tuple=>true|.list,.list=>true|.dict,.dict=>true
 |_,_=>false
def Hi(T:Ty)(ca:CE):CE:=fun ρ S=>(ca ρ S).bind fun p=>(tyU p.1 p.2).bind fun t=>some (.bl (E4 t T),p.2)
def cBM(f:U->List U->Sto->Option (U×Sto))(co:CE)(cr:CA):CE:=fun ρ S=>(co ρ S).bind fun p=>match p.1 with
 |.ref l=>match p.2[l]? with
  |some (.lst _)=>(cr ρ p.2).bind fun q=>f p.1 q.1 q.2
  |_=>none
 |_=>none
def MtP(K:Q1)(r:V->List V->Hp->VK->Prop)(f:U->List U->Sto->Option (U×Sto)):Prop:=
 ∀m S H x v us vs u S' Q,Sr K m S H->Is K m H v x->IsL K m H vs us->f x us S=some (u,S')->iX K m H Q u S'->r v vs H Q
theorem uA{r:V->List V->Hp->VK->Prop}{f:U->List U->Sto->Option (U×Sto)}{co:CE}{cr:CA}(hp:MtP K r f):∀σ H Q,tE K (cBM f co cr) σ H Q->tBM K "list" r (tE K co) (tA K cr) σ H Q:=by
 rintro σ H Q ⟨m,ρ,S,u,S',sr,lr,hc,post⟩;obtain⟨⟨x,S1⟩,h1,h2⟩:=Q0.mp hc;refine⟨m,ρ,S,x,S1,sr,lr,h1,fun m1 v1 H1 e1 sr1 i1=>?_⟩;cases x with
 |ref l=>
  simp only at h2;split at h2<;>try cases h2
  rename_i ws hS;obtain⟨⟨us,S2⟩,h3,h4⟩:=Q0.mp h2;obtain⟨a,ha,rfl⟩:=id i1.of_ref;obtain⟨a',ha',xs,hx,la⟩:=sr1.get hS;rw[ha]at ha';cases ha';exact⟨.inl ⟨rfl,xs,SqL.of hx⟩,m1,ρ,S1,us,S2,sr1,lr.mono e1,h3,fun m2 vs H2 e2 sr2 i2=>hp m2 S2 H2 _ _ us vs u S' Q sr2 (i1.mono e2) i2 h4 (post.mono (e1.trans e2))⟩
 |_=>simp at h2
def bZ:U->List U->Sto->Option (U×Sto)
 |.ref l,[u],S=>match S[l]? with
  |some (.lst us)=>if us.length<LIM then some (.non,S.set l (.lst (us++[u])))else none
  |_=>none
 |_,_,_=>none
theorem vY:MtP K sF bZ:=by
 intro m S H x v us vs u S' Q sr ix i hf post;match x,us,hf with
 |.ref l,[w],hf=>
  simp only[bZ]at hf;split at hf<;>try cases hf
  rename_i ws hS;split at hf<;>try cases hf
  rename_i hl;obtain⟨a,ha,rfl⟩:=ix.of_ref;obtain⟨a',ha',xs,hx,la⟩:=sr.get hS;rw[ha]at ha';cases ha';obtain⟨y,rfl,iy⟩:=i.one;have eu:Ext K m H m (upd H a (.lst (xs++[y]))):=.of (sr.keep ha _);exact⟨a,xs,y,rfl,rfl,hx,DK (by rw[la.length];exact hl),post m _ _ eu (sr.put ha ⟨_,aI,(la.append (.cons_ iy .nil_)).mono eu⟩) .non_⟩
variable{e:Expr}{es:List Expr}{co:CE}{cr:CA}{o:Expr}{apos cpos:Pos}
theorem fG (ho : QE X o co) (ha : QA X (e :: es) cr) (hbase : attributeBase o "append" X.env (eval o X.env) = eval o X.env := by rfl) (hfew : ((backTo cpos (starEach (e :: es) X.env)).all (fun x => !x.1) && (backToKw cpos (keywordEach [] X.env)).all (fun x => x.1.isSome)
   && decide ((e::es).length+([]:List Keyword).length+(if ([]:List Keyword).isEmpty then 0 else 1)<30))=true:=by rfl) (hline:(apos.endLine == cpos.line)=true:=by rfl) (hs:starEach (e::es) X.env=(false,eval e X.env)::starEach es X.env:=by rfl) (hplain:(backTo cpos (starEach es X.env)).any (·.1)=false:=by rfl) :
  QE X (.Call (.Attribute o "append" apos) (e::es) [] cpos) (cBM bZ co cr):=(xq PySem.F.plainAttrs_list PySem.F.slot_list_append PySem.F.type_list_append jG ho ha.h hbase hfew hline hs hplain).imp (uA vY)
end
structure TC(K:Q1)(c:Cl)(NS:List Str):Prop where
 cl:Cls K c.C
 ns:c.ns=NS
 nas:∀f∈NS,gR K c.C f
section
variable{K:Q1}{c:Cl}{NS:List Str}
def TC.ix(T:TC K c NS){i:Nat}{f:Str}(h:NS[i]?=some f):c.ns[i]?=some f:=by rw[T.ns];exact h
def TC.na(T:TC K c NS)(i:Nat){f:Str}(h:NS[i]?=some f):gR K c.C f:=T.nas f (List.mem_of_getElem? h)
def TC.nm(T:TC K c NS){f:Str}(h:f∉NS):f∉c.ns:=by rw[T.ns];exact h
end
theorem _root_.L2.Fun.pure{P:Program}{w:World}{K:Q1}{mg:Str->Option Value}{base:Heap}{x qual:Str}{st:Stmt}{f:Addr}{fd:FuncData}{N ps:List Str}{k:Nat}{c:CS}(F:Fun K x qual st f fd)(S:aQ N ps (aw st))
  (hb:∀(cdv:Value) (A:Around) (outer:List Env) (s:Shared) (H:Hp) (E:XK),eU k (A.deeper (envOfC qual (aw st) s.heap.objs.size f cdv))->
   WSs (nW CX0 P w K mg base N qual (aw st) f cdv A outer s H E).nox (cU st) (tS K c)):je P w K mg base CX0 (k+1) f fd ps (vw K (fnU N.length ps.length c)):=
 Fun.okW F S (fun vs H Q E h=>kZ h) fun cdv A outer s H vs Q E hr h=>⟨_,hb cdv A outer s H E hr,oC (X:=(nW CX0 P w K mg base N qual (aw st) f cdv A outer s H E).nox) (body:=[]) (ps:=ps) rfl h⟩
def jE:List (CE×CE)->Rho->Sto->Option (List (Key×U)×Sto)
 |[],_,S=>some ([],S)
 |(ck,cv)::r,ρ,S=>(ck ρ S).bind fun p=>(cv ρ p.2).bind fun q=>(jb p.1).bind fun k=>(jE r ρ q.2).bind fun z=>some ((k,q.1)::z.1,z.2)
def Cz(kus:List (Key×U))(au:List (Key×U)):List (Key×U):=kus.foldl (fun acc kv=>dW acc kv.1 kv.2) au
def tj(kus:List (Key×U)):List (Key×U):=Cz kus []
def De(prs:List (CE×CE)):CE:=fun ρ S=>(jE prs ρ (S++[.dic []])).bind fun q=>match q.2[S.length]? with
 |some (.dic [])=>some (.ref S.length,q.2.set S.length (.dic (tj q.1)))
 |_=>none
theorem mZ:∀{vs:List Value} {ns:List Int},IntsAre vs ns->bK (ns.map V.int) vs
 |_,_,.nil=>.nil
 |_,_,.cons n t r=>.cons ⟨t,rfl⟩ (mZ r)
theorem fR:∀{ns:List Int} {vs:List Value},bK (ns.map V.int) vs->IntsAre vs ns
 |[],_,h=>by cases h;exact .nil
 |n::ns,_,.cons r t=>by
  obtain⟨k,rfl⟩:=r;exact .cons n k (fR t)
def sE(K:Q1):List V->Hp->VK->Prop:=fun xs H Q=>∃(p:Addr) (ns:List Int),xs=[.ref p]/\(SqL K H p (ns.map V.int)\/∃kvs,H p=some (.dK kvs)/\kvs.map (·.1)=ns.map Sum.inl)/\ns.length<64/\
 ∀(l:Addr) (ms:List Int),H l=none->ms.Perm ns->ms.Pairwise (·<=·)->Q (.ref l) (upd H l (.lst (ms.map V.int)))
theorem ox{κ:Type}:∀{kvs:List (κ×V)} {vs:List (κ×Value)},KV kvs vs->vs.map (·.1)=kvs.map (·.1)
 |_,_,.nil=>rfl
 |_,_,.cons r t=>by rw[QU,QU,ox t,r.1]
theorem tq{P:Program}{w:World}{H:Hp}{h:Heap}{a:Addr}{ms:List Int}{out:Array Value}{e:Nat}(g:h.get? a=some (seqObj "list" out e))(hI:IntsAre out.toList ms)(hl:ms.length<64):dE P w H h a (.lst (ms.map V.int)):=
 ⟨by rw[QZ];exact Nat.le_of_lt (QR hl (by unfold sizeLine;decide)),out.toList,e,mZ hI,by rw[Array.toArray_toList];exact g⟩
theorem wb{X:Cx}(hc:X.calm=true):gv X (.builtin "sorted") (sE X.K):=by
 rintro pins s σ H xs us Q I r ⟨p,ns,rfl,src,h64,q⟩;obtain⟨u,rfl,ru⟩:=n5 r;cases ru;rcases src with hL|⟨kvs,hD,hk⟩
 ·obtain⟨its,rv,pl,hz⟩:=I.list hL;have hI:=fR rv;have hlen:=rv.length;rw[QZ]at hlen;refine sorted_ints pl.isList hI (by omega) fun out ms a1 a2 a3=>?_;obtain⟨e,ge⟩:=sortedAll_at s.heap its out;have hf:=I.hok.fresh (Nat.le_succ s.heap.objs.size);exact⟨.ref (s.heap.objs.size+1),_,I.laid (t':=s.toks) (fun b o e=>sortedAll_old e) (Nat.le_succ _) (tq ge a1 (by rw[a2.length_eq];exact h64)),rfl,q _ ms hf a2 a3⟩
 ·obtain⟨z,hd,vs,rel,dd⟩:=uh I.hok hD;obtain⟨ep,da⟩:=dd.dictAt;have lkv:kvs.length=ns.length:=by have:=congrArg List.length hk;simpa using this
  have lv:vs.length=ns.length:=by rw[<-Paired.length rel];exact lkv
  have ks:vs.map (·.1)=ns.map Sum.inl:=by
   rw[<-hk];exact ox rel
  refine Calls.call_function_entry kind_sorted plain_sorted entry_sorted (args_sorted1 _) ?_;unfold Builtin.«sorted»;refine Q2 (m:=checkCount "sorted" 1 1 _) (QY (Q2 (PySem.W.kdu_collect (PySem.W.kdl_dict (kvs:=vs) (ep:=ep) hd) (show X.A.in1.handled=none from I.ok.hd hc) da (by rw[lv,<-lkv];exact z) fun h1 tk acc up hac=>?_)));have hla:acc.toList.length=ns.length:=by rw[Qv,hac.1,lv]
  have hI:IntsAre acc.toList ns:=by
   have key:∀(i:Nat) (v:Value),acc.toList[i]?=some v->∃(n:Int) (t:Tok),ns[i]?=some n/\v=Value.int n t:=fun i v e=>by
    obtain⟨k,x,e1,e2⟩:=hac.2 i v (by rw[<-Array.getElem?_toList];exact e);have e3:(vs.map (·.1))[i]?=some k:=by rw[Qq,e1];rfl
    rw[ks,Qq]at e3;obtain⟨n,e4,e5⟩:=Qo.mp e3;subst e5;rcases bo (k:=Sum.inl n) e2 with⟨j,t,e6,e7⟩|⟨j,t,e6,e7⟩
    ·cases e6;exact⟨n,t,e4,e7⟩
    ·cases e6
   clear hac;generalize acc.toList=L at key hla;clear ks lv lkv h64 q hk;induction L generalizing ns with
   |nil=>cases ns with
    |nil=>exact .nil
    |cons a b=>simp at hla
   |cons a b ih=>cases ns with
    |nil=>simp at hla
    |cons c d=>
     obtain⟨n,t,e1,e2⟩:=key 0 a (by simp);simp at e1;subst e1;subst e2;exact .cons _ t (ih _ (fun i v e=>by have:=key (i+1) v (by simpa using e);simpa using this) (by simpa using hla))
  refine Q2 (wpAny_newList ?_ (by rw[hla,<-lkv];exact z));have gL:(h1.push { cls:=.type "list",data:=.seq acc.toList.toArray }).get? h1.objs.size=some (seqObj "list" acc.toList.toArray 0):=QN _ rfl;refine Q2 (wpAny_holding (wpAny_call_entry slot_list_sort ⟨_,gL,rfl⟩ entry_list_sort (list_sort_tree (s:={ s with heap:=h1.push { cls:=.type "list",data:=.seq acc.toList.toArray },toks:=tk }) gL hI (by omega) fun out ms a1 a2 a3=>⟨_,rfl,?_⟩) (args_list_sort _)));obtain⟨e,ge⟩:=sortedHeap_at (out:=out) gL;have I1:Inv X pins σ H { s with heap:=h1,toks:=tk }:=I.kept up;have hf:=I1.hok.fresh (Q5 h1.objs.size);refine QY ⟨_,rfl,.ref h1.objs.size,_,Inv.laid (s:={ s with heap:=h1,toks:=tk }) (h':=sortedHeap (h1.push { cls:=.type "list",data:=.seq acc.toList.toArray }) h1.objs.size acc.toList out) (t':=tk) I1 (fun b o g1=>?_) (Q5 _) (tq ge a1 (by rw[a2.length_eq];exact h64)),rfl,q _ ms hf a2 a3⟩;have g1:h1.get? b=some o:=g1;have lt1:=Q9 g1;rw[sortedHeap_old (QD lt1) (by rw[Heap.size_push];exact Nat.lt_succ_of_lt lt1)];exact Q3 _ g1
def cG(ns:List Int):List Int:=ns.mergeSort (fun a b=>decide (a<=b))
def iP(ns:List Int):(cG ns).Perm ns:=List.mergeSort_perm ..
theorem my(ns:List Int):(cG ns).Pairwise (·<=·):=by
 have:=List.pairwise_mergeSort (le:=fun(a b:Int)=>decide (a<=b)) (fun a b c h1 h2=>by simp at h1 h2 ⊢;omega) (fun a b=>by simp;omega) ns;exact this.imp fun h=>by simpa using h
theorem pD{ns ms:List Int}(p:ms.Perm ns)(s:ms.Pairwise (·<=·)):ms=cG ns:=PySem.W.lks_uniq (p.trans (iP ns).symm) s (my ns)
def lD:List (Key×U)->Option (List Int)
 |[]=>some []
 |(.inl n,_)::r=>(lD r).map (n::·)
 |_=>none
theorem lC:∀{kus:List (Key×U)} {ns:List Int},lD kus=some ns->kus.map (·.1)=ns.map Sum.inl
 |[],ns,h=>by cases h;rfl
 |(k,u)::r,ns,h=>by
  cases k<;>simp only[lD]at h<;>try cases h
  obtain⟨ms,e,h⟩:=Qo.mp h;subst h;simp[lC e]
def jQ:Fn
 |[.ref l],S=>match S[l]? with
  |some (.lst us)=>(wI us).bind fun ns=>if ns.length<64 then some (.ref S.length,S++[.lst ((cG ns).map U.int)])else none
  |some (.dic kus)=>(lD kus).bind fun ns=>if ns.length<64 then some (.ref S.length,S++[.lst ((cG ns).map U.int)])else none
  |_=>none
 |_,_=>none
theorem vV{K:Q1}:nU K (sE K) jQ:=by
 intro m S H us vs u S' Q sr i hf post;match us,hf with
 |[.ref l],hf=>
  obtain⟨v,rfl,iv⟩:=i.one;obtain⟨a,ha,rfl⟩:=iv.of_ref;simp only[jQ]at hf;split at hf<;>try cases hf
  ·rename_i ws hS;obtain⟨ns,hn,h⟩:=Q0.mp hf;split at h<;>try cases h
   have hc:ns.length<64:=by assumption
   obtain⟨a',ha',xs,hx,la⟩:=sr.get hS;rw[ha]at ha';cases ha';rw[qe hn]at la;rw[la.ints]at hx;refine⟨a,ns,rfl,.inl (SqL.of hx),hc,fun p ms hp pm sm=>?_⟩;rw[pD pm sm];exact eD sr (jt _) post hp
  ·rename_i ws hS;obtain⟨ns,hn,h⟩:=Q0.mp hf;split at h<;>try cases h
   have hc:ns.length<64:=by assumption
   obtain⟨a',ha',kvs,hx,ip⟩:=sr.get hS;rw[ha]at ha';cases ha';refine⟨a,ns,rfl,.inr ⟨kvs,hx,by rw[ip.1,lC hn]⟩,hc,fun p ms hp pm sm=>?_⟩;rw[pD pm sm];exact eD sr (jt _) post hp
section
variable{ρ:Rho}{S:Sto}{c1 c2:CS}{t ta tb:CT}{ca cb cc:CE}{cr:CA}{u x y:U}{us:List U}{i l:Nat}{f g:U->U->Sto->Option (U×Sto)}{b:Bool}
def Gv(S:Sto):Option (Option U)->Option (U×Sto)
 |some (some u)=>some (u,S)
 |_=>none
def uX:ak i ρ S=Gv S (ρ[i]?):=rfl
def oX:Gv S (some (some u))=some (u,S):=rfl
def x_c:cC u ρ S=some (u,S):=rfl
def FH(f:U->U->Sto->Option (U×Sto))(x:U)(q:U×Sto):=f x q.1 q.2
def GA(f:U->U->Sto->Option (U×Sto))(cb:CE)(ρ:Rho)(p:U×Sto):=(cb ρ p.2).bind (FH f p.1)
def El:cOp f ca cb ρ S=(ca ρ S).bind (GA f cb ρ):=rfl
def yl:GA f cb ρ (x,S)=(cb ρ S).bind (FH f x):=rfl
def yk:FH f x (y,S)=f x y S:=rfl
def CN:U×Sto->Option (Bool×Sto)
 |(.bl b,S)=>some (b,S)
 |_=>none
theorem rB:aP ca ρ S=(ca ρ S).bind CN:=by
 unfold aP;congr 1;funext p;obtain⟨u,S⟩:=p;cases u<;>rfl
def nX:CN (.bl b,S)=some (b,S):=rfl
def FR(tb:CT)(ρ:Rho)(p:Bool×Sto):=if p.1=true then tb ρ p.2 else some (false,p.2)
def kOr(tb:CT)(ρ:Rho)(p:Bool×Sto):=if p.1=true then some (true,p.2)else tb ρ p.2
def GB(p:Bool×Sto):Option (Bool×Sto):=some (!p.1,p.2)
def EY:Dh ta tb ρ S=(ta ρ S).bind (FR tb ρ):=rfl
def Bq:FR tb ρ (true,S)=tb ρ S:=rfl
def Bp:FR tb ρ (false,S)=some (false,S):=rfl
def GY:cOr ta tb ρ S=(ta ρ S).bind (kOr tb ρ):=rfl
def Ek:kOr tb ρ (true,S)=some (true,S):=rfl
def Ej:kOr tb ρ (false,S)=tb ρ S:=rfl
def Em:FY ta ρ S=(ta ρ S).bind GB:=rfl
def A5:GB (b,S)=some (!b,S):=rfl
def Ah(cb:CE)(ρ:Rho):U×Sto->Option (U×Sto)
 |(.bl true,S)=>cb ρ S
 |(.bl false,S)=>some (.bl false,S)
 |_=>none
def FG(cb:CE)(ρ:Rho):U×Sto->Option (U×Sto)
 |(.bl false,S)=>cb ρ S
 |(.bl true,S)=>some (.bl true,S)
 |_=>none
def CQ:U×Sto->Option (U×Sto)
 |(.bl b,S)=>some (.bl (!b),S)
 |_=>none
theorem Bo:Dg ca cb ρ S=(ca ρ S).bind (Ah cb ρ):=by
 unfold Dg;congr 1;funext p;obtain⟨u,S⟩:=p;cases u with
 |bl b=>cases b<;>rfl
 |_=>rfl
def yD:Ah cb ρ (.bl true,S)=cb ρ S:=rfl
def yC:Ah cb ρ (.bl false,S)=some (.bl false,S):=rfl
theorem Ei:DV ca cb ρ S=(ca ρ S).bind (FG cb ρ):=by
 unfold DV;congr 1;funext p;obtain⟨u,S⟩:=p;cases u with
 |bl b=>cases b<;>rfl
 |_=>rfl
def A3:FG cb ρ (.bl false,S)=cb ρ S:=rfl
def A2:FG cb ρ (.bl true,S)=some (.bl true,S):=rfl
theorem A4:Dd ca ρ S=(ca ρ S).bind CQ:=by
 unfold Dd;congr 1;funext p;obtain⟨u,S⟩:=p;cases u<;>rfl
def yn:CQ (.bl b,S)=some (.bl (!b),S):=rfl
def tR(u:U)(q:List U×Sto):Option (List U×Sto):=some (u::q.1,q.2)
def xS(cr:CA)(ρ:Rho)(p:U×Sto):=(cr ρ p.2).bind (tR p.1)
def rD:aH ρ S=some ([],S):=rfl
def o7:ag ca cr ρ S=(ca ρ S).bind (xS cr ρ):=rfl
def jv:xS cr ρ (u,S)=(cr ρ S).bind (tR u):=rfl
def ju:tR u (us,S)=some (u::us,S):=rfl
def Gw(p:List U×Sto):Option (U×Sto):=some (.tup p.1,p.2)
def GC(p:List U×Sto):Option (U×Sto):=some (.ref p.2.length,p.2++[.lst p.1])
def D0:gi cr ρ S=(cr ρ S).bind Gw:=rfl
def AV:Gw (us,S)=some (.tup us,S):=rfl
def A9:fQ cr ρ S=(cr ρ S).bind GC:=rfl
def A7:GC (us,S)=some (.ref S.length,S++[.lst us]):=rfl
def kCB(f:Fn)(p:List U×Sto):=f p.1 p.2
def DB{f:Fn}:cCB f cr ρ S=(cr ρ S).bind (kCB f):=rfl
def rF{f:Fn}:kCB f (us,S)=f us S:=rfl
def GD(T:Ty)(p:U×Sto):Option (U×Sto):=(tyU p.1 p.2).bind fun t=>some (.bl (E4 t T),p.2)
def EA{T:Ty}:Hi T ca ρ S=(ca ρ S).bind (GD T):=rfl
def Bg{T:Ty}:GD T (u,S)=(tyU u S).bind fun t=>some (.bl (E4 t T),S):=rfl
def CO(c2:CS):Out×Rho×Sto->Option (Out×Rho×Sto)
 |(.nx,ρ,S)=>c2 ρ S
 |(o,ρ,S)=>some (o,ρ,S)
def xk:bX ρ S=some (.nx,ρ,S):=rfl
theorem qA:aX c1 c2 ρ S=(c1 ρ S).bind (CO c2):=by
 unfold aX;congr 1;funext p;obtain⟨o,ρ,S⟩:=p;cases o<;>rfl
def oY:CO c2 (.nx,ρ,S)=c2 ρ S:=rfl
def A0:CO c2 (.rt u,ρ,S)=some (.rt u,ρ,S):=rfl
def AZ:CO c2 (.bk,ρ,S)=some (.bk,ρ,S):=rfl
def AY:CO c2 (.ct,ρ,S)=some (.ct,ρ,S):=rfl
def CV(ρ:Rho)(p:U×Sto):Option (Out×Rho×Sto):=some (.nx,ρ,p.2)
def Gz(ρ:Rho)(p:U×Sto):Option (Out×Rho×Sto):=some (.rt p.1,ρ,p.2)
def Bi:dY ca ρ S=(ca ρ S).bind (CV ρ):=rfl
def yx:CV ρ (u,S)=some (.nx,ρ,S):=rfl
def Eh:eJ ca ρ S=(ca ρ S).bind (Gz ρ):=rfl
def A1:Gz ρ (u,S)=some (.rt u,ρ,S):=rfl
def FI(c1 c2:CS)(ρ:Rho)(p:Bool×Sto):=if p.1=true then c1 ρ p.2 else c2 ρ p.2
def jf:fj t c1 c2 ρ S=(t ρ S).bind (FI c1 c2 ρ):=rfl
def mj:FI c1 c2 ρ (true,S)=c1 ρ S:=rfl
def oZ:FI c1 c2 ρ (false,S)=c2 ρ S:=rfl
def kIf(ca cb:CE)(ρ:Rho)(p:Bool×Sto):=if p.1=true then ca ρ p.2 else cb ρ p.2
def G0:cIf t ca cb ρ S=(t ρ S).bind (kIf ca cb ρ):=rfl
def EE:kIf ca cb ρ (true,S)=ca ρ S:=rfl
def ED:kIf ca cb ρ (false,S)=cb ρ S:=rfl
def Gx(i:Nat)(ρ:Rho)(p:U×Sto):Option (Out×Rho×Sto):=some (.nx,ρ.set i (some p.1),p.2)
def nY:eR i ca ρ S=(ca ρ S).bind (Gx i ρ):=rfl
def rC:Gx i ρ (u,S)=some (.nx,ρ.set i (some u),S):=rfl
def Ag(q:Rho×Sto):Option (Out×Rho×Sto):=some (.nx,q.1,q.2)
def GF(g:CG)(ρ:Rho)(p:U×Sto):=(g p.1 ρ p.2).bind Ag
def Bn{g:CG}:Df ca g ρ S=(ca ρ S).bind (GF g ρ):=rfl
def Bm{g:CG}:GF g ρ (u,S)=(g u ρ S).bind Ag:=rfl
def Bl:Ag (ρ,S)=some (.nx,ρ,S):=rfl
def EG:gNm i u ρ S=some (ρ.set i (some u),S):=rfl
def EF{is:List Nat}:gTp is (.tup us) ρ S=(fM is us ρ).bind fun ρ'=>some (ρ',S):=rfl
def Bs:fM [] [] ρ=some ρ:=rfl
def Br{is:List Nat}:fM (i::is) (u::us) ρ=fM is us (ρ.set i (some u)):=rfl
def CP(ρ:Rho)(S':Sto):Option (Out×Rho×Sto):=some (.nx,ρ,S')
def FD(o v:U)(ρ:Rho)(r:U×Sto):=(jR o r.1 v r.2).bind (CP ρ)
def FE(ci:CE)(v:U)(ρ:Rho)(q:U×Sto):=(ci ρ q.2).bind (FD q.1 v ρ)
def kSI(co ci:CE)(ρ:Rho)(p:U×Sto):=(co ρ p.2).bind (FE ci p.1 ρ)
def GR:dr ca cb cc ρ S=(cc ρ S).bind (kSI ca cb ρ):=rfl
def Ed:kSI ca cb ρ (u,S)=(ca ρ S).bind (FE cb u ρ):=rfl
def Ec:FE cb y ρ (u,S)=(cb ρ S).bind (FD u y ρ):=rfl
def Eb:FD x y ρ (u,S)=(jR x u y S).bind (CP ρ):=rfl
def Ea:CP ρ S=some (.nx,ρ,S):=rfl
def kIx(y:U)(S:Sto):Option O->Option (U×Sto)
 | some (.lst us)=>(match y with
   |.int i=>(atI us i).bind fun u=>some (u,S)
   |_=>none)
 |some (.dic kus)=>(jb y).bind fun k=>(bB kus k).bind fun u=>some (u,S)
 |some (.fdc _ kus)=>(jb y).bind fun k=>(bB kus k).bind fun u=>some (u,S)
 |_=>none
def Et{j:Int}:fIx (.tup us) (.int j) S=(atI us j).bind fun u=>some (u,S):=rfl
theorem Eu:fIx (.ref l) y S=kIx y S S[l]?:=by
 unfold fIx kIx;dsimp only<;>(generalize S[l]?=q;rcases q with _|o<;>first|rfl|(cases o<;>rfl))
def Ew{j:Int}:kIx (.int j) S (some (.lst us))=(atI us j).bind fun u=>some (u,S):=rfl
theorem Ey{ep:Nat}{kus:List (Key×U)}:kIx y S (some (.fdc ep kus))=(jb y).bind fun k=>(bB kus k).bind fun u=>some (u,S):=rfl
def Ez{kus:List (Key×U)}:kIx y S (some (.dic kus))=(jb y).bind fun k=>(bB kus k).bind fun u=>some (u,S):=rfl
def DL(l:Nat)(i v:U)(S:Sto):Option O->Option Sto
 | some (.lst us)=>(match i with
   |.int k=>(ixN us.length k).bind fun j=>some (S.set l (.lst (us.set j v)))
   |_=>none)
 |some (.dic kus)=>(jb i).bind fun k=>if kus.length<LIM then some (S.set l (.dic (dW kus k v)))else none
 |_=>none
theorem D9:jR (.ref l) x y S=DL l x y S S[l]?:=by
 unfold jR DL;dsimp only<;>(generalize S[l]?=q;rcases q with _|o<;>first|rfl|(cases o<;>rfl))
theorem AW{j:Int}:DL l (.int j) y S (some (.lst us))=(ixN us.length j).bind fun j=>some (S.set l (.lst (us.set j y))):=rfl
theorem AX{kus:List (Key×U)}:DL l x y S (some (.dic kus))=(jb x).bind fun k=>if kus.length<LIM then some (S.set l (.dic (dW kus k y)))else none:=rfl
def at0{α:Type}{a:α}{r:List α}:atI (a::r) 0=some a:=by show atI _ ((0:Nat):Int)=_;exact iW rfl
def at1{α:Type}{a b:α}{r:List α}:atI (a::b::r) 1=some b:=by show atI _ ((1:Nat):Int)=_;exact iW rfl
def at2{α:Type}{a b c:α}{r:List α}:atI (a::b::c::r) 2=some c:=by show atI _ ((2:Nat):Int)=_;exact iW rfl
def at3{α:Type}{a b c d:α}{r:List α}:atI (a::b::c::d::r) 3=some d:=by show atI _ ((3:Nat):Int)=_;exact iW rfl
def ix0{n:Nat}:ixN (n+1) 0=some 0:=by simp[ixN]
def ix1{n:Nat}:ixN (n+1+1) 1=some 1:=by simp[ixN];omega
def ix2{n:Nat}:ixN (n+1+1+1) 2=some 2:=by simp[ixN];omega
def DO(S:Sto):Option O->Option (U×Sto)
 |some (.lst us)=>some (.int us.length,S)
 |some (.dic us)=>some (.int us.length,S)
 |_=>none
theorem Bb:nV [.ref l] S=DO S S[l]?:=by
 unfold nV DO;dsimp only<;>(generalize S[l]?=q;rcases q with _|o<;>first|rfl|(cases o<;>rfl))
def Bc:DO S (some (.lst us))=some (.int us.length,S):=rfl
def Be{kus:List (Key×U)}:DO S (some (.dic kus))=some (.int kus.length,S):=rfl
def Ba:nV [.tup us] S=some (.int us.length,S):=rfl
variable{j k:Int}
def yE:oI (.int j) (.int k) S=some (.int (j+k),S):=rfl
def D8:FU (.int j) (.int k) S=some (.int (j-k),S):=rfl
def mi(h:uR j k):jS (.int j) (.int k) S=some (.int (j*k),S):=by simp[jS,fI,h]
def yz(h:rp j k):rA (.int j) (.int k) S=some (.int (j / k),S):=by simp[rA,fI,h]
def rE(h:0<k):oF (.int j) (.int k) S=some (.int (j % k),S):=by simp[oF,fI,h]
def Er:fLt (.int j) (.int k) S=some (.bl (decide (j<k)),S):=rfl
def GZ:fLe (.int j) (.int k) S=some (.bl (decide (j<=k)),S):=rfl
def G3:fGt (.int j) (.int k) S=some (.bl (decide (k<j)),S):=rfl
def G4:fGe (.int j) (.int k) S=some (.bl (decide (k<=j)),S):=rfl
def EL:fEq (.int j) (.int k) S=some (.bl (decide (j=k)),S):=rfl
def Eo:fNe (.int j) (.int k) S=some (.bl (!decide (j=k)),S):=rfl
def EK{a c:Str}:fEq (.str a) (.str c) S=some (.bl (decide (a=c)),S):=rfl
def En{a c:Str}:fNe (.str a) (.str c) S=some (.bl (!decide (a=c)),S):=rfl
def EM{a c:Bool}:fEq (.bl a) (.bl c) S=some (.bl (decide (a=c)),S):=rfl
def Ep{a c:Bool}:fNe (.bl a) (.bl c) S=some (.bl (!decide (a=c)),S):=rfl
def kFn:Out×Rho×Sto->Option (U×Sto)
 |(.rt u,_,S)=>some (u,S)
 |(.nx,_,S)=>some (.non,S)
 |_=>none
theorem i4{n k:Nat}(h:us.length=k):fnU n k c1 us S=(c1 (mx n us) S).bind kFn:=by
 unfold fnU;rw[if_pos h];congr 1;funext p;obtain⟨o,ρ,S⟩:=p;cases o<;>rfl
def EI:kFn (.rt u,ρ,S)=some (u,S):=rfl
def EH:kFn (.nx,ρ,S)=some (.non,S):=rfl
end
section
variable{ρ:Rho}{S:Sto}{ca cb cc:CE}{cr:CA}{u x:U}{us:List U}{i l:Nat}{b:Bool}{c:Cl}{fus:List (Option U)}{g:Fn}
open Classical in
def wF(c:Cl)(i:Nat)(S:Sto):Option O->Option (U×Sto)
 |some (.ins c' fus)=>if c'=c then(fus[i]?).join.bind fun u=>some (u,S)else none
 |_=>none
def AK(c:Cl)(i:Nat)(p:U×Sto):=C6 c i p.1 p.2
def EJ:bQ c i ca ρ S=(ca ρ S).bind (AK c i):=rfl
theorem xo:AK c i (.ref l,S)=wF c i S S[l]?:=by
 unfold AK C6 wF;dsimp only<;>(generalize S[l]?=q;rcases q with _|o<;>first|rfl|(cases o<;>rfl))
theorem xn:wF c i S (some (.ins c fus))=((fus[i]?).join).bind fun u=>some (u,S):=by
 unfold wF;dsimp only;rw[if_pos rfl]
open Classical in
def DM(c:Cl)(i l:Nat)(v:U)(S:Sto):Option O->Option Sto
 |some (.ins c' fus)=>if c'=c then some (S.set l (.ins c (fus.set i (some v))))else none
 |_=>none
def DN(c:Cl)(i:Nat)(v:U)(ρ:Rho)(q:U×Sto):=(ud c i q.1 v q.2).bind (CP ρ)
def Gy(c:Cl)(i:Nat)(ca:CE)(ρ:Rho)(p:U×Sto):=(ca ρ p.2).bind (DN c i p.1 ρ)
def GS:fH c i ca cb ρ S=(cb ρ S).bind (Gy c i ca ρ):=rfl
def Eg:Gy c i ca ρ (u,S)=(ca ρ S).bind (DN c i u ρ):=rfl
theorem Ef:DN c i u ρ (.ref l,S)=(DM c i l u S S[l]?).bind (CP ρ):=by
 unfold DN ud DM;dsimp only<;>(generalize S[l]?=q;rcases q with _|o<;>first|rfl|(cases o<;>rfl))
theorem Ee:DM c i l u S (some (.ins c fus))=some (S.set l (.ins c (fus.set i (some u)))):=by
 unfold DM;dsimp only;rw[if_pos rfl]
def tQ(g:Fn)(l:Nat)(q:List U×Sto):=g (.ref l::q.1) q.2
open Classical in
def qa(c:Cl)(g:Fn)(cr:CA)(ρ:Rho)(l:Nat)(S:Sto):Option O->Option (U×Sto)
 |some (.ins c' _)=>if c'=c then(cr ρ S).bind (tQ g l)else none
 |_=>none
def Af(c:Cl)(g:Fn)(cr:CA)(ρ:Rho)(p:U×Sto):=uf c g p.1 p.2 (cr ρ)
def A6:bt c g ca cr ρ S=(ca ρ S).bind (Af c g cr ρ):=rfl
theorem yq:Af c g cr ρ (.ref l,S)=qa c g cr ρ l S S[l]?:=by
 unfold Af uf qa;dsimp only<;>(generalize S[l]?=q;rcases q with _|o<;>first|rfl|(cases o<;>rfl))
theorem yp:qa c g cr ρ l S (some (.ins c fus))=(cr ρ S).bind (tQ g l):=by
 unfold qa;dsimp only;rw[if_pos rfl]
def yo:tQ g l (us,S)=g (.ref l::us) S:=rfl
def CU(n:Nat):U×Sto->Option (U×Sto)
 |(.non,S)=>some (.ref n,S)
 |_=>none
theorem xl:iT c g us S=(g (.ref S.length::us) (S++[.ins c (QQ c.ns.length none)])).bind (CU S.length):=by
 unfold iT;congr 1;funext p;obtain⟨u,S⟩:=p;cases u<;>rfl
def yr:CU i (.non,S)=some (.ref i,S):=rfl
def kIn(neg:Bool)(x:U)(S:Sto):Option O->Option (U×Sto)
 |some (.lst us)=>if jj x=true/\us.all jj=true then some (.bl (if neg then !inU x us else inU x us),S)else none
 |some (.dic kus)=>(jb x).bind fun k=>some (.bl (if neg then !(bB kus k).isSome else(bB kus k).isSome),S)
 |some (.fdc _ kus)=>(jb x).bind fun k=>some (.bl (if neg then !(bB kus k).isSome else(bB kus k).isSome),S)
 |_=>none
theorem EB{neg:Bool}:fIn neg x (.ref l) S=kIn neg x S S[l]?:=by
 unfold fIn kIn;dsimp only<;>(generalize S[l]?=q;rcases q with _|o<;>first|rfl|(cases o<;>rfl))
theorem EC{neg:Bool}{kus:List (Key×U)}:kIn neg x S (some (.dic kus))=(jb x).bind fun k=>some (.bl (if neg then !(bB kus k).isSome else(bB kus k).isSome),S):=rfl
def Es{j:Int}:jb (.int j)=some (.inl j):=rfl
def Bf{z:Str}:jb (.str z)=some (.inr z):=rfl
def FP(f:U->List U->Sto->Option (U×Sto))(x:U)(q:List U×Sto):=f x q.1 q.2
def FQ(f:U->List U->Sto->Option (U×Sto))(cr:CA)(ρ:Rho)(x:U)(S:Sto):Option O->Option (U×Sto)
 |some (.lst _)=>(cr ρ S).bind (FP f x)
 |_=>none
def kBM(f:U->List U->Sto->Option (U×Sto))(cr:CA)(ρ:Rho):U×Sto->Option (U×Sto)
 |(.ref l,S)=>FQ f cr ρ (.ref l) S S[l]?
 |_=>none
variable{fm:U->List U->Sto->Option (U×Sto)}
theorem G6:cBM fm ca cr ρ S=(ca ρ S).bind (kBM fm cr ρ):=by
 unfold cBM;congr 1;funext p;obtain⟨u,S⟩:=p;cases u<;>try rfl
def EW:kBM fm cr ρ (.ref l,S)=FQ fm cr ρ (.ref l) S S[l]?:=rfl
def EV:FQ fm cr ρ x S (some (.lst us))=(cr ρ S).bind (FP fm x):=rfl
def EU:FP fm x (us,S)=fm x us S:=rfl
def DP(l:Nat)(u:U)(S:Sto):Option O->Option (U×Sto)
 |some (.lst us)=>if us.length<LIM then some (.non,S.set l (.lst (us++[u])))else none
 |_=>none
theorem EX:bZ (.ref l) [u] S=DP l u S S[l]?:=by
 unfold bZ DP;dsimp only<;>(generalize S[l]?=q;rcases q with _|o<;>first|rfl|(cases o<;>rfl))
theorem i6(h:us.length<LIM):DP l u S (some (.lst us))=some (.non,S.set l (.lst (us++[u]))):=by
 unfold DP;dsimp only;rw[if_pos h]
def FJ(ku xu:U)(S:Sto):Option O->Option (U×Sto)
 |some (.dic kus)=>(jb ku).bind fun k=>some ((bB kus k).getD xu,S)
 |_=>none
def FK(l:Nat)(ku:U)(r:U×Sto):=FJ ku r.1 r.2 r.2[l]?
def FL(l:Nat)(cx:CE)(ρ:Rho)(q:U×Sto):=(cx ρ q.2).bind (FK l q.1)
def FN(l:Nat)(ck cx:CE)(ρ:Rho)(S:Sto):Option O->Option (U×Sto)
 |some (.dic _)=>(ck ρ S).bind (FL l cx ρ)
 |_=>none
def kDG(ck cx:CE)(ρ:Rho):U×Sto->Option (U×Sto)
 |(.ref l,S)=>FN l ck cx ρ S S[l]?
 |_=>none
theorem G5:rk ca cb cc ρ S=(ca ρ S).bind (kDG cb cc ρ):=by
 unfold rk;congr 1;funext p;obtain⟨u,S⟩:=p;cases u<;>try rfl
def ET:kDG cb cc ρ (.ref l,S)=FN l cb cc ρ S S[l]?:=rfl
def ES{kus:List (Key×U)}:FN l cb cc ρ S (some (.dic kus))=(cb ρ S).bind (FL l cc ρ):=rfl
def ER:FL l cc ρ (u,S)=(cc ρ S).bind (FK l u):=rfl
def EO:FK l u (x,S)=FJ u x S S[l]?:=rfl
def EN{kus:List (Key×U)}:FJ u x S (some (.dic kus))=(jb u).bind fun k=>some ((bB kus k).getD x,S):=rfl
def Bj:jl ρ S=some (.ref S.length,S++[.dic []]):=rfl
def kP3(k:Key)(u:U)(z:List (Key×U)×Sto):Option (List (Key×U)×Sto):=some ((k,u)::z.1,z.2)
def kP2(r:List (CE×CE))(ρ:Rho)(x:U)(q:U×Sto):=(jb x).bind fun k=>(jE r ρ q.2).bind (kP3 k q.1)
def kP1(cv:CE)(r:List (CE×CE))(ρ:Rho)(p:U×Sto):=(cv ρ p.2).bind (kP2 r ρ p.1)
variable{pr:List (CE×CE)}
def GX:jE [] ρ S=some ([],S):=rfl
def x_p:jE ((ca,cb)::pr) ρ S=(ca ρ S).bind (kP1 cb pr ρ):=rfl
def GW:kP1 cb pr ρ (u,S)=(cb ρ S).bind (kP2 pr ρ u):=rfl
def GV:kP2 pr ρ x (u,S)=(jb x).bind fun k=>(jE pr ρ S).bind (kP3 k u):=rfl
def GU{k:Key}{z:List (Key×U)}:kP3 k u (z,S)=some ((k,u)::z,S):=rfl
def kD1(n:Nat)(kus:List (Key×U))(S:Sto):Option O->Option (U×Sto)
 |some (.dic [])=>some (.ref n,S.set n (.dic (tj kus)))
 |_=>none
def kD(n:Nat)(q:List (Key×U)×Sto):=kD1 n q.1 q.2 q.2[n]?
theorem Bk:De pr ρ S=(jE pr ρ (S++[.dic []])).bind (kD S.length):=by
 unfold De;congr 1
def yB{z:List (Key×U)}:kD i (z,S)=kD1 i z S S[i]?:=rfl
def yA{z:List (Key×U)}:kD1 i z S (some (.dic []))=some (.ref i,S.set i (.dic (tj z))):=rfl
def AR:jP [.tup us] S=some (.tup us,S):=rfl
def FC(S:Sto):Option O->Option (U×Sto)
 |some (.lst us)=>some (.tup us,S)
 |_=>none
theorem AS:jP [.ref l] S=FC S S[l]?:=by
 unfold jP FC;dsimp only<;>(generalize S[l]?=q;rcases q with _|o<;>first|rfl|(cases o<;>rfl))
def AU:FC S (some (.lst us))=some (.tup us,S):=rfl
def yt:oH [.tup us] S=some (.ref S.length,S++[.lst us]):=rfl
def kLs(S:Sto):Option O->Option (U×Sto)
 |some (.lst us)=>some (.ref S.length,S++[.lst us])
 |_=>none
theorem yu:oH [.ref l] S=kLs S S[l]?:=by
 unfold oH kLs;dsimp only<;>(generalize S[l]?=q;rcases q with _|o<;>first|rfl|(cases o<;>rfl))
def yv:kLs S (some (.lst us))=some (.ref S.length,S++[.lst us]):=rfl
def Bh:Hf [.bl b] S=some (.int (if b then 1 else 0),S):=rfl
def ga{X:Sto}{n:Nat}:(S++X)[S.length+n]?=X[n]?:=by rw[Qj (Nat.le_add_right _ _),Nat.add_sub_cancel_left]
def ga0{X:Sto}:(S++X)[S.length]?=X[0]?:=ga (n:=0)
theorem gs{X:Sto}{n:Nat}{o:O}:(S++X).set (S.length+n) o=S++X.set n o:=by rw[List.set_append_right _ _ (Nat.le_add_right _ _),Nat.add_sub_cancel_left]
def gs0{X:Sto}{o:O}:(S++X).set S.length o=S++X.set 0 o:=gs (n:=0)
section
variable{ok:Sto->Prop}{gg:CG}{cbd:CS}{ρ0 ρ1:Rho}{S0 S1:Sto}
def gx(h:ok S):ft ok gg cbd [] ρ S=some (.nx,ρ,S):=by unfold ft;rw[if_pos h]
theorem gY(h:ok S)(hg:gg u ρ S=some (ρ0,S0))(hb:cbd ρ0 S0=some (.nx,ρ1,S1)):ft ok gg cbd (u::us) ρ S=ft ok gg cbd us ρ1 S1:=by
 rw[ft];dsimp only;rw[if_pos h,hg,Q6];dsimp only;rw[hb,Q6]
theorem eP{ce:CE}{ys:List U}(h:ok S)(hg:gg u ρ S=some (ρ0,S0))(he:ce ρ0 S0=some (x,S1))(hl:S1[l]?=some (.lst ys))(hn:ys.length<LIM):fi ok gg ce l (u::us) ρ S=fi ok gg ce l us ρ0 (S1.set l (.lst (ys++[x]))):=by
 rw[fi,if_pos h,hg,Q6];dsimp only;rw[he,Q6];dsimp only;rw[hl];dsimp only;rw[if_pos hn]
def gy{ce:CE}(h:ok S):fi ok gg ce l [] ρ S=some S:=by rw[fi,if_pos h]
end
end
def AM{p:List Value->Prop}(h:p [])(us:List Value)(e:us.length=0):p us:=by rw[List.length_eq_zero_iff.mp e];exact h
theorem FZ{n:Nat}{p:List Value->Prop}(h:∀a us,us.length=n->p (a::us))(us:List Value)(e:us.length=n+1):p us:=by
 cases us with
 |nil=>cases e
 |cons a us=>exact h a us (Nat.succ.inj e)
def Ga(H:Hp)(a:Addr)(ep:Nat)(ks:List Key):Prop:=∃ob es kvs,H a=some (.frz ob (.dK kvs))/\ob.data=.dict es ep/\kvs.map (·.1)=ks
def Itd(a:Addr)(ep:Nat)(ks:List Key):It:=
 ⟨fun i H=>i<ks.length/\Ga H a ep ks,fun i H x H'=>H'=H/\∃k,ks[i]?=some k/\x=kV k,fun i H=>ks.length<=i/\Ga H a ep ks⟩
theorem xX{P:Program}{w:World}{H:Hp}{h:Heap}{a:Addr}{ob:Obj}{kvs:List (Key×V)}{es:Array DictEntry}{ep:Nat}(ok:HOk P w H h)(e:H a=some (.frz ob (.dK kvs)))(d:ob.data=.dict es ep):∃vs,KV kvs vs/\h.DictAt (bY P w) a vs ep:=by
 obtain⟨e1,_,_,vs,r,o,es',ep',e2,e3,e4,rest⟩:=(show dE P w H h a (.frz ob (.dK kvs))from ok a _ e);rw[e1]at e2;cases e2;rw[d]at e4;cases e4;exact⟨vs,r,ob,es,e1,e3,d,rest⟩
theorem xR{κ:Type}:∀{kvs:List (κ×V)} {vs:List (κ×Value)} {i:Nat} {k:κ} {v:V},KV kvs vs->kvs[i]?=some (k,v)->∃u,vs[i]?=some (k,u)
 |_,_,i,k,v,.nil,h=>by simp at h
 |_,_,0,k,v,.cons (b:=(k',u)) r t,h=>by
  simp at h;subst h;have:k=k':=r.1;subst this;exact⟨u,by simp⟩
 |_,_,i+1,k,v,.cons r t,h=>by
  obtain⟨u,e⟩:=xR (i:=i) t (by simpa using h);exact⟨u,by simpa using e⟩
theorem Ad{k:Key}{u:Value}(h:mW k u=true):cu (kV k) u:=by
 rcases bo h with⟨i,t,rfl,rfl⟩|⟨i,t,rfl,rfl⟩
 ·exact⟨t,rfl⟩
 ·exact⟨t,rfl⟩
theorem se{P:Program}{w:World}{K:Q1}{tg:Expr}(a it:Addr){ks:List Key}{ep:Nat} :
  Dk P w K tg (Itd a ep ks) [it] it (fun n h=>h.IsKeyIter it a n ks.length ep) where
 mem:=by simp
 obj:=fun n h st c hc=>by
  simp only[QC,List.not_mem_nil,or_false]at hc;subst hc;obtain⟨o,e,_,q⟩:=st;exact⟨o,e,fun v z=>by rw[q]at z;cases z⟩
 keep:=fun n h h' st kp=>Heap.IsKeyIter.at st fun o q=>kp it (by simp) o q
 item:=by
  intro X hP hw hK hc n pins s σ H E Iv hf st hg;subst hP hw hK;obtain⟨hi,ob,es,kvs,hq,d,ek⟩:=hg;obtain⟨vs,rv,da⟩:=xX Iv.hok hq d;have hl:ks.length=vs.length:=by rw[<-ek,QZ];exact Paired.length rv
  have hi':n<kvs.length:=by rw[<-ek,QZ]at hi;exact hi
  have hx:kvs[n]?=some ((kvs[n]).1,(kvs[n]).2):=QV hi';obtain⟨u,hu⟩:=xR rv hx;obtain⟨f0,f1,f2,f3⟩:=hf it (by simp);have st':s.heap.IsKeyIter it a n vs.length ep:=by rw[<-hl];exact st
  refine wpAny_pyNext_dict_item st' da hu fun key h1 hk st1 sb=>⟨key,rfl,?_⟩;have I1:Inv X pins σ H { s with heap:=h1 }:=Iv.turned (t':=s.toks) (fun b o hb e=>(sb.2 b hb).trans e) f0 f1 f3.1 f3.2.1 f3.2.2;have st2:h1.IsKeyIter it a (n+1) ks.length ep:=by rw[hl];exact st1
  obtain⟨o,e,c,q⟩:=id st2;exact wK (s:={ s with heap:=h1 }) e c q (by decide) ⟨kV (kvs[n]).1,H,I1,Ad hk,⟨rfl,_,by rw[<-ek,Qq,hx];rfl,rfl⟩,st2,fun b hb=>(hf b hb).1⟩
 done:=by
  intro X hP hw hK hc n pins s σ H E Iv hf st hg;subst hP hw hK;obtain⟨hi,ob,es,kvs,hq,d,ek⟩:=hg;obtain⟨vs,rv,da⟩:=xX Iv.hok hq d;have hl:ks.length=vs.length:=by rw[<-ek,QZ];exact Paired.length rv
  obtain⟨f0,f1,f2,f3⟩:=hf it (by simp);have st':s.heap.IsKeyIter it a n vs.length ep:=by rw[<-hl];exact st
  exact wpAny_pyNext_dict_end (Iv.ok.hd hc) st' da (by rw[List.getElem?_eq_none_iff];omega) fun h1 eb=>⟨rfl,Iv.turned (t':=s.toks) (fun b o hb e=>eb b o hb e) f0 f1 f3.1 f3.2.1 f3.2.2⟩
 self:=fun _ _ _ _ _ st h=>wpAny_pyIter_keyiter st h
theorem qd{X:Cx}{pins:List (Addr×Obj)}{σ:L2.St}{H:Hp}{s:Shared}{a:Addr}{o u:HO}(I:Inv X pins σ H s)(e:H a=some o)(nt:∀xs,o≠.tup xs)(no:∀x,o≠.own x)(nb:∀ps,o≠.tbl ps)
  (nf:∀ob u,X.H₀ a≠some (.frz ob u)) (new:dE X.prog X.w (upd H a u) s.heap a u):Inv X pins σ (upd H a u) s:=by
 have nn:∀b,H b=none->upd H a u b=none:=fun b q=>by rw[aK (Ne.symm (cV e q))];exact q
 have ho:∀b x,H b=some (.own x)->upd H a u b=some (.own x):=fun b x q=>by
  rw[aK];exact q;intro z;subst z;rw[e]at q;cases q;exact no _ rfl
 have ht:∀b xs,H b=some (.tup xs)->upd H a u b=some (.tup xs):=fun b x q=>by
  rw[aK];exact q;intro z;subst z;rw[e]at q;cases q;exact nt _ rfl
 refine⟨I.ok,I.os,I.bare,⟨I.base.keep,I.base.slot,fun b ob q1 q2 q3=>nn _ (I.base.free b ob q1 q2 q3),I.base.there,fun b xs q=>ht _ _ (I.base.tups b xs q),fun b ob v q=>?_,fun b ps q=>?_⟩,I.loc,I.cell,nn _ I.free,fun x c q=>nn _ (I.freeC x c q),fun p hp=>?_,fun b v q=>?_,I.len⟩
 ·rw[aK];exact I.base.frzs b ob v q;intro z;subst z;exact nf _ _ q
 ·obtain⟨more,q'⟩:=I.base.tbls b ps q;refine⟨more,?_⟩;rw[aK];exact q';intro z;subst z;rw[e]at q';cases q';exact nb _ rfl
 ·obtain⟨p1,p2,p3⟩:=I.pin p hp;exact⟨p1,nn _ p2,p3⟩
 ·by_cases hb:b=a
  ·subst hb;rw[aI]at q;cases q;exact new
  ·rw[aK hb]at q;exact(I.hok b v q).stay (fun _ _ _ g=>g) (fun c g=>ho c b g) fun c xs g=>ht c xs g
def uU(X:Cx)(a:Addr):Prop:=∀ob u,X.H₀ a≠some (.frz ob u)
def Ap(X:Cx)(tl:TE):TI:=fun σ H R=>tl σ H fun x H1=>∃a kvs,x=.ref a/\H1 a=some (.dK kvs)/\∀ob es ep,uU X a->ob.data=.dict es ep->R (Itd a ep (kvs.map (·.1))) (upd H1 a (.frz ob (.dK kvs)))
theorem nZ{X:Cx}{tg l:Expr}{tl:TE}(hl:WE X l tl):WI X tg l (Ap X tl):=by
 constructor;intro pins s σ H R I h;refine thn (hl.h pins s σ H _ I h) fun v s1 hz=>?_;obtain⟨x,H1,I1,r1,q1⟩:=hz;obtain⟨a,kvs,rfl,hq,q⟩:=q1;cases r1;obtain⟨hz,hs,vs,rv,ob,es,ep,e1,e2,e3,rest⟩:=uh I1.hok hq;have da:s1.heap.DictAt (bY X.prog X.w) a vs ep:=⟨ob,es,e1,e2,e3,rest⟩;have hl:kvs.length=vs.length:=Paired.length rv;have nf:uU X a:=fun ob' u' z=>by have:=I1.base.frzs a ob' u' z;rw[hq]at this;cases this
 have I2:Inv X pins σ (upd H1 a (.frz ob (.dK kvs))) s1:=qd I1 hq (by simp) (by simp) (by simp) nf ⟨e1,hz,hs,vs,rv,ob,es,ep,e1,e2,e3,rest⟩;refine wpAny_pyIter_dict hs da ?_;refine⟨s1.heap.objs.size,[s1.heap.objs.size],_,_,_,rfl,I2.kept (t':=s1.toks) fun b o g=>Q3 _ g,se a _,⟨_,QN _ rfl,rfl,by rw[QZ,hl];rfl⟩,fun b hb=>?_,q ob es ep nf e3⟩;simp only[QC,List.not_mem_nil,or_false]at hb;subst hb;exact I2.fpOk (Q5 _) (I2.hok.fresh (Q5 _))
def Dv(X:Cx)(D:uW):uW where
 nx:=fun σ H=>∃a ob kvs,uU X a/\H a=some (.frz ob (.dK kvs))/\D.nx σ (upd H a (.dK kvs))
 rt:=fun v H=>∃a ob kvs,uU X a/\H a=some (.frz ob (.dK kvs))/\D.rt v (upd H a (.dK kvs))
 bk:=fun σ H=>∃a ob kvs,uU X a/\H a=some (.frz ob (.dK kvs))/\D.bk σ (upd H a (.dK kvs))
 ct:=fun σ H=>∃a ob kvs,uU X a/\H a=some (.frz ob (.dK kvs))/\D.ct σ (upd H a (.dK kvs))
theorem iE{X:Cx}{pins:List (Addr×Obj)}{σ:L2.St}{H:Hp}{s:Shared}{a:Addr}{ob:Obj}{kvs:List (Key×V)}(I:Inv X pins σ H s)(nf:uU X a)(e:H a=some (.frz ob (.dK kvs))):Inv X pins σ (upd H a (.dK kvs)) s:=
 qd I e (by simp) (by simp) (by simp) nf (show dE X.prog X.w H s.heap a (.frz ob (.dK kvs))from I.hok a _ e).2
theorem rG{X:Cx}{st:Stmt}{t:TS}(h:WS X st t):WS X st (fun D σ H=>t (Dv X D) σ H):=by
 constructor;intro pins s σ H D I k;refine thn (h.h pins s σ H _ I k) fun f s1 q=>?_;cases f with
 |next=>obtain⟨σ1,H1,I1,a,ob,kvs,nf,e,r⟩:=q;exact⟨σ1,_,iE I1 nf e,r⟩
 |brk=>obtain⟨σ1,H1,I1,a,ob,kvs,nf,e,r⟩:=q;exact⟨σ1,_,iE I1 nf e,r⟩
 |cont=>obtain⟨σ1,H1,I1,a,ob,kvs,nf,e,r⟩:=q;exact⟨σ1,_,iE I1 nf e,r⟩
 |ret u=>obtain⟨v,σ1,H1,I1,rv,a,ob,kvs,nf,e,r⟩:=q;exact⟨v,σ1,_,iE I1 nf e,rv,r⟩
def kU:Key->U
 |.inl i=>.int i
 |.inr x=>.str x
theorem C0{K:Q1}{m:List Addr}{H:Hp}(k:Key):Is K m H (kV k) (kU k):=by
 cases k with
 |inl i=>exact .int_
 |inr x=>exact .str_
open Classical in
def uni{α:Type}(F:Nat->Option α):Option α:=if h:∃r,∀n,F n=some r then some h.choose else none
theorem rZ{α:Type}{F:Nat->Option α}{r:α}(h:∀n,F n=some r):uni F=some r:=by
 have hx:∃r,∀n,F n=some r:=⟨r,h⟩;unfold uni;rw[dif_pos hx];have:=hx.choose_spec 0;rw[h 0]at this;exact this.symm
theorem pj{α:Type}{F:Nat->Option α}{r:α}(h:uni F=some r)(n:Nat):F n=some r:=by
 unfold uni at h;split at h
 ·rename_i hx;cases h;exact hx.choose_spec n
 ·cases h
def uy(ce:CE)(g:CG)(cb:CS):CS:=fun ρ S=>(ce ρ S).bind fun p=>match p.1 with
 |.ref l=>match p.2[l]? with
  |some (.dic kus)=>uni fun ep=>(ft (fun S'=>S'[l]?=some (.fdc ep kus)) g cb (kus.map fun q=>kU q.1) ρ (p.2.set l (.fdc ep kus))).bind fun r=>match r.2.2[l]? with
   |some (.fdc _ kus')=>some (r.1,r.2.1,r.2.2.set l (.dic kus'))
   |_=>none
  |_=>none
 |_=>none
theorem tW{K:Q1}{m:List Addr}{H:Hp}{a:Addr}{l ep:Nat}{kus:List (Key×U)}(ha:m[l]?=some a):xj K (Itd a ep (kus.map (·.1))) m H (kus.map fun q=>kU q.1) (fun S'=>S'[l]?=some (.fdc ep kus)):=by
 intro m2 S2 H2 i e sr hok;obtain⟨a',ha',ob,es,kvs,hx,hd,ip⟩:=sr.get hok;have ha2:=e.get ha;rw[ha2]at ha';cases ha';have hz:Ga H2 a ep (kus.map (·.1)):=⟨ob,es,kvs,hx,hd,ip.1⟩;refine⟨fun u hu=>?_,fun hu=>⟨by simpa using hu,hz⟩⟩;have hi:i<kus.length:=by have:=(Q4.mp hu).1;simpa using this
 refine⟨⟨by simpa using hi,hz⟩,?_⟩;rintro x H3 ⟨rfl,k,hk,rfl⟩;refine⟨.refl,sr,?_⟩;rw[Qq]at hk hu;rw[QV hi]at hk hu;cases hk;cases hu;exact C0 _
theorem wM{X:Cx}{ce:CE}{g:CG}{cb:CS}:∀D σ H,tS X.K (uy ce g cb) D σ H->DH (Ap X (tE X.K ce)) (tG X.K g) (tS X.K cb) (Dv X D) σ H:=by
 rintro D σ H ⟨m,ρ,S,o,ρ',S',sr,lr,hc,post⟩;obtain⟨⟨x,S1⟩,h1,h⟩:=Q0.mp hc;refine⟨m,ρ,S,x,S1,sr,lr,h1,fun m1 v1 H1 e1 sr1 i1=>?_⟩;cases x with
 |ref l=>
  simp only at h;split at h<;>try cases h
  rename_i kus hS;obtain⟨a,ha,rfl⟩:=i1.of_ref;obtain⟨a',ha',kvs,hx,ip⟩:=sr1.get hS;rw[ha]at ha';cases ha';refine⟨a,kvs,rfl,hx,fun ob es ep nf hd=>?_⟩;obtain⟨⟨o1,ρ1,S2⟩,h2,h3⟩:=Q0.mp (pj h ep);simp only at h3;split at h3<;>try cases h3
  rename_i ep' kus' hS2;have kp:uP X.K H1 (upd H1 a (.frz ob (.dK kvs))):=sr1.keep ha _;have ee:Ext X.K m1 H1 m1 (upd H1 a (.frz ob (.dK kvs))):=.of kp;have sr2:Sr X.K m1 (S1.set l (.fdc ep kus)) (upd H1 a (.frz ob (.dK kvs))):=sr1.put ha ⟨ob,es,kvs,aI,hd,ip.mono ee⟩;rw[ip.1];refine pS sr2 (lr.mono (e1.trans ee)) (tW ha) h2 ?_;have back:∀m3 H3,Ext X.K m1 (upd H1 a (.frz ob (.dK kvs))) m3 H3->Sr X.K m3 S2 H3->∃ob' kvs',H3 a=some (.frz ob' (.dK kvs'))/\Ext X.K m3 H3 m3 (upd H3 a (.dK kvs'))/\Sr X.K m3 (S2.set l (.dic kus')) (upd H3 a (.dK kvs')):=fun m3 H3 e3 sr3=>by
   obtain⟨a3,ha3,ob3,es3,kvs3,hx3,hd3,ip3⟩:=sr3.get hS2;rw[e3.get ha]at ha3;cases ha3;have e4:Ext X.K m3 H3 m3 (upd H3 a (.dK kvs3)):=.of (sr3.keep (e3.get ha) _);exact⟨ob3,kvs3,hx3,e4,sr3.put (e3.get ha) ⟨kvs3,aI,ip3.mono e4⟩⟩
  have nxt:∀(R:L2.St->Hp->Prop),gF X.K m H R ρ' (S2.set l (.dic kus'))->gF X.K m1 (upd H1 a (.frz ob (.dK kvs))) (fun σ H=>∃a ob kvs,uU X a/\H a=some (.frz ob (.dK kvs))/\R σ (upd H a (.dK kvs))) ρ' S2:=fun R p m3 σ3 H3 e3 sr3 lr3=>by
   obtain⟨ob3,kvs3,hx3,e4,sr4⟩:=back m3 H3 e3 sr3;exact⟨a,ob3,kvs3,nf,hx3,p m3 σ3 _ (((e1.trans ee).trans e3).trans e4) sr4 (lr3.mono e4)⟩
  cases o with
  |nx=>exact nxt _ post
  |bk=>exact nxt _ post
  |ct=>exact nxt _ post
  | rt v=>
    intro m3 v3 H3 e3 sr3 i3;obtain⟨ob3,kvs3,hx3,e4,sr4⟩:=back m3 H3 e3 sr3;exact⟨a,ob3,kvs3,nf,hx3,post m3 v3 _ (((e1.trans ee).trans e3).trans e4) sr4 (i3.mono e4)⟩
 |_=>cases h
theorem ze{X:Cx}{tg iter:Expr}{body:List Stmt}{ce:CE}{g:CG}{cb:CS}{pos:Pos}(hp:PassesOwn (model X.prog X.w) X.A X.env X.xe)(hc:X.calm=true)(hi:QE X iter ce)(hg:QG X tg g)(hb:QSs X body cb)(hs:∀x,foldedSetIterable iter X.env x=pure x:=by intro _;rfl):QS X (.For tg iter body [] pos) (uy ce g cb):=
 (rG (rL hp hc (nZ hi) hg hb hs)).imp wM
end OP
namespace OG
open PySem PySem.Spec PyProof.Rows L2
def sj(wi:TI)(g:TG)(tt:TT)(te:TE)(n:Nat)(caps:List Nat):TE:=fun σ H Q=>wi σ H fun J H1=>∀l,H1 l=none->∃W:Nat->Nat->L2.St->Hp->Prop,(∃m,W 0 m (stC n caps σ) (upd H1 l (.lst [])))/\
 ∀i m σ' H2,W i m σ' H2->(J.stop i H2/\Q (.ref l) H2)\/(J.go i H2/\∃N:L2.St->Hp->Prop,(∀σ'' H',N σ'' H'->∃m',m'<m/\W (i+1) m' σ'' H')/\
  ∀x H3,J.yld i H2 x H3->g x σ' H3 fun σ2 H4=>tt σ2 H4 fun b H5=>match b with
   |true=>te σ2 H5 fun v H6=>∃ys,H6 l=some (.lst ys)/\ys.length<sizeLine/\N σ2 (upd H6 l (.lst (ys++[v])))
   |false=>N σ2 H5)
theorem kq{prog:Program}{w:World}{A:Around}{R:Result->Shared->Prop}{s:Shared}{elt target iter c:Expr}{scope:Scope}{pos:Pos}{it acc:Value}{env:Env}(I:Nat->Shared->Prop)
  (turn:∀n s,I n s->wpAny (model prog w) A (pyNext it) (fun r s₁=>match r with
   |none=>R (.ok .next) s₁
   |some v=>wpAny (model prog w) A (letOwnedTupleGo target it v) (fun _ s₁'=>wpAny (model prog w) A (assign target env v) (fun _ s₂=>wpAny (model prog w) A (PySem.isTrue c env (eval c env)) (fun b s₂'=>match b with
    |true=>wpAny (model prog w) A (eval elt env) (fun x s₃=>
     wpAny (model prog w) A (call (.builtin "list.append") [acc,x]) (fun _ s₄=>∃m,m<n/\I m s₄) (fun _ _=>False) s₃)
     (fun _ _=>False) s₂'
    |false=>∃m,m<n/\I m s₂') (fun _ _=>False) s₂) (fun _ _=>False) s₁') (fun _ _=>False) s₁) (fun _ _=>False) s)
  (n:Nat) (h:I n s) :
  codeAny (model prog w) A (.compLoop (.ListComp elt [⟨target,iter,[c],0⟩] scope pos) 0 it acc env) R s:=by
 refine codeAny_loop rfl I (fun n s hI=>?_) n h;show wpAny _ _ ((compTurn (.ListComp elt [⟨target,iter,[c],0⟩] scope pos) 0 it acc env).onRaise (fun x=>do noteFrame x env;theTreesLotGoes x)) _ _ s;refine wpAny_noted ?_;rw[compTurn_list];refine Q2 (wpAny_standAt (Q2 (Qh (turn n s hI) (fun r s₁ h₁=>?_) fun _ _ h'=>h'.elim)));cases r with
 |none=>exact QY h₁
 |some v=>
  refine Q2 (Qh h₁ (fun _ s₁' h₁'=>?_) fun _ _ h'=>h'.elim);refine Q2 (Qh h₁' (fun _ s₂ h₂=>?_) fun _ _ h'=>h'.elim);dsimp only;simp only[List.forIn_cons,List.forIn_nil,if_true,bind_assoc,pure_bind];refine Q2 (Qh h₂ (fun b s₂' h₂'=>?_) fun _ _ h'=>h'.elim);cases b with
  |true=>
   rw[if_pos rfl];exact Q2 (Qh h₂' (fun x s₃ h₃=>Q2 (Qh h₃
    (fun _ s₄ h₄=>QY ⟨rfl,h₄⟩) fun _ _ h'=>h'.elim)) fun _ _ h'=>h'.elim)
  |false=>
   rw[if_neg Q7];exact QY ⟨rfl,h₂'⟩
theorem rg{X:Cx}{Nc capN tn:List Str}{scope:Scope}{cl:List (Str×Addr)}{n:Nat}{caps:List Nat}{tg iter elt:Expr}{pos:Pos}{wi:TI}{g:TG}{te:TE}{tt:TT}{c:Expr}
  (hc:X.calm=true) (hi:WI X tg iter wi) (hg:∀s3 H3 fp,WG (cxC X Nc scope cl s3 H3 fp) tg g) (he:∀s3 H3 fp,WE (cxC X Nc scope cl s3 H3 fp) elt te)
  (ht:∀s3 H3 fp,WT (cxC X Nc scope cl s3 H3 fp) c tt)
  (hclos:closureFor scope X.env=pure cl) (hkind:scope.kind=.function) (hnl:∀x∈scope.names,x.2=.local->scope.names.lookup x.1=some .local) (hcell:∀x∈scope.names,x.2≠.cell)
  (hcl:qz X.env cl) (hhas:((relabel scope X.env).names.all fun p=>!(p.2 == .cell||p.2 == .free)||(cl.lookup p.1).isSome)=true)
  (hcap:Paired (Cap X scope cl) caps capN) (hN:Nc=tn++capN) (hn:tn.length=n)
  {use:Option (Value->Sem Unit)} {pins:List (Addr×Obj)} {σ:L2.St} {H:Hp} {s:Shared} {Q:VK} {Qf:Value->Shared->Prop} (I:Inv X pins σ H s) (h:sj wi g tt te n caps σ H Q)
  (hend:∀(D C:Addr) (s6:Shared) (H5:Hp) (m:Str->Option Value),Inv X pins σ H5 s6->s6.heap.Ns C m->H5 C=none->C≠X.env.locals->X.s₀.heap.objs.size<=C->(∀x c,X.env.cells.lookup x=some c->c≠C)->(∀p∈X.pn++pins,p.1≠C)->Q (.ref D) H5->compPost (model X.prog X.w) X.A X.xe use Qf (.ref D) C (.ok .next) s6)
  (hs:∀x,foldedSetIterable iter X.env x=pure x) :
  wpAny (model X.prog X.w) X.A (comprehension (.ListComp elt [⟨tg,iter,[c],0⟩] scope pos) scope X.env (firstIterPos [⟨tg,iter,[c],0⟩] pos) (newList []) (firstAsync [⟨tg,iter,[c],0⟩]) (firstIter [⟨tg,iter,[c],0⟩] X.env) use) Qf X.xe s:=by
 refine wpAny_comprehension_free (use:=use) (g:=⟨tg,iter,[c],0⟩) (gs:=[]) rfl hs hclos hkind hnl (thn (hi.h pins s σ H _ I h) fun v s1 h1=>thn h1 fun itv s2 h2=>?_);obtain⟨it,fp,tnn,J,H2,rfl,I2,T,st2,f2,hW⟩:=h2;have hD:=I2.fresh;obtain⟨W,⟨m0,w0⟩,turn⟩:=hW _ hD;refine wpAny_newObj_type (wpAny_newFunctionEnv hcell (by intro y hy;simp at hy) (fun h₁ hns₁ hsb₁=>?_) hkind);dsimp only at hns₁ hsb₁ ⊢;have I3:Inv X pins σ (upd H2 s2.heap.objs.size (.lst [])) { s2 with heap:=s2.heap.push { cls:=.type "list",dict:=none,data:=.seq ([]:List Value).toArray },toks:=s2.toks }:=I2.lnew (its:=[]) .nil (Qe _);generalize hs3:({ s2 with heap:=s2.heap.push { cls:=.type "list",dict:=none,data:=.seq ([]:List Value).toArray },toks:=s2.toks }:Shared)=s3 at I3;have es3:s3.heap=s2.heap.push { cls:=.type "list",dict:=none,data:=.seq ([]:List Value).toArray }:=by rw[<-hs3]
 generalize hDD:s2.heap.objs.size=D at *;have kept:∀b o,s3.heap.get? b=some o->h₁.get? b=some o:=fun b o e=>by
  have lt:=Q9 e;rw[es3]at lt e;exact hsb₁.extBut b o (QD lt) (Q3 _ e)
 have old:∀b o,s2.heap.get? b=some o->s3.heap.get? b=some o:=fun b o e=>by rw[es3];exact Q3 _ e
 have ltD:∀b∈fp,b<D:=fun b hb=>by
  obtain⟨o,e,_⟩:=T.obj 0 _ st2 b hb;rw[<-hDD];exact Q9 e
 have fo:∀b∈fp,b<s3.heap.objs.size:=fun b hb=>by
  obtain⟨o,e,_⟩:=T.obj 0 _ st2 b hb;exact Q9 (old _ _ e)
 have f3:∀b∈fp,uQ X pins (upd H2 D (.lst [])) b:=fun b hb=>by
  refine⟨?_,(f2 b hb).2⟩;rw[aK (QD (ltD b hb))];exact(f2 b hb).1
 rw[<-es3]at hns₁ hsb₁ ⊢;have Ic:=fun t'=>Inv.comp (h1:=h₁) (t':=t') (Nc:=Nc) (n:=n) I3 hc f3 fo hkind hcl hhas hcap tn hN hn hns₁ kept;have stat:∀{H':Hp},(∀b∈fp,H' b=none)->∀b∈fp,uQ (cxC X Nc scope cl s3 (upd H2 D (.lst [])) fp) [] H' b:=fun hn' b hb=>by
  refine⟨hn' b hb,QD (fo b hb),fun z=>?_,.inl hb,fun x c e=>(f2 b hb).2.2.2.2.1 x c (hcl.look e),fun p hp=>(by simp at hp)⟩;rcases QC.mp (I3.stkSub b z)with q|q
  ·exact(f2 b hb).2.1 q
  ·exact(f2 b hb).2.2.1 q
 have loop:∀s4:Shared,(∃t',s4={ s3 with heap:=h₁,toks:=t' })->codeAny (model X.prog X.w) X.A (.compLoop (.ListComp elt [⟨tg,iter,[c],0⟩] scope pos) 0 (.ref it) (.ref D) (compEnvC scope cl s3.heap.objs.size X.env))
   (compPost (model X.prog X.w) X.A X.xe use Qf (.ref D) s3.heap.objs.size) s4:=by
  rintro s4 ⟨t',rfl⟩;refine kq (fun n' s'=>∃i σ' H',Inv (cxC X Nc scope cl s3 (upd H2 D (.lst [])) fp) [] σ' H' s'/\tnn i s'.heap/\(∀b∈fp,H' b=none)/\W i n' σ' H') ?_ m0
   ⟨0,_,_,Ic t',T.keep 0 _ _ st2 fun b hb o e=>kept _ _ (old _ _ e),fun b hb=>(f3 b hb).1,w0⟩
  rintro n' s5 ⟨i,σ5,H5,I5,st5,fr5,w5⟩;rcases turn i n' σ5 H5 w5 with⟨stop,qn⟩|⟨go,N,hN',step⟩
  ·refine thn (T.done (cxC X Nc scope cl s3 (upd H2 D (.lst [])) fp) rfl rfl rfl hc i [] s5 σ5 H5 (fun _ _=>False) I5 (stat fr5) st5 stop) fun r s6 ⟨hr,I6⟩=>?_;subst hr;obtain⟨m,hm,_⟩:=I6.loc;have I7:Inv X pins σ H5 s6:=Inv.call' (ch:=fp) I3 I6.os I6.base I6.hok I6.bare fun b hb=>⟨(f2 b hb).2.2.2.1,(f2 b hb).2.1,(f2 b hb).2.2.2.2.1,(f2 b hb).2.2.2.2.2⟩;exact hend D _ s6 H5 m I7 hm I6.free (Ne.symm (QD I3.lt)) I3.sz (fun x c e=>by
     obtain⟨v',o,ho,_⟩:=I3.cell x c e;exact QD (Q9 ho)) (fun p hp=>QD (Q9 (I3.pin p hp).1)) qn
  ·refine thn (T.item (cxC X Nc scope cl s3 (upd H2 D (.lst [])) fp) rfl rfl rfl hc i [] s5 σ5 H5 (fun _ _=>False) I5 (stat fr5) st5 go) fun r s6 ⟨u,hr,h6⟩=>?_;subst hr;refine thn h6 fun _ s7 hz=>?_;obtain⟨x,H7,I7,r7,y7,st7,fr7⟩:=hz;have I7':=I7.pinned (stat fr7) (T.obj _ _ st7);refine thn ((hg s3 (upd H2 D (.lst [])) fp).h _ s7 σ5 H7 x u _ I7' r7 (step x H7 y7)) fun _ s8 hz=>?_;obtain⟨σ8,H8,I8,q8⟩:=hz;have fin:∀{s10:Shared} {H10:Hp},Inv (cxC X Nc scope cl s3 (upd H2 D (.lst [])) fp) _ σ8 H10 s10->N σ8 H10->∃m',m'<n'/\∃i' σ' H',Inv (cxC X Nc scope cl s3 (upd H2 D (.lst [])) fp) [] σ' H' s10/\tnn i' s10.heap/\(∀b∈fp,H' b=none)/\W i' m' σ' H':=fun{s10 H10} I10 q10=>by
    obtain⟨m',hm,w10⟩:=hN' σ8 H10 q10;refine⟨m',hm,i+1,σ8,H10,Inv.unpinned I10,T.keep _ _ _ st7 fun b hb o e=>(Inv.pin I10 (b,o) (QK _ (QK _ (eI hb e)))).1,fun b hb=>?_,w10⟩;obtain⟨o,e,d⟩:=T.obj _ _ st7 b hb;exact(Inv.pin I10 (b,o) (QK _ (QK _ (eI hb e)))).2.1
   refine thn ((ht s3 (upd H2 D (.lst [])) fp).h _ s8 σ8 H8 _ I8 q8) fun b9 s9' h9=>?_;obtain⟨H9',I9',q9'⟩:=h9;cases b9 with
   |false=>exact fin I9' q9'
   |true=>
    refine thn ((he s3 (upd H2 D (.lst [])) fp).h _ s9' σ8 H9' _ I9' q9') fun v9 s9 hz=>?_;obtain⟨x9,H9,I9,r9,ys,hy,hlt,q9⟩:=hz;exact thn (jG (X:=cxC X Nc scope cl s3 (upd H2 D (.lst [])) fp) _ s9 σ8 H9 (.ref D) [x9] (.ref D) [v9] (fun _ H'=>N σ8 H') I9 rfl (.cons r9 .nil) ⟨D,ys,x9,rfl,rfl,hy,hlt,q9⟩) fun _ s10 ⟨_,H10,I10,_,q10⟩=>fin I10 q10
 have e4:∀t',({ s2 with heap:=h₁,toks:=t' }:Shared)={ s3 with heap:=h₁,toks:=t' }:=fun t'=>by rw[<-hs3]
 refine codeAny_compStart_list (loop _ ⟨_,e4 _⟩) (T.self _ 0 _ _ _ (T.keep 0 _ _ st2 fun b hb o e=>kept _ _ (old _ _ e)) (loop _ ⟨_,e4 _⟩))
end OG
namespace OP
open PySem PySem.Spec PyProof.Rows L2 OG
open Classical in
def cq(ok:Sto->Prop)(g:CG)(ct:CT)(ce:CE)(l:Nat):List U->Rho->Sto->Option Sto
 |[],_,S=>if ok S then some S else none
 |u::us,ρ,S=>if ok S then(g u ρ S).bind fun p=>(ct p.1 p.2).bind fun q=>if q.1=true then(ce p.1 q.2).bind fun r=>match r.2[l]? with
  |some (.lst ys)=>if ys.length<LIM then cq ok g ct ce l us p.1 (r.2.set l (.lst (ys++[r.1])))else none
  |_=>none else cq ok g ct ce l us p.1 q.2 else none
section
variable{K:Q1}
theorem oQ{g:CG}{ct:CT}{ce:CE}{n:Nat}{caps:List Nat}{J:It}{us:List U}{ok:Sto->Prop}{Q:VK}{m1:List Addr}{H1:Hp}{S1 S':Sto}{ρ:Rho}{σ:L2.St}{l:Addr}(sr1:Sr K m1 S1 H1)(lr:Lr K m1 H1 ρ σ)(ito:xj K J m1 H1 us ok)(hl:H1 l=none)(h2:cq ok g ct ce S1.length us (pF n caps ρ) (S1++[.lst []])=some S')
  (post:∀m2 H2,Ext K (m1++[l]) (upd H1 l (.lst [])) m2 H2->Sr K m2 S' H2->Q (.ref l) H2) :
  ∃W:Nat->Nat->L2.St->Hp->Prop,(∃m,W 0 m (OG.stC n caps σ) (upd H1 l (.lst [])))/\
 ∀i m σ' H2,W i m σ' H2->(J.stop i H2/\Q (.ref l) H2)\/(J.go i H2/\∃N:L2.St->Hp->Prop,(∀σ'' H',N σ'' H'->∃m',m'<m/\W (i+1) m' σ'' H')/\
  ∀x H3,J.yld i H2 x H3->tG K g x σ' H3 fun σ2 H4=>tT K ct σ2 H4 fun b H5=>match b with
   |true=>tE K ce σ2 H5 fun v H6=>∃ys,H6 l=some (.lst ys)/\ys.length<sizeLine/\N σ2 (upd H6 l (.lst (ys++[v])))
   |false=>N σ2 H5):=by
 have ee:Ext K m1 H1 (m1++[l]) (upd H1 l (.lst [])):=.new (cy hl _);let W:Nat->Nat->L2.St->Hp->Prop:=fun i k σ2 H2=>k=us.length-i/\i<=us.length/\∃m2 ρ2 S2,Ext K (m1++[l]) (upd H1 l (.lst [])) m2 H2/\Sr K m2 S2 H2/\Lr K m2 H2 ρ2 σ2/\cq ok g ct ce S1.length (us.drop i) ρ2 S2=some S'
 refine⟨W,⟨us.length,by simp,Qe _,m1++[l],pF n caps ρ,S1++[.lst []],.refl,sr1.new (o:=.lst []) hl ⟨[],aI,.nil_⟩,tw (lr.mono ee),by simpa using h2⟩,?_⟩;rintro i k σ2 H2 ⟨rfl,hi,m2,ρ2,S2,e2,sr2,lr2,hl2⟩;by_cases hlt:i<us.length
 ·have hu:=QV hlt;rw[jT hu]at hl2;unfold cq at hl2;split at hl2
  ·rename_i hok;obtain⟨⟨ρ3,S3⟩,h3,hl2⟩:=Q0.mp hl2;obtain⟨⟨b4,S4⟩,h4,hl2⟩:=Q0.mp hl2;obtain⟨hgo,hy⟩:=(ito m2 S2 H2 i (ee.trans e2) sr2 hok).1 _ hu;refine .inr ⟨hgo,W (i+1) (us.length-(i+1)),fun σ' H' w'=>⟨_,by omega,w'⟩,fun x H3 y=>?_⟩;obtain⟨e3,sr3,ix⟩:=hy x H3 y;refine⟨m2,ρ2,S2,_,ρ3,S3,sr3,lr2.mono e3,ix,h3,fun m4 σ4 H4 e4 sr4 lr4=>⟨m4,ρ3,S3,b4,S4,sr4,lr4,h4,fun m4' H4' e4' sr4'=>?_⟩⟩;cases b4 with
   |false=>
    rw[if_neg Q7]at hl2;exact⟨rfl,hlt,m4',ρ3,_,(((e2.trans e3).trans e4).trans e4'),sr4',lr4.mono e4',hl2⟩
   |true=>
    rw[if_pos rfl]at hl2;obtain⟨⟨u5,S5⟩,h5,hl2⟩:=Q0.mp hl2;simp only at hl2;split at hl2<;>try cases hl2
    rename_i ys hys;split at hl2<;>try cases hl2
    rename_i hlen;refine⟨m4',ρ3,S4,u5,S5,sr4',lr4.mono e4',h5,fun m5 v5 H5 e5 sr5 i5=>?_⟩;obtain⟨a',ha',xs,hx,il⟩:=sr5.get hys;have ha:m5[S1.length]?=some l:=((((e2.trans e3).trans e4).trans e4').trans e5).get (eY sr1.len);rw[ha]at ha';cases ha';have eu:Ext K m5 H5 m5 (upd H5 l (.lst (xs++[v5]))):=.of (sr5.keep ha _);exact⟨xs,hx,DK (by rw[il.length];exact hlen),rfl,hlt,m5,ρ3,_,(((((e2.trans e3).trans e4).trans e4').trans e5).trans eu),sr5.put (o:=.lst (ys++[u5])) ha ⟨_,aI,(il.append (.cons_ i5 .nil_)).mono eu⟩,(lr4.mono ((e4'.trans e5).trans eu)),hl2⟩
  ·cases hl2
 ·have e:i=us.length:=by omega
  subst e;rw[List.drop_length]at hl2;unfold cq at hl2;split at hl2
  ·rename_i hok;cases hl2;exact .inl ⟨(ito m2 _ H2 _ (ee.trans e2) sr2 hok).2 (Q5 _),post m2 H2 e2 sr2⟩
  ·cases hl2
end
end OP
namespace OP
open PySem PySem.Spec PyProof PyProof.Rows L2 OG
mutual
inductive RdV(K:Q1)(H:Hp):V->PyData->Prop
 |non:RdV K H .non .none
 |bl (b:Bool):RdV K H (.bl b) (.bool b)
 |int (i:Int):RdV K H (.int i) (.int i)
 |str (x:Str):RdV K H (.str x) (.str x)
 |lst {a:Addr} {xs:List V} {ds:List PyData}:SqL K H a xs->uK K H xs ds->RdV K H (.ref a) (.list ds)
 |tup {a:Addr} {xs:List V} {ds:List PyData}:SqT K H a xs->uK K H xs ds->RdV K H (.ref a) (.tuple ds)
inductive uK(K:Q1)(H:Hp):List V->List PyData->Prop
 |nil:uK K H [] []
 |cons {x:V} {xs:List V} {d:PyData} {ds:List PyData}:RdV K H x d->uK K H xs ds->uK K H (x::xs) (d::ds)
end
mutual
inductive Dt(S:Sto):U->PyData->Prop
 |non:Dt S .non .none
 |bl (b:Bool):Dt S (.bl b) (.bool b)
 |int (i:Int):Dt S (.int i) (.int i)
 |str (x:Str):Dt S (.str x) (.str x)
 |lst {l:Nat} {us:List U} {ds:List PyData}:S[l]?=some (.lst us)->DtL S us ds->Dt S (.ref l) (.list ds)
 |tup {us:List U} {ds:List PyData}:DtL S us ds->Dt S (.tup us) (.tuple ds)
inductive DtL(S:Sto):List U->List PyData->Prop
 |nil:DtL S [] []
 |cons {x:U} {xs:List U} {d:PyData} {ds:List PyData}:Dt S x d->DtL S xs ds->DtL S (x::xs) (d::ds)
end
section
variable{X:Cx}{K:Q1}{pins:List (Addr×Obj)}{σ:L2.St}{H:Hp}{s:Shared}
mutual
theorem RdV.reads(I:Inv X pins σ H s):∀{x:V} {d:PyData} {v:Value},RdV X.K H x d->cu x v->∃as,Reads s.heap v d as
 |_,_,_,.non,r=>by cases r;exact⟨_,.none⟩
 |_,_,_,.bl b,r=>by cases r;exact⟨_,.bool b⟩
 |_,_,_,.int i,r=>by obtain⟨t,rfl⟩:=r;exact⟨_,.int i t⟩
 |_,_,_,.str i,r=>by obtain⟨t,rfl⟩:=r;exact⟨_,.str i t⟩
 |_,_,_,.lst (a:=a) h t,r=>by
  cases r;obtain⟨its,rv,pl,_⟩:=I.list h;obtain⟨as,k⟩:=uK.reads I t rv;obtain⟨o,h1,h2,n,h3⟩:=pl.isList;exact⟨_,.list h1 h2 h3 (by simpa using k)⟩
 |_,_,_,.tup (a:=a) h t,r=>by
  cases r;obtain⟨its,rv,pl,_⟩:=I.tuple h;obtain⟨as,k⟩:=uK.reads I t rv;obtain⟨o,h1,h2,n,h3⟩:=pl;exact⟨_,.tuple h1 h2 h3 (by simpa using k)⟩
theorem uK.reads(I:Inv X pins σ H s):∀{xs:List V} {ds:List PyData} {vs:List Value},uK X.K H xs ds->bK xs vs->∃as,ReadsAll s.heap vs ds as
 |_,_,_,.nil,r=>by cases r;exact⟨_,.nil⟩
 |_,_,_,.cons h t,.cons r rs=>by
  obtain⟨as,a⟩:=RdV.reads I h r;obtain⟨bs,b⟩:=uK.reads I t rs;exact⟨_,.cons a b⟩
end
mutual
theorem Dt.rd{m:List Addr}{S:Sto}(sr:Sr K m S H):∀{u:U} {d:PyData} {v:V},Dt S u d->Is K m H v u->RdV K H v d
 |_,_,_,.non,i=>by rw[i.of_non];exact .non
 |_,_,_,.bl b,i=>by rw[i.of_bl];exact .bl b
 |_,_,_,.int b,i=>by rw[i.of_int];exact .int b
 |_,_,_,.str b,i=>by rw[i.of_str];exact .str b
 |_,_,_,.lst h t,i=>by
  obtain⟨a,ha,rfl⟩:=i.of_ref;obtain⟨a',ha',xs,hx,il⟩:=sr.get h;rw[ha]at ha';cases ha';exact .lst (SqL.of hx) (DtL.rd sr t il)
 |_,_,_,.tup t,i=>by
  obtain⟨a,xs,rfl,sa,la⟩:=i.of_tup;exact .tup sa (DtL.rd sr t la)
theorem DtL.rd{m:List Addr}{S:Sto}(sr:Sr K m S H):∀{us:List U} {ds:List PyData} {vs:List V},DtL S us ds->IsL K m H vs us->uK K H vs ds
 |_,_,_,.nil,i=>by rw[i.of_nil];exact .nil
 |_,_,_,.cons h t,i=>by
  obtain⟨x,r,rfl,i1,i2⟩:=i.of_cons;exact .cons (Dt.rd sr h i1) (DtL.rd sr t i2)
end
mutual
theorem Dt.uniq{S:Sto}:∀{u:U} {d e:PyData},Dt S u d->Dt S u e->d=e
 |_,_,_,.non,.non=>rfl
 |_,_,_,.bl _,.bl _=>rfl
 |_,_,_,.int _,.int _=>rfl
 |_,_,_,.str _,.str _=>rfl
 |_,_,_,.lst h t,.lst h' t'=>by
  rw[h]at h';cases h';rw[DtL.uniq t t']
 |_,_,_,.tup t,.tup t'=>by rw[DtL.uniq t t']
theorem DtL.uniq{S:Sto}:∀{us:List U} {ds es:List PyData},DtL S us ds->DtL S us es->ds=es
 |_,_,_,.nil,.nil=>rfl
 |_,_,_,.cons h t,.cons h' t'=>by rw[Dt.uniq h h',DtL.uniq t t']
end
def iL(d:PyData):Prop:=d.canLay0=true/\d.depth<=60
def E8(K:Q1)(neg:Bool):R2:=fun x y H Q=>(∃dx dy,RdV K H x dx/\RdV K H y dy/\iL dx/\iL dy/\Q (.bl (if neg then !dx.eqv dy else dx.eqv dy)) H)\/
 ∃a b xs ys,x=.ref a/\y=.ref b/\SqL K H a xs/\SqL K H b ys/\xs.length≠ys.length/\Q (.bl neg) H
theorem pN(hu:X.A.units+64<cLine):OpR X (compareOp .Eq) (E8 X.K false):=by
 rintro pins s σ H x y v u Q I rx ry (⟨dx,dy,hx,hy,lx,ly,q⟩|⟨a,b,xs,ys,rfl,rfl,ha,hb,ne,q⟩)
 ·obtain⟨as,hx⟩:=hx.reads I rx;obtain⟨bs,hy⟩:=hy.reads I ry;exact SeqAt.compareEq_reads hx hy lx.1 ly.1 (by have:=lx.2;omega) ⟨.bl _,H,I,rfl,q⟩
 ·cases rx;cases ry;obtain⟨i1,r1,p1,_⟩:=I.list ha;obtain⟨i2,r2,p2,_⟩:=I.list hb;have l1:=r1.length;have l2:=r2.length;exact SeqAt.RcAt.lists_lengths p1.isList p2.isList (by simp;omega) (by omega) X.prog X.w X.xe _ ⟨.bl false,H,I,rfl,q⟩
theorem xO(hu:X.A.units+64<cLine):OpR X (compareOp .NotEq) (E8 X.K true):=by
 rintro pins s σ H x y v u Q I rx ry (⟨dx,dy,hx,hy,lx,ly,q⟩|⟨a,b,xs,ys,rfl,rfl,ha,hb,ne,q⟩)
 ·obtain⟨as,hx⟩:=hx.reads I rx;obtain⟨bs,hy⟩:=hy.reads I ry;exact SeqAt.compareNe_reads hx hy lx.1 ly.1 (by have:=lx.2;omega) ⟨.bl _,H,I,rfl,q⟩
 ·cases rx;cases ry;obtain⟨i1,r1,p1,_⟩:=I.list ha;obtain⟨i2,r2,p2,_⟩:=I.list hb;have l1:=r1.length;have l2:=r2.length;exact SeqAt.RcNeAt.lists_lengths p1.isList p2.isList (by simp;omega) (by omega) X.prog X.w X.xe _ ⟨.bl true,H,I,rfl,q⟩
def uV(x y:U)(S:Sto)(b:Bool):Prop:=(∃dx dy,Dt S x dx/\Dt S y dy/\iL dx/\iL dy/\b=dx.eqv dy)\/∃l l' us vs,x=.ref l/\y=.ref l'/\S[l]?=some (.lst us)/\S[l']?=some (.lst vs)/\us.length≠vs.length/\b=false
theorem DtL.length{S:Sto}:∀{us:List U} {ds:List PyData},DtL S us ds->us.length=ds.length
 |_,_,.nil=>rfl
 |_,_,.cons _ t=>by rw[QJ,QJ,DtL.length t]
theorem uV.mix{l l':Nat}{us vs:List U}{S:Sto}{dx dy:PyData}(h1:Dt S (.ref l) dx)(h2:Dt S (.ref l') dy)(k1:S[l]?=some (.lst us))(k2:S[l']?=some (.lst vs))(ne:us.length≠vs.length):dx.eqv dy=false:=by
 cases h1 with
 |lst a1 t1=>
  cases h2 with
  |lst a2 t2=>
   rw[k1]at a1;cases a1;rw[k2]at a2;cases a2;show PyData.eqvAll _ _=false;exact SeqAt.eqvAll_other_length (by rw[<-t1.length,<-t2.length];exact ne)
theorem uV.uniq{x y:U}{S:Sto}{b c:Bool}(h:uV x y S b)(k:uV x y S c):b=c:=by
 rcases h with⟨dx,dy,h1,h2,_,_,rfl⟩|⟨l,l',us,vs,rfl,rfl,h1,h2,ne,rfl⟩
 ·rcases k with⟨ex,ey,k1,k2,_,_,rfl⟩|⟨l,l',us,vs,rfl,rfl,k1,k2,ne,rfl⟩
  ·rw[h1.uniq k1,h2.uniq k2]
  ·exact uV.mix h1 h2 k1 k2 ne
 ·rcases k with⟨ex,ey,k1,k2,_,_,rfl⟩|⟨_,_,_,_,_,_,_,_,_,rfl⟩
  ·exact(uV.mix k1 k2 h1 h2 ne).symm
  ·rfl
open Classical in
def hZ(neg:Bool):U->U->Sto->Option (U×Sto):=fun x y S=>if h:∃b,uV x y S b then some (.bl (if neg then !h.choose else h.choose),S)else none
theorem lP{x y:U}{S:Sto}{b:Bool}(neg:Bool)(h:uV x y S b):hZ neg x y S=some (.bl (if neg then !b else b),S):=by
 unfold hZ;rw[dif_pos ⟨b,h⟩];have e:(⟨b,h⟩:∃b,uV x y S b).choose=b:=(Exists.choose_spec (⟨b,h⟩:∃b,uV x y S b)).uniq h;rw[e]
theorem qN{neg:Bool}:OpP K (E8 K neg) (hZ neg):=by
 intro m S H x y v w u S' Q sr ix iy hf post;unfold hZ at hf;split at hf<;>try cases hf
 rename_i h;have hb:=h.choose_spec;generalize h.choose=b at hb post;rcases hb with⟨dx,dy,h1,h2,l1,l2,rfl⟩|⟨l,l',us,vs,rfl,rfl,h1,h2,ne,rfl⟩
 ·exact .inl ⟨dx,dy,h1.rd sr ix,h2.rd sr iy,l1,l2,post m _ H .refl sr .bl_⟩
 ·obtain⟨a,ha,rfl⟩:=ix.of_ref;obtain⟨a',ha',xs,hx,la⟩:=sr.get h1;rw[ha]at ha';cases ha';obtain⟨c,hc,rfl⟩:=iy.of_ref;obtain⟨c',hc',ys,hy,lc⟩:=sr.get h2;rw[hc]at hc';cases hc';refine .inr ⟨a,c,xs,ys,rfl,rfl,SqL.of hx,SqL.of hy,by rw[la.length,lc.length];exact ne,?_⟩;have e:(if neg=true then !false else false)=neg:=by cases neg<;>rfl
  have:=post m _ H .refl sr (Is.bl_ (b:=if neg=true then !false else false));rw[e]at this;exact this
def Gr(K:Q1)(neg:Bool):R2:=fun x y H Q=>∃dx dys,RdV K H x dx/\(RdV K H y (.list dys)\/RdV K H y (.tuple dys))/\iL dx/\PyData.canLayAll0 dys=true/\Q (.bl (if neg then !(dys.any fun z=>z.eqv dx)else dys.any fun z=>z.eqv dx)) H
theorem Ct(hu:X.A.units+64<cLine):OpR X (compareOp .In) (Gr X.K false):=by
 rintro pins s σ H x y v u Q I rx ry ⟨dx,dys,hx,hy,lx,ly,q⟩;obtain⟨as,hx⟩:=hx.reads I rx;rcases hy with hy|hy
 ·obtain⟨bs,hy⟩:=hy.reads I ry;exact SeqAt.in_list_reads hy hx ly lx.1 (by have:=lx.2;omega) ⟨.bl _,H,I,rfl,q⟩
 ·obtain⟨bs,hy⟩:=hy.reads I ry;exact SeqAt.in_tuple_reads hy hx ly lx.1 (by have:=lx.2;omega) ⟨.bl _,H,I,rfl,q⟩
def AI(x y:U)(S:Sto)(b:Bool):Prop:=∃dx dys,Dt S x dx/\(Dt S y (.list dys)\/Dt S y (.tuple dys))/\iL dx/\PyData.canLayAll0 dys=true/\b=dys.any fun z=>z.eqv dx
theorem AI.uniq{x y:U}{S:Sto}{b c:Bool}(h:AI x y S b)(k:AI x y S c):b=c:=by
 obtain⟨dx,dy,h1,h2,_,_,rfl⟩:=h;obtain⟨ex,ey,k1,k2,_,_,rfl⟩:=k;rw[h1.uniq k1];rcases h2 with h2|h2<;>rcases k2 with k2|k2<;>cases h2.uniq k2<;>rfl
open Classical in
def qY(neg:Bool):U->U->Sto->Option (U×Sto):=fun x y S=>if h:∃b,AI x y S b then some (.bl (if neg then !h.choose else h.choose),S)else none
theorem As{x y:U}{S:Sto}{b:Bool}(neg:Bool)(h:AI x y S b):qY neg x y S=some (.bl (if neg then !b else b),S):=by
 unfold qY;rw[dif_pos ⟨b,h⟩];have e:(⟨b,h⟩:∃b,AI x y S b).choose=b:=(Exists.choose_spec (⟨b,h⟩:∃b,AI x y S b)).uniq h;rw[e]
theorem Fu{neg:Bool}:OpP K (Gr K neg) (qY neg):=by
 intro m S H x y v w u S' Q sr ix iy hf post;unfold qY at hf;split at hf<;>try cases hf
 rename_i h;have hb:=h.choose_spec;generalize h.choose=b at hb post;obtain⟨dx,dy,h1,h2,l1,l2,rfl⟩:=hb;exact⟨dx,dy,h1.rd sr ix,h2.elim (fun z=>.inl (z.rd sr iy)) (fun z=>.inr (z.rd sr iy)),l1,l2,post m _ H .refl sr .bl_⟩
def wV(us:List U)(lo hi:Option Int):List U:=(us.drop (HT.sIx us.length 0 lo)).take (HT.sIx us.length us.length hi-HT.sIx us.length 0 lo)
theorem x8{m:List Addr}{xs:List V}{us:List U}{lo hi:Option Int}(i:IsL K m H xs us):IsL K m H (yb xs lo hi) (wV us lo hi):=by
 unfold yb wV;rw[i.length];exact(i.drop _).take _
def Az:Option CE->Rho->Sto->Option (Option Int×Sto)
 |none,_,S=>some (none,S)
 |some c,ρ,S=>(c ρ S).bind fun p=>match p.1 with
  |.int i=>some (some i,p.2)
  |_=>none
def F3(K:Q1)(m:List Addr)(H:Hp)(Q:Option Int->Hp->Prop)(o:Option Int)(S':Sto):Prop:=∀m' H',Ext K m H m' H'->Sr K m' S' H'->Q o H'
def tO(K:Q1)(c:Option CE):TO:=fun σ H Q=>∃m ρ S o S',Sr K m S H/\Lr K m H ρ σ/\Az c ρ S=some (o,S')/\F3 K m H Q o S'
abbrev QO(X:Cx)(e:Option Expr)(c:Option CE):Prop:=WO X e (tO X.K c)
theorem zg:QO X none none:=⟨fun pins s σ H Q I hz=>kg hz fun m ρ S o S' sr lr hc post=>vg.h pins s σ H Q I (by cases hc;exact post m H .refl sr)⟩
theorem zf{e:Expr}{ca:CE}(h:QE X e ca):QO X (some e) (some ca):=⟨fun pins s σ H Q I hz=>kg hz fun m ρ S o S' sr lr hc post=>(ve h).h pins s σ H Q I (by
 obtain⟨⟨x,S1⟩,h1,h2⟩:=Q0.mp hc;refine⟨m,ρ,S,x,S1,sr,lr,h1,fun m1 v1 H1 e1 sr1 i1=>?_⟩;cases x<;>simp at h2;obtain⟨rfl,rfl⟩:=h2;exact⟨_,i1.of_int,post m1 H1 e1 sr1⟩)⟩
end
section
variable{X:Cx}{K:Q1}
def zd(K:Q1):R2:=fun x y H Q=>∃a k xs,x=.ref a/\y=.int k/\SqT K H a xs/\xs≠[]/\1<=k/\xs.length*k.toNat<=1000/\∀q H',yg H H'->SqT K H' q (QQ k.toNat xs).flatten->Q (.ref q) H'
theorem zQ:OpR X (binaryOp .Mult) (zd X.K):=by
 intro pins s σ H x y v u Q I rx ry h;obtain⟨a,k,xs,rfl,rfl,ha,hne,hk,hz,q⟩:=h;cases rx;obtain⟨t,rfl⟩:=ry;obtain⟨its,r1,p1,hzz⟩:=I.tuple ha;have hlen:=r1.length;obtain⟨⟨cls,dd,data,sl⟩,ho,hc,n,hd⟩:=id p1;simp only at hc hd;subst hc hd;have hne':its≠[]:=fun z=>hne (r1.nil_iff.mp z);refine wpAny_binaryOp_repeat_ref (T:="tuple") (U:="int") (by decide) ⟨_,ho,rfl⟩ (fun s'=>typeIs_int s' k t) jg F.fills_int_mul F.slot_int_rmul mG F.slot_int_index.lookup
  (call_meets F.slot_int_rmul (typeIs_int s k t) F.entry_int_rmul (F.args_int_rmul_2 _ _) (j4 k t a its.toArray n dd sl) ⟨ho,rfl,⟨_,ho,rfl⟩,?_⟩)
 by_cases k1:k=1
 ·subst k1;refine call_meets F.slot_tuple_mul ⟨_,ho,rfl⟩ F.entry_tuple_mul (F.args_tuple_mul_2 _ _) (og a its.toArray n dd sl t) ⟨ho,⟨.ref a,H,I,rfl,q a H (.refl _) ?_⟩⟩;simpa using ha
 ·have hfold:List.foldl (fun x1 x2=>x1++x2) #[] (QQ k.toNat its.toArray)=(QQ k.toNat its).flatten.toArray:=by
   have:=jO its k.toNat [];rw[Qu]at this;exact this
  have hfl:(QQ k.toNat its).flatten.length<=1000:=by rw[ot,<-hlen,Nat.mul_comm];exact hz
  have hlp:0<its.length:=List.length_pos_iff.mpr hne';have hk2:k.toNat<=1000:=QL (Nat.le_mul_of_pos_left _ (by rw[hlen];exact hlp)) hz;have hsz:(its.toArray.size:Int)*k<=1000:=by
   rw[QX,<-hlen];have e:k=((k.toNat:Nat):Int):=by omega
   rw[e,<-Int.natCast_mul];omega
  refine call_meets F.slot_tuple_mul ⟨_,ho,rfl⟩ F.entry_tuple_mul (F.args_tuple_mul_2 _ _) (oe a its.toArray n dd sl k t ?_ ?_ ?_ ?_ ?_ ?_) ⟨ho,?_⟩
  ·simp;omega
  ·simp[hne',k1]
  ·simp[hne'];omega
  ·omega
  ·unfold Builtin.Tuple.tupleTooMany;have:¬(its.toArray.size:Int)*k>(sizeLine:Int):=by
    have:(1000:Nat)<=sizeLine:=mz (Q5 _);omega
   simpa using this
  ·rw[hfold,QX];exact mz hfl
  ·rw[hfold];refine⟨.ref s.heap.objs.size,_,I.laid (t':=s.toks) (o:=.tup (QQ k.toNat xs).flatten) (fun b ob q=>Q3 _ q) (Q5 _) ?_,rfl,q _ _ (gw (I.hok.fresh (Q5 _)) _) (SqT.of aI)⟩;exact⟨mz (by rw[ot,Nat.mul_comm];exact hz),_,r1.rep k.toNat,IsTup.new _ _⟩
def ue:U->U->Sto->Option (U×Sto)
 |.int i,.int j,S=>if uR i j then some (.int (i*j),S)else none
 |.tup us,.int k,S=>if us≠[]/\1<=k/\us.length*k.toNat<=1000 then some (.tup (QQ k.toNat us).flatten,S)else none
 |.ref l,.int k,S=>match S[l]? with
  |some (.lst us)=>if 0<=k/\k<=100000/\us.length*k.toNat<=LIM then some (.ref S.length,S++[.lst (QQ k.toNat us).flatten])else none
  |_=>none
 |_,_,_=>none
theorem Cy:OpR X (binaryOp .Mult) (fun x y H Q=>rI uR (fun i j=>.int (i*j)) x y H Q\/(zd X.K x y H Q\/E7 x y H Q)):=iB.or (zQ.or Cs)
instance {us:List U}:Decidable (us≠[]):=match us with
 |[]=>.isFalse fun h=>h rfl
 |_::_=>.isTrue fun h=>by cases h
theorem Co:OpP K (fun x y H Q=>rI uR (fun i j=>.int (i*j)) x y H Q\/(zd K x y H Q\/E7 x y H Q)) ue:=by
 intro m S H x y v w u S' Q sr ix iy hf post;cases x<;>cases y<;>simp only[ue]at hf<;>try cases hf
 ·split at hf<;>try cases hf
  rename_i hc;exact .inl ⟨_,_,ix.of_int,iy.of_int,hc,post m _ H .refl sr .int_⟩
 ·rename_i us k;split at hf<;>try cases hf
  rename_i hc;obtain⟨a,xs,rfl,sa,la⟩:=ix.of_tup;refine .inr (.inl ⟨a,k,xs,rfl,iy.of_int,sa,fun z=>hc.1 ?_,hc.2.1,by rw[la.length];exact hc.2.2,fun q H' s sq=>?_⟩)
  ·subst z;have:=la.length;exact List.length_eq_zero_iff.mp this.symm
  ·exact post m _ H' (.of (cI s)) (sr.same s) (.tup_ sq ((la.rep k.toNat).mono (.of (cI s))))
 ·rename_i l k;split at hf<;>try cases hf
  rename_i us hS;split at hf<;>try cases hf
  rename_i hc;obtain⟨a,ha,rfl⟩:=ix.of_ref;obtain⟨a',ha',xs,hx,la⟩:=sr.get hS;rw[ha]at ha';cases ha';exact .inr (.inr ⟨a,k,xs,rfl,iy.of_int,hx,by omega,by omega,lim (by rw[la.length];exact hc.2.2),fun p hp=>eD sr (la.rep k.toNat) post hp⟩)
end
end OP
namespace OG
open PySem PySem.Spec PyProof.Rows L2
theorem xQ{C a:Addr}{m:Str->Option Value}{h h':Heap}(n:h.Ns C m)(s:Heap.SameBut a h h')(ne:C≠a):h'.Ns C m:=by
 obtain⟨o,es,ep,e,r⟩:=n;exact⟨o,es,ep,(s.2 C ne).trans e,r⟩
theorem qB{X:Cx}{Nc capN tn:List Str}{scope:Scope}{cl:List (Str×Addr)}{n:Nat}{caps:List Nat}{tg iter elt:Expr}{pos:Pos}{wi:TI}{g:TG}{te:TE}
  (hc:X.calm=true) (hi:WI X tg iter wi) (hg:∀s3 H3 fp,WG (cxC X Nc scope cl s3 H3 fp) tg g) (he:∀s3 H3 fp,WE (cxC X Nc scope cl s3 H3 fp) elt te)
  (hclos:closureFor scope X.env=pure cl) (hkind:scope.kind=.function) (hnl:∀x∈scope.names,x.2=.local->scope.names.lookup x.1=some .local) (hcell:∀x∈scope.names,x.2≠.cell)
  (hcl:qz X.env cl) (hhas:((relabel scope X.env).names.all fun p=>!(p.2 == .cell||p.2 == .free)||(cl.lookup p.1).isSome)=true)
  (hcap:Paired (Cap X scope cl) caps capN) (hN:Nc=tn++capN) (hn:tn.length=n)
  {i₀:Nat} {x₀:Str} {pos₀ pos':Pos} (hN0:X.N.Nodup) (hi0:X.N[i₀]?=some x₀) (hx0:X.env.scope.names.lookup x₀=some .local)
  (hsw:swapsWith (.ListComp elt [⟨tg,iter,[],0⟩] scope pos) (some (.Name x₀ pos')) pos₀.line X.env=pure true)
  (hs:∀x,foldedSetIterable iter X.env x=pure x:=by intro _;rfl) :
  WS X (.Assign [.Name x₀ pos'] (.ListComp elt [⟨tg,iter,[],0⟩] scope pos) pos₀) (fun D σ H=>vv wi g te n caps σ H fun v H'=>D.nx (σ.set i₀ (some v)) H'):=by
 constructor;intro pins s σ H Dn I h;rw[exec_Assign_arm];refine Q2 (wpAny_standAt ?_);have hsw':swapsWithSole [.Name x₀ pos'] (.ListComp elt [⟨tg,iter,[],0⟩] scope pos) pos₀.line X.env=pure true:=hsw;rw[hsw'];refine Q2 (QY ?_);rw[if_pos rfl,arm_evalThenUse_ListComp];refine Q2 (Q2 (qo (Qf:=fun _ s'=>wpAny (model X.prog X.w) X.A (pure ()) (fun _ s'=>wpAny (model X.prog X.w) X.A (pure Flow.next) (SP X pins Dn) X.xe s') X.xe s') hc hi hg he hclos hkind hnl hcell hcl hhas hcap hN hn I h (fun D C s6 H5 m I7 hm fr nl sz cn pn qn=>?_) hs));show wpAny _ _ (assign (.Name x₀ pos') X.env (.ref D)) _ _ s6;rw[arm_assign_Name];refine Q2 (wpAny_standAt (wpAny_bindName (jx (v:=.ref D) I7 hN0 hi0 (.inl hx0) rfl (fun s7 I7' hsb=>?_) (.inr hx0))));obtain⟨a7,hsb,ha7⟩:=hsb;have cNe:C≠a7:=by
  rcases ha7 with z|z
  ·rw[z];exact nl
  ·exact Ne.symm (cn _ _ z)
 refine⟨m,xQ hm hsb cNe,fun h' hs'=>QY (QY ⟨_,H5,?_,qn⟩)⟩;exact I7'.turned (t':=s7.toks) (it:=C) (fun b o hb e=>hs'.extBut b o hb e) fr nl (.inr sz) cn pn
theorem ml{X:Cx}{Nc capN tn:List Str}{scope:Scope}{cl:List (Str×Addr)}{n:Nat}{caps:List Nat}{tg iter elt:Expr}{pos:Pos}{wi:TI}{g:TG}{te:TE}{tt:TT}{c:Expr}
  (hc:X.calm=true) (hi:WI X tg iter wi) (hg:∀s3 H3 fp,WG (cxC X Nc scope cl s3 H3 fp) tg g) (he:∀s3 H3 fp,WE (cxC X Nc scope cl s3 H3 fp) elt te)
  (ht:∀s3 H3 fp,WT (cxC X Nc scope cl s3 H3 fp) c tt)
  (hclos:closureFor scope X.env=pure cl) (hkind:scope.kind=.function) (hnl:∀x∈scope.names,x.2=.local->scope.names.lookup x.1=some .local) (hcell:∀x∈scope.names,x.2≠.cell)
  (hcl:qz X.env cl) (hhas:((relabel scope X.env).names.all fun p=>!(p.2 == .cell||p.2 == .free)||(cl.lookup p.1).isSome)=true)
  (hcap:Paired (Cap X scope cl) caps capN) (hN:Nc=tn++capN) (hn:tn.length=n)
  {i₀:Nat} {x₀:Str} {pos₀ pos':Pos} (hN0:X.N.Nodup) (hi0:X.N[i₀]?=some x₀) (hx0:X.env.scope.names.lookup x₀=some .local)
  (hsw:swapsWith (.ListComp elt [⟨tg,iter,[c],0⟩] scope pos) (some (.Name x₀ pos')) pos₀.line X.env=pure true)
  (hs:∀x,foldedSetIterable iter X.env x=pure x:=by intro _;rfl) :
  WS X (.Assign [.Name x₀ pos'] (.ListComp elt [⟨tg,iter,[c],0⟩] scope pos) pos₀) (fun D σ H=>sj wi g tt te n caps σ H fun v H'=>D.nx (σ.set i₀ (some v)) H'):=by
 constructor;intro pins s σ H Dn I h;rw[exec_Assign_arm];refine Q2 (wpAny_standAt ?_);have hsw':swapsWithSole [.Name x₀ pos'] (.ListComp elt [⟨tg,iter,[c],0⟩] scope pos) pos₀.line X.env=pure true:=hsw;rw[hsw'];refine Q2 (QY ?_);rw[if_pos rfl,arm_evalThenUse_ListComp];refine Q2 (Q2 (rg (Qf:=fun _ s'=>wpAny (model X.prog X.w) X.A (pure ()) (fun _ s'=>wpAny (model X.prog X.w) X.A (pure Flow.next) (SP X pins Dn) X.xe s') X.xe s') hc hi hg he ht hclos hkind hnl hcell hcl hhas hcap hN hn I h (fun D C s6 H5 m I7 hm fr nl sz cn pn qn=>?_) hs));show wpAny _ _ (assign (.Name x₀ pos') X.env (.ref D)) _ _ s6;rw[arm_assign_Name];refine Q2 (wpAny_standAt (wpAny_bindName (jx (v:=.ref D) I7 hN0 hi0 (.inl hx0) rfl (fun s7 I7' hsb=>?_) (.inr hx0))));obtain⟨a7,hsb,ha7⟩:=hsb;have cNe:C≠a7:=by
  rcases ha7 with z|z
  ·rw[z];exact nl
  ·exact Ne.symm (cn _ _ z)
 refine⟨m,xQ hm hsb cNe,fun h' hs'=>QY (QY ⟨_,H5,?_,qn⟩)⟩;exact I7'.turned (t':=s7.toks) (it:=C) (fun b o hb e=>hs'.extBut b o hb e) fr nl (.inr sz) cn pn
end OG
namespace OP
open PySem PySem.Spec PyProof.Rows L2 OG
section
variable{X:Cx}{K:Q1}
theorem qI{i₀:Nat}{x₀:Str}{pos₀ pos':Pos}{Nc capN tn:List Str}{scope:Scope}{cl:List (Str×Addr)}{n:Nat}{caps:List Nat}{tg iter elt:Expr}{pos:Pos}{ci:CI}{g:CG}{ce:CE}
  (hc:X.calm=true) (hi:QI X tg iter ci) (hg:∀s3 H3 fp,WG (cxC X Nc scope cl s3 H3 fp) tg (tG X.K g)) (he:∀s3 H3 fp,WE (cxC X Nc scope cl s3 H3 fp) elt (tE X.K ce))
  (hclos:closureFor scope X.env=pure cl) (hkind:scope.kind=.function) (hnl:∀x∈scope.names,x.2=.local->scope.names.lookup x.1=some .local) (hcell:∀x∈scope.names,x.2≠.cell)
  (hcl:qz X.env cl) (hhas:((relabel scope X.env).names.all fun p=>!(p.2 == .cell||p.2 == .free)||(cl.lookup p.1).isSome)=true)
  (hcap:Paired (Cap X scope cl) caps capN) (hN:Nc=tn++capN) (hn:tn.length=n)
  (hN0:X.N.Nodup) (hi0:X.N[i₀]?=some x₀) (hx0:X.env.scope.names.lookup x₀=some .local)
  (hsw:swapsWith (.ListComp elt [⟨tg,iter,[],0⟩] scope pos) (some (.Name x₀ pos')) pos₀.line X.env=pure true)
  (hs:∀x,foldedSetIterable iter X.env x=pure x:=by intro _;rfl) :
  QS X (.Assign [.Name x₀ pos'] (.ListComp elt [⟨tg,iter,[],0⟩] scope pos) pos₀) (eR i₀ (dZ ci g ce n caps)):=(qB hc hi hg he hclos hkind hnl hcell hcl hhas hcap hN hn hN0 hi0 hx0 hsw hs).imp fun D σ H hz=>qZ hz fun m ρ S o ρ' S' sr lr hc post=>by
 obtain⟨⟨u,S1⟩,h1,h2⟩:=Q0.mp hc;cases h2;exact qm _ _ _ ⟨m,ρ,S,u,_,sr,lr,h1,fun m1 v1 H1 e1 sr1 i1=>post m1 _ H1 e1 sr1 ((lr.mono e1).set i₀ i1)⟩
end
end OP
namespace OP
open PySem PySem.Spec PyProof PyProof.Rows L2 OG
section
variable{X:Cx}{K:Q1}
def kN:U->List U->Sto->Option (U×Sto)
 |.ref l,[.int i],S=>match S[l]? with
  |some (.lst us)=>if 0<=i/\i<us.length/\us.length<=LIM then(us[i.toNat]?).bind fun u=>some (u,S.set l (.lst (us.eraseIdx i.toNat)))else none
  |_=>none
 |_,_,_=>none
theorem zL:MtP K xC kN:=by
 intro m S H x v us vs u S' Q sr ix i hf post;match x,us,hf with
 |.ref l,[.int k],hf=>
  simp only[kN]at hf;split at hf<;>try cases hf
  rename_i ws hS;split at hf<;>try cases hf
  rename_i hk;obtain⟨w,hw,h⟩:=Q0.mp hf;cases h;obtain⟨a,ha,rfl⟩:=ix.of_ref;obtain⟨a',ha',xs,hx,la⟩:=sr.get hS;rw[ha]at ha';cases ha';obtain⟨y,hy,iy⟩:=la.getD hw;obtain⟨z,rfl,iz⟩:=i.one;have eu:Ext K m H m (upd H a (.lst (xs.eraseIdx k.toNat))):=.of (sr.keep ha _);have hL:ws.length<=100000:=hk.2.2;exact⟨a,xs,k,k.toNat,y,rfl,by rw[iz.of_int],hx,by omega,by omega,seqIndex_of hk.1 (by rw[la.length];exact hk.2.1),hy,post m _ _ eu (sr.put ha ⟨_,aI,(la.erase _).mono eu⟩) (iy.mono eu)⟩
variable{e:Expr}{es:List Expr}{co:CE}{cr:CA}{o:Expr}{apos cpos:Pos}
theorem zi (ho : QE X o co) (ha : QA X (e :: es) cr) (hbase : attributeBase o "pop" X.env (eval o X.env) = eval o X.env := by rfl) (hfew : ((backTo cpos (starEach (e :: es) X.env)).all (fun x => !x.1) && (backToKw cpos (keywordEach [] X.env)).all (fun x => x.1.isSome)
   && decide ((e::es).length+([]:List Keyword).length+(if ([]:List Keyword).isEmpty then 0 else 1)<30))=true:=by rfl) (hline:(apos.endLine == cpos.line)=true:=by rfl) (hs:starEach (e::es) X.env=(false,eval e X.env)::starEach es X.env:=by rfl) (hplain:(backTo cpos (starEach es X.env)).any (·.1)=false:=by rfl) :
  QE X (.Call (.Attribute o "pop" apos) (e::es) [] cpos) (cBM kN co cr):=(xq PySem.F.plainAttrs_list PySem.F.slot_list_pop PySem.F.type_list_pop we ho ha.h hbase hfew hline hs hplain).imp (uA zL)
theorem wZ(bs:List Bool):(QF bs.length).any (fun i=>(bs[i]?).getD false)=bs.any id:=by
 rw[Z7,List.any_eq_true,List.any_eq_true];constructor
 ·rintro⟨i,hi,h⟩;have hi':=Qc.mp hi;rw[QV hi',Option.getD_some]at h;exact⟨_,List.getElem_mem hi',h⟩
 ·rintro⟨b,hb,h⟩;obtain⟨i,hi,e⟩:=List.mem_iff_getElem.mp hb;refine⟨i,Qc.mpr hi,?_⟩;rw[QV hi,Option.getD_some,e];exact h
theorem qr(hc:X.calm=true):gv X (.builtin "any") (fun xs H Q=>∃(p:Addr) (bs:List Bool),xs=[.ref p]/\SqL X.K H p (bs.map V.bl)/\Q (.bl (bs.any id)) H):=by
 intro pins s σ H xs us Q I r h;obtain⟨p,bs,rfl,hq,q⟩:=h;obtain⟨u,rfl,rx⟩:=n5 r;cases rx;obtain⟨its,rv,pl,hz⟩:=I.list hq;have hlen:=rv.length;rw[QZ]at hlen;refine call_any_walk (wpAny_pyIter_list pl.isList ?_);have lt:p<s.heap.objs.size:=by obtain⟨o,e,_⟩:=pl.isList;exact Q9 e
 refine⟨s.heap.objs.size,_,_,_,_,_,fun i=>(bs[i]?).getD false,rfl,Walks.list (show X.A.in1.handled=none from I.ok.hd hc) s.heap.objs.size p (QD lt) its.toArray,⟨⟨_,QN _ rfl,rfl,rfl⟩,pl.isList.at fun o e=>Q3 _ e⟩,?_,fun h' tk hk=>?_⟩
 ·intro i v s' Q' E' hP hQ;have hP':its.toArray[i]?=some v:=hP;obtain⟨b,e1,e2⟩:=rW rv (by simpa using hP');subst e2;dsimp only at hQ;rw[e1,Option.getD_some]at hQ;exact wpAny_truthy_bool hQ
 ·have e:(QF its.toArray.size).any (fun i=>(bs[i]?).getD false)=bs.any id:=by
   rw[QX,<-hlen];exact wZ bs
  rw[e];exact⟨.bl (bs.any id),H,I.kept fun b o e=>hk b o (zW e) (Q3 _ e),rfl,q⟩
def wN:Fn
 |[.ref l],S=>match S[l]? with
  |some (.lst us)=>(AN us).bind fun bs=>some (.bl (bs.any id),S)
  |_=>none
 |_,_=>none
theorem Cq:nU K (fun xs H Q=>∃(p:Addr) (bs:List Bool),xs=[.ref p]/\SqL K H p (bs.map V.bl)/\Q (.bl (bs.any id)) H) wN:=by
 intro m S H us vs u S' Q sr i hf post;match us,hf with
 |[.ref l],hf=>
  obtain⟨v,rfl,iv⟩:=i.one;obtain⟨a,ha,rfl⟩:=iv.of_ref;simp only[wN]at hf;split at hf<;>try cases hf
  rename_i ws hS;obtain⟨bs,hb,h⟩:=Q0.mp hf;cases h;obtain⟨a',ha',xs,hx,la⟩:=sr.get hS;rw[ha]at ha';cases ha';rw[uB hb]at la;rw[la.bls]at hx;exact⟨a,bs,rfl,SqL.of hx,post m _ H .refl sr .bl_⟩
end
section
variable{X:Cx}{K:Q1}
theorem yW{e:Expr}{t:TE}(h:WE X e t):WE X e (fun σ H Q=>t σ H fun v H'=>∃a ob kvs,uU X a/\H' a=some (.frz ob (.dK kvs))/\Q v (upd H' a (.dK kvs))):=
 ⟨fun pins s σ H Q I k=>thn (h.h pins s σ H _ I k) fun u s1 ⟨v,H1,I1,r1,a,ob,kvs,nf,e,q⟩=>⟨v,_,iE I1 nf e,r1,q⟩⟩
def nI(ce:CE)(f:(Sto->Prop)->Nat->List U->Rho->Sto->Option Sto)(n:Nat)(caps:List Nat):CE:=fun ρ S=>(ce ρ S).bind fun p=>match p.1 with
 |.ref l=>match p.2[l]? with
  |some (.dic kus)=>uni fun ep=>(f (fun S'=>S'[l]?=some (.fdc ep kus)) p.2.length (kus.map fun q=>kU q.1) (pF n caps ρ) (p.2.set l (.fdc ep kus)++[.lst []])).bind fun S'=>match S'[l]? with
   |some (.fdc _ kus')=>some (.ref p.2.length,S'.set l (.dic kus'))
   |_=>none
  |_=>none
 |_=>none
def gP(ce:CE)(g:CG)(el:CE)(n:Nat)(caps:List Nat):CE:=nI ce (fun ok l=>fi ok g el l) n caps
def iJ(ce:CE)(g:CG)(ct:CT)(el:CE)(n:Nat)(caps:List Nat):CE:=nI ce (fun ok l=>cq ok g ct el l) n caps
theorem mr{ce:CE}{f:(Sto->Prop)->Nat->List U->Rho->Sto->Option Sto}{n:Nat}{caps:List Nat}{G:It->Hp->L2.St->VK->Prop}
  (core:∀{J:It} {us:List U} {ok:Sto->Prop} {Q:VK} {m1:List Addr} {H1:Hp} {S1 S':Sto} {ρ:Rho} {σ:L2.St},Sr X.K m1 S1 H1->Lr X.K m1 H1 ρ σ->xj X.K J m1 H1 us ok->f ok S1.length us (pF n caps ρ) (S1++[.lst []])=some S'->
   (∀l,H1 l=none->∀m2 H2,Ext X.K (m1++[l]) (upd H1 l (.lst [])) m2 H2->Sr X.K m2 S' H2->Q (.ref l) H2)->G J H1 σ Q) :
  ∀σ H Q,tE X.K (nI ce f n caps) σ H Q->Ap X (tE X.K ce) σ H fun J H1=>G J H1 σ fun v H'=>∃a ob kvs,uU X a/\H' a=some (.frz ob (.dK kvs))/\Q v (upd H' a (.dK kvs)):=by
 rintro σ H Q ⟨m,ρ,S,u,S',sr,lr,hc,post⟩;obtain⟨⟨x,S1⟩,h1,h⟩:=Q0.mp hc;refine⟨m,ρ,S,x,S1,sr,lr,h1,fun m1 v1 H1 e1 sr1 i1=>?_⟩;cases x with
 |ref l=>
  simp only at h;split at h<;>try cases h
  rename_i kus hS;obtain⟨a,ha,rfl⟩:=i1.of_ref;obtain⟨a',ha',kvs,hx,ip⟩:=sr1.get hS;rw[ha]at ha';cases ha';refine⟨a,kvs,rfl,hx,fun ob es ep nf hd=>?_⟩;obtain⟨S2,h2,h3⟩:=Q0.mp (pj h ep);try simp only at h3
  split at h3<;>try cases h3
  rename_i ep' kus' hS2;have kp:uP X.K H1 (upd H1 a (.frz ob (.dK kvs))):=sr1.keep ha _;have ee:Ext X.K m1 H1 m1 (upd H1 a (.frz ob (.dK kvs))):=.of kp;have sr2:Sr X.K m1 (S1.set l (.fdc ep kus)) (upd H1 a (.frz ob (.dK kvs))):=sr1.put ha ⟨ob,es,kvs,aI,hd,ip.mono ee⟩;rw[ip.1];have hln:(S1.set l (.fdc ep kus)).length=S1.length:=by simp
  refine core sr2 (lr.mono (e1.trans ee)) (tW ha) (by rw[hln];exact h2) fun p hp m3 H3 e3 sr3=>?_;have en:Ext X.K m1 (upd H1 a (.frz ob (.dK kvs))) (m1++[p]) (upd (upd H1 a (.frz ob (.dK kvs))) p (.lst [])):=.new (cy hp _);have e03:=en.trans e3;obtain⟨a3,ha3,ob3,es3,kvs3,hx3,hd3,ip3⟩:=sr3.get hS2;rw[e03.get ha]at ha3;cases ha3;have e4:Ext X.K m3 H3 m3 (upd H3 a (.dK kvs3)):=.of (sr3.keep (e03.get ha) _);refine⟨a,ob3,kvs3,nf,hx3,post m3 _ _ (((e1.trans ee).trans e03).trans e4) (sr3.put (e03.get ha) ⟨kvs3,aI,ip3.mono e4⟩) ?_⟩;have lg:(m1++[p])[S1.length]?=some p:=eY sr1.len;exact .ref_ (e3.get lg)
 |_=>cases h
variable{Nc capN tn:List Str}{scope:Scope}{cl:List (Str×Addr)}{n:Nat}{caps:List Nat}{tg iter elt:Expr}{pos:Pos}{ci:CE}{g:CG}{ce:CE}
theorem sI(hc:X.calm=true)(hi:QE X iter ci)(hg:∀s3 H3 fp,WG (cxC X Nc scope cl s3 H3 fp) tg (tG X.K g))(he:∀s3 H3 fp,WE (cxC X Nc scope cl s3 H3 fp) elt (tE X.K ce))
  (hclos:closureFor scope X.env=pure cl) (hkind:scope.kind=.function) (hnl:∀x∈scope.names,x.2=.local->scope.names.lookup x.1=some .local) (hcell:∀x∈scope.names,x.2≠.cell)
  (hcl:qz X.env cl) (hhas:((relabel scope X.env).names.all fun p=>!(p.2 == .cell||p.2 == .free)||(cl.lookup p.1).isSome)=true)
  (hcap:Paired (Cap X scope cl) caps capN) (hN:Nc=tn++capN) (hn:tn.length=n)
  (hs:∀x,foldedSetIterable iter X.env x=pure x:=by intro _;rfl) :
  QE X (.ListComp elt [⟨tg,iter,[],0⟩] scope pos) (gP ci g ce n caps):=
 (yW (o8 hc (nZ hi) hg he hclos hkind hnl hcell hcl hhas hcap hN hn hs)).imp (mr (G:=fun J H1 σ Q=>∀l,H1 l=none->∃W:Nat->Nat->L2.St->Hp->Prop,(∃m,W 0 m (OG.stC n caps σ) (upd H1 l (.lst [])))/\
  ∀i m σ' H2,W i m σ' H2->(J.stop i H2/\Q (.ref l) H2)\/(J.go i H2/\∃N:L2.St->Hp->Prop,(∀σ'' H',N σ'' H'->∃m',m'<m/\W (i+1) m' σ'' H')/\
  ∀x H3,J.yld i H2 x H3->tG X.K g x σ' H3 fun σ2 H4=>tE X.K ce σ2 H4 fun v H5=>∃ys,H5 l=some (.lst ys)/\ys.length<sizeLine/\N σ2 (upd H5 l (.lst (ys++[v]))))) fun sr lr ito h2 post l hl=>nF sr lr ito hl h2 (post l hl))
end
end OP
namespace OP
open PySem PySem.Spec PyProof PyProof.Rows L2 OG PySem.W
section
variable{cmp:Nat->Nat->(Bool->Shared->Prop)->Shared->Prop}{s:Shared}{n:Nat}{lt:Nat->Nat->Bool}
structure GO(n:Nat)(lt:Nat->Nat->Bool):Prop where
 tr:∀{i j k},i<n->j<n->k<n->lt i j=true->lt j k=true->lt i k=true
 tot:∀{i j},i<n->j<n->i≠j->lt i j=false->lt j i=true
 asym:∀{i j},i<n->j<n->lt i j=true->lt j i=false
def yi(cmp:Nat->Nat->(Bool->Shared->Prop)->Shared->Prop)(n:Nat)(lt:Nat->Nat->Bool)(s:Shared):Prop:=∀i j C,i<n->j<n->C (lt i j) s->cmp i j C s
structure Pm(n:Nat)(p:Array Nat):Prop where
 sz:p.size=n
 bd:∀i,i<n->p.getD i 0<n
 ne:∀i j,i<j->j<n->p.getD i 0≠p.getD j 0
def Asc(lt:Nat->Nat->Bool)(p:Array Nat)(k:Nat):Prop:=∀i j,i<j->j<k->lt (p.getD i 0) (p.getD j 0)=true
def Dsc(lt:Nat->Nat->Bool)(p:Array Nat)(k:Nat):Prop:=∀i j,i<j->j<k->lt (p.getD j 0) (p.getD i 0)=true
variable{p:Array Nat}
theorem Pm.ne'(P:Pm n p){i j:Nat}(hi:i<n)(hj:j<n)(h:i≠j):p.getD i 0≠p.getD j 0:=by
 rcases Nat.lt_or_gt_of_ne h with z|z
 ·exact P.ne i j z hj
 ·exact Ne.symm (P.ne j i z hi)
theorem Asc.snoc(O:GO n lt)(P:Pm n p){m:Nat}(h1:1<=m)(hm:m<n)(h:Asc lt p m)(h2:lt (p.getD (m-1) 0) (p.getD m 0)=true):Asc lt p (m+1):=fun i j hij hj=>by
 by_cases e:j=m
 ·subst e;by_cases e2:i=j-1
  ·subst e2;exact h2
  ·exact O.tr (P.bd _ (by omega)) (P.bd _ (by omega)) (P.bd _ (by omega)) (h i (j-1) (by omega) (by omega)) h2
 ·exact h i j hij (by omega)
theorem hG{p q:Array Nat}{i j:Nat}(h:p[i]?=q[j]?):p.getD i 0=q.getD j 0:=by
 rw[ZJ,ZJ,h]
theorem sD{m k:Nat}(hm:m<=p.size):(kas_rev p 0 m).getD k 0=if k<m then p.getD (m-1-k) 0 else p.getD k 0:=by
 unfold kas_rev;have h:=getElem?_mirror_all (i:=0) hm k;split
 ·rename_i c;rw[if_pos ⟨Qe _,c⟩]at h;exact hG (by rw[h];congr 1;omega)
 ·rename_i c;rw[if_neg (by omega)]at h;exact hG h
theorem Dsc.rev{m:Nat}(P:Pm n p)(hm:m<=n)(h:Dsc lt p m):Asc lt (kas_rev p 0 m) m:=fun i j hij hj=>by
 rw[sD (by rw[P.sz];exact hm),sD (by rw[P.sz];exact hm),if_pos (by omega),if_pos hj];exact h _ _ (by omega) (by omega)
theorem iV{k l i:Nat}(hk:k<p.size)(hl:l<=k):(bubble p k (k-l)).getD i 0=if i=l then p.getD k 0 else if l<i/\i<=k then p.getD (i-1) 0 else p.getD i 0:=by
 have h:=getElem?_bubble hk (k-l) (by omega) i;rw[show k-(k-l)=l by omega]at h;by_cases c:i=l
 ·rw[if_pos c]at h ⊢;exact hG h
 ·rw[if_neg c]at h ⊢;by_cases d:l<i/\i<=k
  ·rw[if_pos d]at h ⊢;exact hG h
  ·rw[if_neg d]at h ⊢;exact hG h
theorem Pm.bub(P:Pm n p){k l:Nat}(hk:k<n)(hl:l<=k):Pm n (bubble p k (k-l)) where
 sz:=by rw[bubble_size];exact P.sz
 bd:=fun i hi=>by
  rw[iV (by rw[P.sz];exact hk) hl];repeat' split
  all_goals exact P.bd _ (by omega)
 ne:=fun i j hij hj=>by
  rw[iV (by rw[P.sz];exact hk) hl,iV (by rw[P.sz];exact hk) hl];repeat' split
  all_goals first|(exfalso;omega)|exact P.ne' (by omega) (by omega) (by omega)
theorem Asc.bub(P:Pm n p){k l:Nat}(hk:k<n)(hl:l<=k)(h:Asc lt p k)(h1:∀i,i<l->lt (p.getD i 0) (p.getD k 0)=true)(h2:∀i,l<=i->i<k->lt (p.getD k 0) (p.getD i 0)=true):Asc lt (bubble p k (k-l)) (k+1):=fun i j hij hj=>by
 rw[iV (by rw[P.sz];exact hk) hl,iV (by rw[P.sz];exact hk) hl];repeat' split
 all_goals first|(exfalso;omega)|exact h1 _ (by omega)|exact h2 _ (by omega) (by omega)|exact h _ _ (by omega) (by omega)
theorem vJ:Pm n (List.toArray (QF n)):=by
 have g:∀i,i<n->(List.toArray (QF n)).getD i 0=i:=fun i hi=>by simp[Array.getD,hi]
 exact⟨by simp,fun i hi=>by rw[g i hi];exact hi,fun i j hij hj=>by rw[g i (by omega),g j hj];omega⟩
end
end OP
namespace OP
open PySem PySem.Spec PyProof PyProof.Rows L2 OG
def FzT(H:Hp)(a:Addr)(ep:Nat)(ks:List (List Key)):Prop:=∃ob es kvs,H a=some (.frz ob (.dT kvs))/\ob.data=.dict es ep/\kvs.map (·.1)=ks
def Itt(a:Addr)(ep:Nat)(ks:List (List Key)):It:=
 ⟨fun i H=>i<ks.length/\FzT H a ep ks,fun i H x H'=>H'=H/\∃k p,ks[i]?=some k/\x=.ref p/\H p=some (.tup (k.map kV)),fun i H=>ks.length<=i/\FzT H a ep ks⟩
end OP
namespace OP
open PySem PySem.Spec PyProof PyProof.Rows L2 OG PySem.W
def nS(h:Heap)(v:Value)(p:Int×Int):Prop:=∃b o t1 t2 e,v=Value.ref b/\h.get? b=some o/\o.cls=Value.type "tuple"/\o.data=Data.seq #[Value.int p.1 t1,Value.int p.2 t2] e
def ltP(p q:Int×Int):Bool:=decide (p.1<q.1\/p.1=q.1/\p.2<q.2)
section
variable{prog:Program}{w:World}{A:Around}{E:Value->Shared->Prop}{s:Shared}
theorem kH{b:Bool}{x y:Int}{t u:Tok}{Q:Bool->Shared->Prop}(h:Q (decide (x<y)) s):wpAny (model prog w) A (oneLt' b (Value.int x t) (Value.int y u)) Q E s:=by
 cases b with
 |true=>exact oneLt_int h
 |false=>
  rw[oneLt'_eq];dsimp only;rw[if_neg Q7];exact Q2 (wpAny_lt_int (wpAny_truthy_bool h))
theorem zJ{v v':Value}{p p':Int×Int}{C:Bool->Shared->Prop}(h:nS s.heap v p)(h':nS s.heap v' p')(c:C (ltP p p') s):wpAny (model prog w) A (keyLt' (tuples' true) v v') C E s:=by
 obtain⟨b,o,t1,t2,e,rfl,g,_,d⟩:=h;obtain⟨b',o',t1',t2',e',rfl,g',_,d'⟩:=h';refine kat_lt g d g' d' (kat_cons (wpAny_eqBool_int ?_));by_cases e1:p.1=p'.1
 ·rw[e1,beq_self_eq_true];refine kat_yes (kat_cons (wpAny_eqBool_int ?_));by_cases e2:p.2=p'.2
  ·rw[e2,beq_self_eq_true];refine kat_yes (kat_nil ?_);have:ltP p p'=false:=by simp[ltP,e1,e2]
   rw[this]at c;exact c
  ·rw[beq_eq_false_iff_ne.mpr e2];refine kat_no (kH ?_);have:ltP p p'=decide (p.2<p'.2):=by simp[ltP,e1]
   rw[this]at c;exact c
 ·rw[beq_eq_false_iff_ne.mpr e1];refine kat_no (kH ?_);have:ltP p p'=decide (p.1<p'.1):=by simp[ltP,e1]
  rw[this]at c;exact c
def hV(h:Heap):List Value->List (Int×Int)->Prop
 |[],[]=>True
 |v::vs,p::ps=>nS h v p/\hV h vs ps
 |_,_=>False
theorem mK{h:Heap}:∀{vs:List Value} {ps:List (Int×Int)},hV h vs ps->vs.length=ps.length
 |[],[],_=>rfl
 |_::_,_::_,k=>by rw[QJ,QJ,mK k.2]
 |[],_::_,k=>k.elim
 |_::_,[],k=>k.elim
theorem jD{h:Heap}:∀{vs:List Value} {ps:List (Int×Int)} {i:Nat},hV h vs ps->i<ps.length->nS h (vs.getD i Value.none) (ps.getD i (0,0))
 |[],[],_,_,k=>absurd k (Nat.not_lt_zero _)
 |_::_,_::_,0,k,_=>k.1
 |_::vs,_::ps,i+1,k,l=>by
  show nS h (vs.getD i Value.none) (ps.getD i (0,0));exact jD k.2 (by rw[QJ]at l;omega)
 |[],_::_,_,k,_=>k.elim
 |_::_,[],_,k,_=>k.elim
theorem kG{h:Heap}:∀{vs:List Value} {ps:List (Int×Int)},hV h vs ps->∃fs,KatTups h vs fs/\fs.length=vs.length/\∀f∈fs,∃i t,f=Value.int i t
 |[],[],_=>⟨[],trivial,rfl,fun f hf=>by cases hf⟩
 |v::vs,p::ps,k=>by
  obtain⟨fs,h1,h2,h3⟩:=kG k.2;obtain⟨b,o,t1,t2,e,hv,g,c,d⟩:=k.1;refine⟨Value.int p.1 t1::fs,⟨⟨b,o,_,e,hv,g,c,d,rfl⟩,h1⟩,by rw[QJ,QJ,h2],fun f hf=>?_⟩;rcases QC.mp hf with z|z
  ·exact⟨_,_,z⟩
  ·exact h3 f z
 |[],_::_,k=>k.elim
 |_::_,[],k=>k.elim
theorem qM{vs:List Value}{ps:List (Int×Int)}{Q:SortKind->Shared->Prop}(h:hV s.heap vs ps)(hn:0<vs.length)(q:Q (tuples' true) s):wpAny (model prog w) A (keyKind' vs.toArray) Q E s:=by
 obtain⟨fs,h1,h2,h3⟩:=kG h;refine kat_kind (T:=Value.type "int") h1 (by omega) (fun v hv A Q E s' _ q=>?_) (by decide +kernel) (by exact q);obtain⟨i,t,rfl⟩:=h3 v hv;exact wpAny_typeOf (typeIs_int s' i t) q
end
theorem mJ{n:Nat}{q:Array Nat}(P:Pm n q):∀i∈q.toList,i<n:=fun i hi=>by
 obtain⟨j,hj,e⟩:=List.mem_iff_getElem.mp hi;have hj':j<q.size:=by simpa using hj
 have:=P.bd j (by rw[<-P.sz];exact hj');rw[ZJ,Array.getElem?_eq_getElem hj']at this;rw[Array.getElem_toList]at e;rw[<-e];exact this
def Ex{ns:List Int}{i:Int}{S:Sto}:fIx (.kl ns) (.int i) S=(atI (ns.map U.int) i).bind fun u=>some (u,S):=rfl
def xm{ns:List Int}{S:Sto}:nV [.kl ns] S=some (.int ns.length,S):=rfl
section
variable{X:Cx}{K:Q1}
def hR{κ α:Type}[DecidableEq κ](kus:List (κ×α))(k:κ):List (κ×α):=kus.filter fun p=>decide (p.1≠k)
theorem IsP.dropP{m:List Addr}{H:Hp}{kvs:List (Key×V)}{kus:List (Key×U)}{k:Key}(h:IsP K m H kvs kus):IsP K m H (lV kvs k) (hR kus k):=by
 refine IsP.ind (P:=fun kvs kus=>IsP K m H (lV kvs k) (hR kus k)) .nil_ (fun k' v u kvs kus i _ ih=>?_) h;unfold lV hR at ih ⊢;by_cases e:k'=k
 ·rw[List.filter_cons_of_neg (by simp[e]),List.filter_cons_of_neg (by simp[e])];exact ih
 ·rw[List.filter_cons_of_pos (by simp[e]),List.filter_cons_of_pos (by simp[e])];exact .cons_ i ih
def Au:U->U->Sto->Option (U×Sto):=fun x y S=>match x with
 |.ref l=>match S[l]? with
  |some (.dic kus)=>(jb y).bind fun k=>(bB kus k).bind fun u=>some (u,S.set l (.dic (hR kus k)))
  |_=>none
 |_=>none
def uz(co ck:CE):CE:=fun ρ S=>(co ρ S).bind fun p=>match p.1 with
 |.ref l=>match p.2[l]? with
  |some (.dic _)=>(ck ρ p.2).bind fun q=>Au p.1 q.1 q.2
  |_=>none
 |_=>none
theorem BU{o e:Expr}{co ck:CE}{apos cpos:Pos}(ho:QE X o co)(he:QE X e ck)(m1:M1 X o "pop" apos e cpos):QE X (.Call (.Attribute o "pop" apos) [e] [] cpos) (uz co ck):=
 (rQ ho he m1).imp fun σ H Q hz=>kg hz fun m ρ S u S' sr lr hc post=>by
 obtain⟨⟨x,S1⟩,h1,h⟩:=Q0.mp hc;refine⟨m,ρ,S,_,S1,sr,lr,h1,fun m1 v1 H1 e1 sr1 i1=>?_⟩;cases x with
 |ref l=>
  simp only at h;split at h<;>try cases h
  rename_i kus0 hS0;obtain⟨⟨y,S2⟩,h3,h4⟩:=Q0.mp h;obtain⟨a,ha,rfl⟩:=i1.of_ref;obtain⟨a0,ha0,kvs0,hx0,ip0⟩:=sr1.get hS0;rw[ha]at ha0;cases ha0;refine⟨a,rfl,.inl ⟨kvs0,.inl hx0⟩,m1,ρ,S1,_,S2,sr1,lr.mono e1,h3,fun m2 v2 H2 e2 sr2 i2=>?_⟩;simp only[Au]at h4;split at h4<;>try cases h4
  rename_i kus hS;obtain⟨k,hk,h5⟩:=Q0.mp h4;obtain⟨w,hw,h6⟩:=Q0.mp h5;cases h6;obtain⟨a',ha',kvs,hx,ip⟩:=sr2.get hS;rw[e2.get ha]at ha';cases ha';have ek:=g6 i2 hk;have rf:=IsP.val (k:=k) ip;rw[hw]at rf;cases hv:gC kvs k with
  |none=>rw[hv]at rf;exact rf.elim
  |some z=>
   rw[hv]at rf;have ee:Ext X.K m2 H2 m2 (upd H2 a (.dK (lV kvs k))):=.of (sr2.keep (e2.get ha) _);exact⟨kvs,k,z,hx,ek,hv,post m2 _ _ ((e1.trans e2).trans ee) (sr2.put (e2.get ha) ⟨_,aI,ip.dropP.mono ee⟩) (Is.mono ee rf)⟩
 |_=>cases h
def lX(c1 c2:CE):CE:=fun ρ S=>match c1 ρ S with
 |some r=>some r
 |none=>c2 ρ S
theorem vD{e:Expr}{c1 c2:CE}(h1:QE X e c1)(h2:QE X e c2):QE X e (lX c1 c2):=
 (h1.or h2).imp fun σ H Q hz=>kg hz fun m ρ S u S' sr lr hc post=>by
 unfold lX at hc;split at hc
 ·rename_i r hr;cases hc;exact .inl ⟨m,ρ,S,u,S',sr,lr,hr,post⟩
 ·exact .inr ⟨m,ρ,S,u,S',sr,lr,hc,post⟩
end
end OP
namespace OP
open PySem PySem.Spec PyProof PyProof.Rows L2 OG PySem.W HT
section
variable{prog:Program}{w:World}{A:Around}{E:Value->Shared->Prop}{s:Shared}
theorem lM{t sl:Addr}{items:Array Value}{vl vu:Value}{lo hi:Option Int}{Q:Value->Shared->Prop}(ht:IsTup s.heap t items)(hs:s.heap.IsSliceOf sl vl vu .none)(pl:IsPart vl lo)(pu:IsPart vu hi)
  (hw:sIx items.size 0 lo=0/\sIx items.size items.size hi=items.size) (h:Q (.ref t) s):wpAny (model prog w) A (getItem (.ref t) (.ref sl)) Q E s:=by
 obtain⟨os,hos,hcs,hds⟩:=id hs;have hT:s.TypeIs (.ref sl) "slice":=⟨os,hos,hcs⟩;unfold getItem;try with_reducible refine wpAny_holding ?_
 first|refine Q2 (QY ?_)|skip
 refine Q2 (wpAny_sequenceKey ht.typeIs (by decide) ?_);refine Q2 (wpAny_callSpecial?_slot (name:=Str.ofString "__getitem__") ht.typeIs PyProof.Rows.slot_tuple_getitem (wpAny_call_entry PyProof.Rows.slot_tuple_getitem ht.typeIs entry_tuple_getitem ?_ (args_tuple_getitem _ _)));show wpAny _ _ (Builtin.Tuple.tupleItemsOf (.ref t) >>= _) _ _ s;refine Q2 (tupleItemsOf_ ht (Q2 (wpAny_typeOf hT ?_)));rw[if_pos (by decide)];refine Q2 (fK hs pl pu ?_);rw[hw.1,hw.2,Nat.sub_zero];dsimp only;rw[if_pos (by simp)];unfold Builtin.Tuple.tupleIsExact;refine Q2 (Q2 (wpAny_typeOf ht.typeIs (QY ?_)));rw[if_pos (by decide)];exact Q2 (wpAny_rule (QY ⟨_,rfl,QY h⟩))
end
section
variable{X:Cx}
def G8(K:Q1):V->Option Int->Option Int->Hp->VK->Prop:=fun x lo hi H Q=>∃a xs,x=.ref a/\SqT K H a xs/\(sIx xs.length 0 lo=0/\sIx xs.length xs.length hi=xs.length)/\Q (.ref a) H
theorem y9:SlR X (G8 X.K):=by
 intro pins s σ H x v vl vu lo hi sl Q I rx hs pl pu h;obtain⟨a,xs,rfl,hx,hw,q⟩:=h;cases rx;obtain⟨its,r,ht,hz⟩:=I.tuple hx;have hlen:its.toArray.size=xs.length:=by rw[QX];exact r.length.symm
 exact⟨"tuple",_,PyProof.Rows.slot_tuple_getitem.lookup,ht.typeIs,lM ht hs pl pu (by rw[hlen];exact hw) ⟨.ref a,H,I,rfl,q⟩⟩
def DS(x:U)(lo hi:Option Int)(S:Sto):Option (U×Sto):=match x with
 |.tup us=>some (.tup (wV us lo hi),S)
 |.ref l=>match S[l]? with
  |some (.lst us)=>some (.ref S.length,S++[.lst (wV us lo hi)])
  |_=>none
 |_=>none
def DU(ca:CE)(cl ch:Option CE):CE:=fun ρ S=>(ca ρ S).bind fun p=>(Az cl ρ p.2).bind fun q=>(Az ch ρ q.2).bind fun r=>DS p.1 q.1 r.1 r.2
theorem Fb{e:Expr}{lo hi:Option Expr}{ca:CE}{cl ch:Option CE}{pos p2:Pos}(ha:QE X e ca)(hl:QO X lo cl)(hh:QO X hi ch):QE X (.Subscript e (.Slice lo hi none p2) pos) (DU ca cl ch):=(rO (za.or (BK.or y9)) ha hl hh).imp fun σ H Q hz=>kg hz fun m ρ S u S' sr lr hc post=>by
 obtain⟨⟨x,S1⟩,h1,ha⟩:=Q0.mp hc;obtain⟨⟨l,S2⟩,h2,hb⟩:=Q0.mp ha;obtain⟨⟨k,S3⟩,h3,h⟩:=Q0.mp hb;clear ha hb hc;refine⟨m,ρ,S,x,S1,sr,lr,h1,fun m1 v1 H1 e1 sr1 i1=>⟨m1,ρ,S1,l,S2,sr1,lr.mono e1,h2,fun m2 H2 e2 sr2=>⟨m2,ρ,S2,k,S3,sr2,lr.mono (e1.trans e2),h3,fun m3 H3 e3 sr3=>?_⟩⟩⟩;have i3:=i1.mono (e2.trans e3);have e03:=(e1.trans e2).trans e3;cases x with
 |tup us=>
  simp only[DS]at h;cases h;obtain⟨a,xs,rfl,sa,la⟩:=i3.of_tup;by_cases hw:sIx us.length 0 l=0/\sIx us.length us.length k=us.length
  ·have e:wV us l k=us:=by
    unfold wV;rw[hw.1,hw.2,List.drop_zero,Nat.sub_zero,List.take_length]
   rw[e]at post;exact .inr (.inr ⟨a,xs,rfl,sa,by rw[la.length];exact hw,post m3 _ H3 e03 sr3 (.tup_ sa la)⟩)
  ·exact .inr (.inl ⟨a,xs,rfl,sa,by rw[la.length];exact hw,fun p hp=>k9 sr3 (x8 la) (post.mono e03) hp⟩)
 |ref r=>
  simp only[DS]at h;split at h<;>try cases h
  rename_i us hS;obtain⟨a,ha,rfl⟩:=i3.of_ref;obtain⟨a',ha',xs,hx,la⟩:=sr3.get hS;rw[ha]at ha';cases ha';exact .inl ⟨a,xs,rfl,SqL.of hx,fun p hp=>eD sr3 (x8 la) (post.mono e03) hp⟩
 |_=>simp[DS]at h
end
end OP
namespace OP
open PySem PySem.Spec PyProof PyProof.Rows L2 OG PySem.W
section
variable{X:Cx}{K:Q1}
def xD:V->List V->Hp->VK->Prop:=fun x vs H Q=>∃l xs,x=.ref l/\vs=[]/\H l=some (.lst xs)/\Q .non (upd H l (.lst []))
theorem wg:MtM X "list.clear" xD:=by
 intro pins s σ H x vs v us Q I rx rv h;obtain⟨l,xs,rfl,rfl,hH,q⟩:=h;cases rx;have hus:=rv.zero;subst hus;obtain⟨z,its,n,r,hl,e⟩:=I.lstM hH;refine call_meets PySem.F.slot_list_clear ⟨_,e,rfl⟩ PySem.F.entry_list_clear (PySem.F.args_list_clear_1 _) (PySem.AutoSeq1.list_clear_list_0 l its.toArray n (by rw[QX];omega)) ⟨e,?_⟩;exact⟨.non,_,I.lset (its':=[]) (ys:=[]) hH e rfl .nil (Qe _),rfl,q⟩
def jc:U->List U->Sto->Option (U×Sto)
 |.ref l,[],S=>match S[l]? with
  |some (.lst _)=>some (.non,S.set l (.lst []))
  |_=>none
 |_,_,_=>none
theorem zN:MtP K xD jc:=by
 intro m S H x v us vs u S' Q sr ix i hf post;match x,us,hf with
 |.ref l,[],hf=>
  simp only[jc]at hf;split at hf<;>try cases hf
  rename_i ws hS;obtain⟨a,ha,rfl⟩:=ix.of_ref;obtain⟨a',ha',xs,hx,la⟩:=sr.get hS;rw[ha]at ha';cases ha';have eu:Ext K m H m (upd H a (.lst [])):=.of (sr.keep ha _);exact⟨a,xs,rfl,i.of_nil,hx,post m _ _ eu (sr.put ha ⟨_,aI,.nil_⟩) .non_⟩
variable{o:Expr}{co:CE}{apos cpos:Pos}
theorem zm(ho:QE X o co)(hbase:attributeBase o "clear" X.env (eval o X.env)=eval o X.env:=by rfl)(hline:(apos.endLine == cpos.line)=true:=by rfl) :
  QE X (.Call (.Attribute o "clear" apos) [] [] cpos) (cBM jc co aH):=(yT PySem.F.plainAttrs_list PySem.F.slot_list_clear PySem.F.type_list_clear wg ho hbase hline).imp fun σ H Q h=>by
 obtain⟨m,ρ,S,u,S',sr,lr,hc,k⟩:=uA (cr:=aH) zN σ H Q h;refine⟨m,ρ,S,u,S',sr,lr,hc,fun m1 v1 H1 e1 sr1 i1=>?_⟩;obtain⟨ty,m2,ρ2,S2,us,S3,sr2,lr2,h4,h5⟩:=k m1 v1 H1 e1 sr1 i1;cases h4;exact⟨ty,h5 m2 [] H1 .refl sr2 .nil_⟩
end
end OP
namespace OP
open PySem PySem.Spec PyProof.Rows L2 OG
section
variable{P:Program}{w:World}{K:Q1}{h base:Heap}{mg:Str->Option Value}{x q:Str}{st:Stmt}{f C:Addr}{oc:Value}{od an:Option Addr}{osl:Array (Option Value)}{kV doc pm cdv ct:Value}{ps N:List Str}{k:Nat}{c:CS}{cl:Cl}
def GP(K:Q1)(x q:Str)(st:Stmt)(f:Addr):Prop:=∃fd,Fun K x q st f fd
abbrev fAt(x q:Str)(st:Stmt)(oc:Value)(od an:Option Addr)(osl:Array (Option Value))(kV doc pm cdv ct:Value):Obj:=⟨oc,od,.func (PySem.W.fnOf x q (hU st) (cU st) (aw st) .none kV doc pm an cdv ct),osl⟩
def Dy(K:Q1)(x:Str)(st:Stmt):Prop:=∃f,PySem.W.nsIn K mainGlobals x=some (some (.ref f))/\GP K x x st f
theorem Hg(a:PySem.W.nsIn K mainGlobals x=some (some (.ref f)))(l:K.lookup f=some (fAt x x st oc od an osl kV doc pm cdv ct))(c:PySem.W.codeIn K cdv x=true)(k:PySem.W.keepIn K (.ref f)=true):Dy K x st:=⟨f,a,_,xW l c k⟩
def Dx(K:Q1):List (Str×Stmt)->Prop
 |[]=>True
 |(x,st)::r=>Dy K x st/\Dx K r
def Dq(K:Q1)(C:Addr)(x q:Str)(st:Stmt):Prop:=∃f,PySem.W.findIn K (.ref C) x=some (some (.ref f))/\PySem.W.isFn K (.ref f)=true/\GP K x q st f
theorem Gu(a:PySem.W.findIn K (.ref C) x=some (some (.ref f)))(i:PySem.W.isFn K (.ref f)=true)(l:K.lookup f=some (fAt x q st oc od an osl kV doc pm cdv ct))(c:PySem.W.codeIn K cdv q=true)(k:PySem.W.keepIn K (.ref f)=true):Dq K C x q st:=⟨f,a,i,_,xW l c k⟩
def Dp(K:Q1)(C:Addr):List (Str×Str×Stmt)->Prop
 |[]=>True
 |(x,q,st)::r=>Dq K C x q st/\Dp K C r
def Dm(K:Q1)(C:Addr):List Str->Prop
 |[]=>True
 |x::r=>PySem.W.findIn K (.ref C) x=some none/\Dm K C r
def DY(K:Q1):List Str->Prop
 |[]=>True
 |x::r=>PySem.W.nsIn K mainGlobals x=some none/\DY K r
structure AQ(K:Q1)(x:Str)(C:Addr)(ns:List Str)(ms:List (Str×Str×Stmt)):Prop where
 a:PySem.W.nsIn K mainGlobals x=some (some (.ref C))
 pg:PySem.W.plainGet K C Str.empty=true
 hd:PySem.W.hasDictIn K C=true
 po:PySem.W.plainOver K C=true
 sa:PySem.W.findIn K (.ref C) "__setattr__"=some (some (.builtin "object.__setattr__"))
 mc:PySem.W.makesIn K C=true
 kc:PySem.W.keepIn K (.ref C)=true
 nf:Dm K C ns
 ms:Dp K C ms
theorem Dm.nas:∀{ns:List Str},Dm K C ns->∀f∈ns,PySem.W.findIn K (.ref C) f=some none
 |[],_,f,h=>by cases h
 |x::r,h,f,hf=>by
  rcases QC.mp hf with rfl|z
  ·exact h.1
  ·exact Dm.nas h.2 f z
theorem AQ.tc{ns:List Str}{ms:List (Str×Str×Stmt)}(h:AQ K x C ns ms):TC K (⟨C,ns⟩:Cl) ns:=⟨⟨h.pg,h.hd,h.po,h.sa⟩,rfl,fun f hf=>h.nf.nas f hf⟩
abbrev Bd(x q:Str)(st:Stmt)(ps:List Str):Prop:=∀us:List Value,us.length=ps.length->∀(kV doc pm:Value) (an:Option Addr) (cdv ct:Value),bindArgs (PySem.W.fnOf x q (hU st) (cU st) (aw st) .none kV doc pm an cdv ct) ⟨us,[]⟩=pure (ps.zip us)
theorem Dy.df(d:Dy K x st)(X:K.In h)(G:h.Ns mainGlobals mg)(b:Bd x x st ps:=by first|exact AM fun _ _ _ _ _ _=>rfl|(repeat (first|exact AM fun _ _ _ _ _ _=>rfl|refine FZ fun _=>?_))):Def K mg x st ps:=by
 obtain⟨f,a,fd,F⟩:=d;exact⟨f,fd,F,F.binds fun kV doc pm an cdv ct us hl=>b us hl kV doc pm an cdv ct,PySem.W.mg_of X G a⟩
def MtD(K:Q1)(C:Addr)(x q:Str)(st:Stmt)(ps:List Str):Prop:=∃fa fd,Fun K x q st fa fd/\fP K fd ps []/\AG K C x fa
theorem Dq.mt(d:Dq K C x q st)(b:Bd x q st ps:=by first|exact AM fun _ _ _ _ _ _=>rfl|(repeat (first|exact AM fun _ _ _ _ _ _=>rfl|refine FZ fun _=>?_))):MtD K C x q st ps:=by
 obtain⟨f,a,i,fd,F⟩:=d;exact⟨f,fd,F,F.binds fun kV doc pm an cdv ct us hl=>b us hl kV doc pm an cdv ct,a,i,F.kp⟩
theorem MtD.pure(d:MtD K cl.C x q st ps)(S:aQ N ps (aw st))
  (hb:∀(f:Addr) (cdv:Value) (A:Around) (outer:List Env) (s:Shared) (H:Hp) (E:XK),eU k (A.deeper (envOfC q (aw st) s.heap.objs.size f cdv))->WSs (nW CX0 P w K mg base N q (aw st) f cdv A outer s H E).nox (cU st) (tS K c)) :
  dS P w K mg base cl x (k+1) ps (fnU N.length ps.length c):=by
 obtain⟨fa,fd,F,b,m⟩:=d;exact⟨fa,fd,m,F.pure S (hb fa),b⟩
def MkD(K:Q1)(mg:Str->Option Value)(C:Addr)(x q:Str)(st:Stmt)(ps:List Str):Prop:=∃fa fd,Fun K "__init__" q st fa fd/\fP K fd ps []/\Mk K C fa/\mg x=some (.ref C)
theorem AQ.mkd{ns:List Str}{ms:List (Str×Str×Stmt)}(h0:AQ K x C ns ms)(d:Dq K C "__init__" q st)(X:K.In h)(G:h.Ns mainGlobals mg)(b:Bd "__init__" q st ps:=by first|exact AM fun _ _ _ _ _ _=>rfl|(repeat (first|exact AM fun _ _ _ _ _ _=>rfl|refine FZ fun _=>?_))):MkD K mg C x q st ps:=by
 obtain⟨f,a,i,fd,F⟩:=d;exact⟨f,fd,F,F.binds fun kV doc pm an cdv ct us hl=>b us hl kV doc pm an cdv ct,⟨h0.mc,a,i,h0.kc⟩,PySem.W.mg_of X G h0.a⟩
theorem MkD.pure{NS:List Str}(d:MkD K mg cl.C x q st ps)(T:TC K cl NS)(S:aQ N ps (aw st))
  (hb:∀(f:Addr) (cdv:Value) (A:Around) (outer:List Env) (s:Shared) (H:Hp) (E:XK),eU k (A.deeper (envOfC q (aw st) s.heap.objs.size f cdv))->WSs (nW CX0 P w K mg base N q (aw st) f cdv A outer s H E).nox (cU st) (tS K c))
  (nd:NS.Nodup:=by decide +kernel) (few:NS.length<1000:=by decide):CMk P w K mg base cl x (k+1) ps (fnU N.length ps.length c):=by
 obtain⟨fa,fd,F,b,m,g⟩:=d;exact⟨⟨fa,fd,m,F.pure S (hb fa),b,g⟩,by rw[T.ns];exact nd,by rw[T.ns];exact few⟩
def GN:List Str:=["len","isinstance","int","bool","str","tuple","list","range","min","sum","all","zip","sorted","dict","enumerate","any","max","set"]
theorem DY.blt(z:DY K GN)(X:K.In h)(G:h.Ns mainGlobals mg):Blt mg:=by
 obtain⟨a,b,c,d,e,f,g,i,j,k,l,m,n,o,p,q,r,s,-⟩:=z;constructor<;>(refine PySem.W.mg_none_of X G ?_;assumption)
end
end OP
namespace OG
open PySem PySem.Spec PyProof.Rows L2
def C9(qual:Str)(scope:Scope)(L f:Addr)(cd:Value)(cl:List (Str×Addr)):Env:=newEnv scope L mainGlobals cl (qual++".<locals>.") (some f) cd none builtinsNs
def cxL(P:Program)(w:World)(K:Q1)(mg:Str->Option Value)(base:Heap)(N:List Str)(qual:Str)(scope:Scope)(f:Addr)(cd:Value)(cl:List (Str×Addr))(A:Around)(outer:List Env)(s:Shared)(H:Hp):Cx where
 prog:=P
 w:=w
 K:=K
 mg:=mg
 base:=base
 A:=A.deeper (C9 qual scope s.heap.objs.size f cd cl)
 N:=N
 s₀:=s
 H₀:=H
 env:=C9 qual scope s.heap.objs.size f cd cl
 outer:=outer
 stack:=C9 qual scope s.heap.objs.size f cd cl::outer
 ex:=[]
 calm:=true
 fn:=fun _=>false
 pn:=[]
 xe:=fun _ _=>False
structure DZ(scope:Scope)(cl:List (Str×Addr))(h:Heap)(H:Hp)(x:Str)(v:V):Prop where
 ex:scope.names.lookup x=some .free/\∃c u,cl.lookup x=some c/\h.IsCell c (some u)/\cu v u
section
variable{P:Program}{w:World}{K:Q1}{mg:Str->Option Value}{base:Heap}{p:Str}{capN:List Str}{qual name:Str}{scope:Scope}{f:Addr}{cl:List (Str×Addr)}{A:Around}{outer:List Env}{s:Shared}{H:Hp}{v:V}{vc:List V}{u cd:Value}
theorem Aj{h1:Heap}{t':Nat}(e0:oW P w K mg base A outer s H)(hd:A.handled=none)(hkind:scope.kind=.function)(hp:scope.names.lookup p=some .local)(r:cu v u)
  (hinj:∀x y c,cl.lookup x=some c->cl.lookup y=some c->x=y) (hhas:∀x,(scope.names.lookup x=some .cell\/scope.names.lookup x=some .free)->∃c,cl.lookup x=some c)
  (hcl:∀x c,cl.lookup x=some c->(∃u,s.heap.IsCell c u)/\H c=none)
  (hcap:Paired (fun x v=>DZ scope cl s.heap H x v) capN vc)
  (hns:h1.Ns s.heap.objs.size (fun x=>([(p,u)]:List (Str×Value)).reverse.lookup x)) (hk:∀b o,s.heap.get? b=some o->h1.get? b=some o) :
  Inv (cxL P w K mg base (p::capN) qual scope f cd cl A outer s H) [] (some v::vc.map some) H { s with heap:=h1,toks:=t' }:=by
 have noA:∀b:Addr,b∉(cxL P w K mg base (p::capN) qual scope f cd cl A outer s H).ex:=fun b z=>absurd (show b∈([]:List Addr)from z) (by simp);have cellK:∀c v,s.heap.IsCell c v->h1.IsCell c v:=fun c v ⟨o,ho,hd⟩=>⟨o,hk _ _ ho,hd⟩;refine⟨⟨e0.mod,hkind,rfl,rfl,Q5 _,hinj,hhas,fun y c z=>(nomatch z),fun _=>hd,Around.frames_deeper e0.frames,.inr ⟨rfl,rfl⟩,fun b z=>absurd z (noA b),e0.bs,e0.bsz,fun b _ _=>noA b,fun b z=>absurd z (noA b),e0.funs,e0.frf⟩,
  rfl,e0.bare,Un.kept hk,⟨_,hns,fun i y v' h1' h2 h3=>?_⟩,fun y c h=>?_,e0.hok.fresh (Q5 _),fun y c h=>(hcl y c h).2,fun p hp=>absurd (show p∈([]:List (Addr×Obj))from hp) (by simp),e0.hok.kept hk,?_⟩
 ·cases i with
  |zero=>
   have e1:p=y:=by simpa [cxL] using h1'
   have e2:v=v':=by simpa using h2
   subst e1;subst e2;exact⟨u,r,.inl ⟨hp,by simp⟩⟩
  |succ i=>
   have e1:capN[i]?=some y:=by simpa [cxL] using h1'
   have e2:vc[i]?=some v':=by
    simp only[Z9,Qq]at h2;cases q:vc[i]? with
    |none=>rw[q]at h2;cases h2
    |some z=>rw[q]at h2;cases h2;rfl
   have get:∀{l1:List Str} {l2:List V} {i:Nat},Paired (fun x v=>DZ scope cl s.heap H x v) l1 l2->l1[i]?=some y->l2[i]?=some v'->DZ scope cl s.heap H y v':=by
    intro l1 l2 i hq;induction hq generalizing i with
    |nil=>intro z;simp at z
    |cons a b ih=>cases i with
     |zero=>intro z1 z2;simp at z1 z2;subst z1;subst z2;exact a
     |succ i=>intro z1 z2;exact ih (by simpa using z1) (by simpa using z2)
   obtain⟨k1,c,u1,k2,k3,k4⟩:=(get hcap e1 e2).ex;exact⟨u1,k4,.inr ⟨.inr k1,c,k2,cellK _ _ k3⟩⟩
 ·obtain⟨z,q⟩:=(hcl y c h).1;exact⟨z,cellK _ _ q⟩
 ·show(some v::vc.map some).length=(p::capN).length;have:=hcap.length;simp only[QJ,QZ];omega
theorem z9{c:Addr}{pm ctv:Value}{params:Arguments}{body:PySem.Expr}{te:TE}{Q:VK}(hroom:A.depth<recursionLimit)(e0:oW P w K mg base A outer s H)(hd:A.handled=none)
  (ho:s.heap.get? f=some (PySem.W.kla_obj name qual params body scope cl pm c ctv)) (hcd:s.heap.CodeRec (.ref c) qual) (hco:scope.isCoroutine=false) (hgen:scope.isGenerator=false) (hkind:scope.kind=.function)
  (hcell:∀x∈scope.names,x.2≠.cell) (hp:scope.names.lookup p=some .local) (hbind:bindArgs (PySem.W.kla_fn name qual params body scope cl pm (.ref c) ctv) ⟨[u],[]⟩=pure [(p,u)]) (r:cu v u)
  (hinj:∀x y c,cl.lookup x=some c->cl.lookup y=some c->x=y) (hhas:∀x,(scope.names.lookup x=some .cell\/scope.names.lookup x=some .free)->∃c,cl.lookup x=some c)
  (hcl:∀x c,cl.lookup x=some c->(∃u,s.heap.IsCell c u)/\H c=none) (hcap:Paired (fun x v=>DZ scope cl s.heap H x v) capN vc)
  (hb:WE (cxL P w K mg base (p::capN) qual scope f (.ref c) cl A outer s H) body te) (hq:te (some v::vc.map some) H Q) :
  codeAny (model P w) A (.call (.ref f) ⟨[u],[]⟩) (fun r s'=>∃u',r=.ok (.ret u')/\CE outer P w H s Q u' s') s:=by
 have lim:s.heap.NoLimit:=e0.mod.nolimit.keeps fun b o e=>(e0.bs b o e).1;refine PySem.W.kla_callFunE hroom ho rfl hco hgen rfl hcd ?_;rw[hbind];refine QY (wpAny_newFunctionEnv hcell (fun x hx=>(show x=(p,u)by simpa using hx)▸hp) (fun h₁ hns hsb=>?_) hkind);have hk₁:∀b o,s.heap.get? b=some o->h₁.get? b=some o:=fun b o e=>hsb.extBut b o (QD (Q9 e)) (Q3 _ e);refine⟨lim.keeps hk₁,?_⟩;show codeAny _ _ (.expr body (C9 qual scope s.heap.objs.size f (.ref c) cl)) _ _;refine PySem.W.kla_codeExpr (Qh (hb.h [] _ _ H Q (Aj e0 hd hkind hp r hinj hhas hcl hcap hns hk₁) hq) (fun u' s' h=>?_) fun _ _ z=>z.elim);obtain⟨v',H',I',rv,q⟩:=h;exact⟨u',rfl,v',H',I'.os,I'.bare,I'.base,I'.hok,rv,q⟩
end
def uS(mg:Str->Option Value)(base:Heap):Prop:=∃bm ob,mg "__builtins__"=some (.ref bm)/\bm≠builtinsNs/\base.get? bm=some ob/\ob.cls=.type "module"/\ob.dict=some builtinsNs/\ob.data=.plain
section
variable{X:Cx}{pins:List (Addr×Obj)}{σ:L2.St}{H:Hp}{s:Shared}
theorem _root_.L2.Inv.tab{h':Heap}{t':Nat}{p:Addr}{ps more:Array Value}(I:Inv X pins σ H s)(hp:H p=some (.tbl ps))(k:Heap.ExtBut p s.heap h')(e:h'.get? p=some { cls:=.none,data:=.fields (ps++more) }) :
  Inv X pins σ (upd H p (.tbl (ps++more))) { s with heap:=h',toks:=t' }:=by
 have np:∀b u,H b=some u->u≠.tbl ps->b≠p:=fun b u q d z=>by subst z;rw[hp]at q;cases q;exact d rfl
 have nf:∀b,H b=none->b≠p:=fun b q z=>by subst z;rw[hp]at q;cases q
 refine I.un ⟨fun b o q n _ _=>k b o (nf b n) q,fun b o q n _ _=>⟨o.slots,k b o (nf b n) q⟩,fun b o q n _=>by rw[aK (nf b n)];exact n,fun b o q _=>?_,fun b xs q=>by rw[aK (np b _ q (by simp))];exact q,fun b o u q=>by rw[aK (np b _ q (by simp))];exact q,fun b ps' q=>?_⟩ fun b u q=>?_
 ·by_cases z:b=p
  ·subst z;exact⟨_,e⟩
  ·exact⟨o,k b o z q⟩
 ·by_cases z:b=p
  ·subst z;rw[hp]at q;cases q;exact⟨more,aI⟩
  ·exact⟨#[],by rw[aK z,q];simp⟩
 ·by_cases z:b=p
  ·subst z;rw[aI]at q;cases q;exact e
  ·rw[aK z]at q;refine(I.hok b u q).stay (fun c o hc q2=>k c o ?_ q2) (fun c q2=>by rw[aK (np c _ q2 (by simp))];exact q2) fun c xs q2=>by rw[aK (np c _ q2 (by simp))];exact q2
   rcases hc with rfl|hc
   ·exact z
   ·exact np c _ hc (by simp)
theorem _root_.L2.Inv.adopt{c:Addr}{u:HO}(I:Inv X pins σ H s)(new:dE X.prog X.w (upd H c u) s.heap c u)(n:H c=none)(h0:X.s₀.heap.objs.size<=c)(hL:c≠X.env.locals)(hc:∀x d,X.env.cells.lookup x=some d->d≠c)(hp:∀q∈X.pn++pins,q.1≠c) :
  Inv X pins σ (upd H c u) s:=by
 have ne:∀b u,H b=some u->b≠c:=fun b u q z=>by subst z;rw[n]at q;cases q
 have neS:∀b ob,X.s₀.heap.get? b=some ob->b≠c:=fun b ob q z=>absurd (QR (Q9 q) h0) (by rw[z];exact Qt _);refine⟨I.ok,I.os,I.bare,⟨I.base.keep,I.base.slot,fun b ob q m hx=>by rw[aK (neS b ob q)];exact I.base.free b ob q m hx,I.base.there,fun b xs q=>?_,fun b ob xs q=>?_,fun b ps q=>?_⟩,I.loc,I.cell,by rw[aK (Ne.symm hL)];exact I.free,fun x d q=>by rw[aK (hc x d q)];exact I.freeC x d q,fun q hq=>?_,fun b u q=>?_,I.len⟩
 ·have:=I.base.tups b xs q;rw[aK (ne _ _ this)];exact this
 ·have:=I.base.frzs b ob xs q;rw[aK (ne _ _ this)];exact this
 ·obtain⟨m,e⟩:=I.base.tbls b ps q;exact⟨m,by rw[aK (ne _ _ e)];exact e⟩
 ·obtain⟨e1,e2,e3⟩:=I.pin q hq;exact⟨e1,by rw[aK (hp q hq)];exact e2,e3⟩
 ·by_cases z:b=c
  ·subst z;rw[aI]at q;cases q;exact new
  ·rw[aK z]at q;exact(I.hok b u q).stay (fun _ _ _ q2=>q2) (fun d q2=>by rw[aK (ne _ _ q2)];exact q2) fun d xs q2=>by rw[aK (ne _ _ q2)];exact q2
theorem wy{c p:Addr}{ps:Array Value}{name qual:Str}{params:Arguments}{body:PySem.Expr}{scope:Scope}{cl:List (Str×Addr)}{pos:Pos}{fl:Nat}{Q:Value->Shared->Prop}(I:Inv X pins σ H s)(hc:X.env.code=.ref c)(C:PySem.W.CodeHd X.base c p)(B:uS X.mg X.base)
  (hp:H p=some (.tbl ps)) (ht:TriplesOk ps.toList) (hcl:closureFor scope X.env=pure cl)
  (hit:codeAmong pos ps.toList=none\/∃c' ob vs t,codeAmong pos ps.toList=some (.ref c')/\H c'=some (.frz ob (.own 0))/\ob.data=.fields vs/\vs[1]?=some (.str qual t))
  (q:∀(f c':Addr) (pm ctv:Value) (ps':Array Value) (H':Hp) (s':Shared),Inv X pins σ H' s'->s.heap.objs.size<=f->H' f=none->s'.heap.get? f=some (PySem.W.kla_obj name qual params body scope cl pm c' ctv)->s'.heap.CodeRec (.ref c') qual->
   (∀b o,b≠p->s.heap.get? b=some o->s'.heap.get? b=some o)->H' p=some (.tbl ps')->TriplesOk ps'.toList->(∃ob vs t,codeAmong pos ps'.toList=some (.ref c')/\H' c'=some (.frz ob (.own 0))/\ob.data=.fields vs/\vs[1]?=some (.str qual t))->(∀b,b≠p->b≠c'->H' b=H b)->(H c'=none\/H'=H)->Q (.ref f) s') :
  wpAny (model X.prog X.w) X.A (makeFunction name qual params (.expr body) scope X.env [] [] [] pos fl) Q X.xe s:=by
 have gp:s.heap.get? p=some (PySem.W.tabObj ps):=I.hok p _ hp;obtain⟨bm,ob,b1,b2,b3,b4,b5,b6⟩:=B;have hg:=I.mod.glob.keeps I.bk;have hbp:bm≠p:=fun z=>by
  have:=I.bk _ _ b3;rw[z,gp]at this;cases this;cases b4
 have hgp:mainGlobals≠p:=fun z=>by
  obtain⟨o,es,ep,e,d,_⟩:=hg;rw[z,gp]at e;cases e;cases d
 have hbG:bm≠mainGlobals:=fun z=>by
  obtain⟨o,es,ep,e,d,_⟩:=I.mod.glob;rw[z,e]at b3;cases b3;rw[d]at b6;cases b6
 have hB:s.heap.BuiltinsAt X.mg p:=⟨bm,ob,b1,b2,hbG,hbp,I.bk _ _ b3,b4,b5,b6⟩;have lk:∀x d,X.env.cells.lookup x=some d->d<s.heap.objs.size:=fun x d e=>by
  obtain⟨v,o,ho,_⟩:=I.cell x d e;exact Q9 ho
 have C':PySem.W.CodeHd s.heap c p:=C.keeps I.bk;rcases hit with hn|⟨c',oc,vs,t,hf,h2,h3,h4⟩
 ·refine PySem.W.kla_makeFunction (mg:=X.mg) hcl I.ok.glob hg hc C' gp ht hn hgp hB fun c' ctv h' tk hx hge hlt hrec htb=>?_;obtain⟨c2,oc,vs,t,e2,hoc,hd,hv⟩:=hrec;cases e2;have I1:=I.tab (t':=tk) hp hx htb;have ncp:c'≠p:=fun z=>by
   have:=Q9 gp;rw[<-z]at this;exact absurd hge (Nat.not_le.mpr this)
  have n1:(upd H p (.tbl (ps++#[rawInt pos.line,rawInt pos.col,.ref c']))) c'=none:=by rw[aK ncp];exact I.hok.fresh hge
  have I2:=I1.adopt (c:=c') (u:=.frz oc (.own 0)) ⟨hoc,oc,hoc⟩ n1 (QL I.sz hge) (Nat.ne_of_gt (QR I.lt hge)) (fun x d e=>QD (QR (lk x d e) hge)) (fun q hq=>QD (QR (Q9 (I.pin q hq).1) hge));have I3:=I2.kept (h':=h'.push (PySem.W.kla_obj name qual params body scope cl ((X.mg "__name__").getD .none) c' ctv)) (t':=tk) fun b o e=>Q3 _ e;refine q h'.objs.size c' _ ctv _ _ _ I3 (Nat.le_of_lt (Nat.lt_of_le_of_lt hge hlt)) ?_ (QN _ rfl) ⟨c',oc,vs,t,rfl,Q3 _ hoc,hd,hv⟩ (fun b o nb e=>Q3 _ (hx b o nb e)) (by rw[aK (Ne.symm ncp)];exact aI) ?_ ⟨oc,vs,t,?_,aI,hd,hv⟩ (fun b n1 n2=>by rw[aK n2,aK n1]) (.inl (I.hok.fresh hge))
  ·exact I2.hok.fresh (Q5 _)
  ·rw[Array.toList_append];exact TriplesOk_snoc _ _ _ _ ht
  ·rw[Array.toList_append];exact codeAmong_snoc _ ht hn
 ·refine PySem.W.kla_makeFunctionHit (mg:=X.mg) hcl I.ok.glob hg hc C' gp ht hf hB fun ctv h' tk hk hsz=>?_;have I1:=I.kept (h':=h') (t':=tk) hk;have I3:=I1.kept (h':=h'.push { cls:=.type "function",data:=.func (PySem.W.kla_fn name qual params body scope cl ((X.mg "__name__").getD .none) (.ref c') ctv) }) (t':=tk) fun b o e=>Q3 _ e;obtain⟨g1,_⟩:=I3.hok c' _ h2;exact q h'.objs.size c' _ ctv ps H _ I3 hsz (I1.hok.fresh (Q5 _)) (QN _ rfl) ⟨c',oc,vs,t,rfl,g1,h3,h4⟩ (fun b o nb e=>Q3 _ (hk b o e)) hp ht ⟨oc,vs,t,hf,h2,h3,h4⟩ (fun _ _ _=>rfl) (.inr rfl)
end
end OG
namespace OP
open PySem PySem.Spec PyProof PyProof.Rows L2 OG PySem.W
structure nR(n:Nat)(lt:Nat->Nat->Bool):Prop where
 asym:∀{i j},i<n->j<n->lt i j=true->lt j i=false
 co:∀{i j k},i<n->j<n->k<n->lt i k=true->lt i j=true\/lt j k=true
def ltS(lt:Nat->Nat->Bool)(i j:Nat):Bool:=lt i j||(!lt j i&&decide (i<j))
section
variable{cmp:Nat->Nat->(Bool->Shared->Prop)->Shared->Prop}{s:Shared}{n:Nat}{lt:Nat->Nat->Bool}{p:Array Nat}
theorem nR.tr(W:nR n lt){i j k:Nat}(hi:i<n)(hj:j<n)(hk:k<n)(h1:lt i j=true)(h2:lt j k=true):lt i k=true:=by
 rcases W.co hi hk hj h1 with h|h
 ·exact h
 ·rw[W.asym hj hk h2]at h;cases h
def dh{i j:Nat}:ltS lt i j=true↔lt i j=true\/lt j i=false/\i<j:=by unfold ltS;simp
theorem CB{i j:Nat}(h:j<=i):ltS lt i j=lt i j:=by
 unfold ltS;rw[decide_eq_false (by omega)];simp
theorem nR.le(W:nR n lt){i j k:Nat}(hi:i<n)(hj:j<n)(hk:k<n)(h1:lt j i=false)(h2:lt k j=false):lt k i=false:=by
 cases h:lt k i with
 |false=>rfl
 |true=>exact(W.co hk hj hi h).elim (fun z=>by rw[h2]at z;cases z) (fun z=>by rw[h1]at z;cases z)
theorem nR.ok(W:nR n lt):GO n (ltS lt) where
 tr:=fun{i j k} hi hj hk h1 h2=>by
  rw[dh]at *;rcases h1 with h1|⟨h1,g1⟩<;>rcases h2 with h2|⟨h2,g2⟩
  ·exact .inl (W.tr hi hj hk h1 h2)
  ·rcases W.co hi hk hj h1 with z|z
   ·exact .inl z
   ·rw[h2]at z;cases z
  ·rcases W.co hj hi hk h2 with z|z
   ·rw[h1]at z;cases z
   ·exact .inl z
  ·exact .inr ⟨W.le hi hj hk h1 h2,by omega⟩
 asym:=fun{i j} hi hj h=>by
  cases g:ltS lt j i with
  |false=>rfl
  |true=>
   rw[dh]at h g;rcases h with h|⟨h,h'⟩<;>rcases g with g|⟨g,g'⟩
   ·rw[W.asym hi hj h]at g;cases g
   ·rw[h]at g;cases g
   ·rw[h]at g;cases g
   ·omega
 tot:=fun{i j} hi hj hne h=>by
  rw[dh];cases g:lt j i with
  |true=>exact .inl rfl
  |false=>
   refine .inr ⟨?_,?_⟩
   ·cases q:lt i j with
    |false=>rfl
    |true=>rw[dh.mpr (.inl q)]at h;cases h
   ·rcases Nat.lt_or_gt_of_ne hne with z|z
    ·rw[dh.mpr (.inr ⟨g,z⟩)]at h;cases h
    ·exact z
structure Px(n k:Nat)(p:Array Nat):Prop where
 pm:Pm n p
 lo:∀i,i<k->p.getD i 0<k
 hi:∀i,k<=i->i<n->p.getD i 0=i
theorem Px.next{k:Nat}(h:Px n k p)(hk:k<n):Px n (k+1) p:=⟨h.pm,fun i hi=>by
 by_cases e:i=k
 ·subst e;rw[h.hi i (Q5 _) hk];omega
 ·have:=h.lo i (by omega);omega,fun i a b=>h.hi i (by omega) b⟩
theorem uG(W:nR n lt)(A:yi cmp n lt s):∀(f m:Nat) {Q:Nat->Shared->Prop},1<=m->m+f<=n->Px n m p->Asc (ltS lt) p m->(∀m',m<=m'->m'<=m+f->Px n m' p->Asc (ltS lt) p m'->(m'=m+f\/lt (p.getD m' 0) (p.getD (m'-1) 0)=true)->Q m' s)->(kas_asc p f m).kasWp cmp Q s
 |0,m,Q,h1,h2,P,h3,q=>q m (Q5 _) (by omega) P h3 (.inl rfl)
 |f+1,m,Q,h1,h2,P,h3,q=>by
  have b1:=P.pm.bd m (by omega);have b2:=P.pm.bd (m-1) (by omega);refine A _ _ _ b1 b2 ?_;cases hc:lt (p.getD m 0) (p.getD (m-1) 0)with
  |true=>exact q m (Q5 _) (by omega) P h3 (.inr hc)
  |false=>
   have hlt:p.getD (m-1) 0<p.getD m 0:=by rw[P.hi m (Q5 _) (by omega)];exact P.lo _ (by omega)
   have h4:=h3.snoc W.ok P.pm h1 (by omega) (dh.mpr (by
    cases z:lt (p.getD (m-1) 0) (p.getD m 0)with
    |true=>exact .inl rfl
    |false=>exact .inr ⟨hc,hlt⟩))
   exact uG W A f (m+1) (by omega) (by omega) (P.next (by omega)) h4 fun m' a b c d e=>q m' (by omega) (by omega) c d (by rcases e with e|e;exact .inl (by omega);exact .inr e)
theorem eX{i m k:Nat}(hm:m<=p.size):(kas_rev p i m).getD k 0=if i<=k/\k<m then p.getD (i+m-1-k) 0 else p.getD k 0:=by
 unfold kas_rev;have h:=getElem?_mirror_all (i:=i) hm k;split
 ·rename_i c;rw[if_pos c]at h;exact hG h
 ·rename_i c;rw[if_neg c]at h;exact hG h
theorem Px.rev{k i m:Nat}(P:Px n k p)(hm:m<=k)(hk:k<=n):Px n k (kas_rev p i m):=by
 have g:∀j,(kas_rev p i m).getD j 0=if i<=j/\j<m then p.getD (i+m-1-j) 0 else p.getD j 0:=fun j=>eX (by rw[P.pm.sz];omega)
 refine⟨⟨by rw[kas_rev_size];exact P.pm.sz,fun j hj=>?_,fun a b hab hb=>?_⟩,fun j hj=>?_,fun j a b=>?_⟩
 ·rw[g];split
  ·exact P.pm.bd _ (by omega)
  ·exact P.pm.bd _ hj
 ·rw[g,g];split<;>split<;>exact P.pm.ne' (by omega) (by omega) (by omega)
 ·rw[g];split
  ·exact P.lo _ (by omega)
  ·exact P.lo _ hj
 ·rw[g,if_neg (by omega)];exact P.hi j a b
structure Dn(lt:Nat->Nat->Bool)(p:Array Nat)(m q:Nat):Prop where
 dn:∀i j,i<j->j<m->i<m-(q+1)->ltS lt (p.getD j 0) (p.getD i 0)=true
 st:∀i j,i<m-(q+1)->m-(q+1)<=j->j<m->lt (p.getD j 0) (p.getD i 0)=true
 eq:∀i j,m-(q+1)<=i->i<j->j<m->lt (p.getD i 0) (p.getD j 0)=false/\lt (p.getD j 0) (p.getD i 0)=false/\p.getD i 0<p.getD j 0
theorem Dn.rev{m q:Nat}(h:Dn lt p m q)(hm:m<=p.size)(hq:q+1<=m):Dsc (ltS lt) (kas_rev p (m-(q+1)) m) m:=fun i j a b=>by
 have g:∀j,(kas_rev p (m-(q+1)) m).getD j 0=if m-(q+1)<=j/\j<m then p.getD (m-(q+1)+m-1-j) 0 else p.getD j 0:=fun j=>eX hm
 rw[g,g];by_cases ci:m-(q+1)<=i
 ·rw[if_pos ⟨by omega,b⟩,if_pos ⟨ci,by omega⟩];obtain⟨z1,z2,z3⟩:=h.eq (m-(q+1)+m-1-j) (m-(q+1)+m-1-i) (by omega) (by omega) (by omega);exact dh.mpr (.inr ⟨z2,z3⟩)
 ·rw[if_neg (c:=m-(q+1)<=i/\i<m) (by omega)];split
  ·exact h.dn _ _ (by omega) (by omega) (by omega)
  ·exact h.dn _ _ a b (by omega)
def Dn.dsc{m:Nat}(h:Dn lt p m 0):Dsc (ltS lt) p m:=fun i j a b=>h.dn i j a b (by omega)
theorem oN(W:nR n lt)(P:Pm n p){m:Nat}(h:Dsc (ltS lt) p m)(h1:1<=m)(hm:m<n)(hc:lt (p.getD m 0) (p.getD (m-1) 0)=true):Dn lt p (m+1) 0:=by
 have bm:=P.bd m hm;have all:∀i,i<m->lt (p.getD m 0) (p.getD i 0)=true:=fun i hi=>by
  by_cases e2:i=m-1
  ·subst e2;exact hc
  ·have z:=h i (m-1) (by omega) (by omega);rw[dh]at z;rcases z with z|⟨z,_⟩
   ·exact W.tr bm (P.bd _ (by omega)) (P.bd _ (by omega)) hc z
   ·rcases W.co bm (P.bd i (by omega)) (P.bd (m-1) (by omega)) hc with y|y
    ·exact y
    ·rw[z]at y;cases y
 refine⟨fun i j a b c=>?_,fun i j a b c=>?_,fun i j a b c=>by omega⟩
 ·by_cases e:j=m
  ·subst e;exact dh.mpr (.inl (all i (by omega)))
  ·exact h i j a (by omega)
 ·have e:j=m:=by omega
  subst e;exact all i (by omega)
theorem Dn.alike(W:nR n lt){m q:Nat}(P:Px n m p)(h:Dn lt p m q)(h1:q+1<=m)(hm:m<n)(hc:lt (p.getD m 0) (p.getD (m-1) 0)=false)(hd:lt (p.getD (m-1) 0) (p.getD m 0)=false):Dn lt p (m+1) (q+1):=by
 have e1:m+1-(q+1+1)=m-(q+1):=by omega
 have bm:=P.pm.bd m hm;have eqm:∀i,m-(q+1)<=i->i<m->lt (p.getD i 0) (p.getD m 0)=false/\lt (p.getD m 0) (p.getD i 0)=false:=fun i a b=>by
  by_cases e:i=m-1
  ·subst e;exact⟨hd,hc⟩
  ·obtain⟨z1,z2,_⟩:=h.eq i (m-1) a (by omega) (by omega);exact⟨W.le bm (P.pm.bd (m-1) (by omega)) (P.pm.bd i (by omega)) hd z1,W.le (P.pm.bd i (by omega)) (P.pm.bd (m-1) (by omega)) bm z2 hc⟩
 have stm:∀i,i<m-(q+1)->lt (p.getD m 0) (p.getD i 0)=true:=fun i hi=>by
  rcases W.co (P.pm.bd (m-1) (by omega)) bm (P.pm.bd i (by omega)) (h.st i (m-1) hi (by omega) (by omega))with y|y
  ·rw[hd]at y;cases y
  ·exact y
 refine⟨fun i j a b c=>?_,fun i j a b c=>?_,fun i j a b c=>?_⟩
 ·rw[e1]at c;by_cases e:j=m
  ·subst e;exact dh.mpr (.inl (stm i c))
  ·exact h.dn i j a (by omega) c
 ·rw[e1]at a b;by_cases e:j=m
  ·subst e;exact stm i a
  ·exact h.st i j a b (by omega)
 ·rw[e1]at a;by_cases e:j=m
  ·subst e;obtain⟨z1,z2⟩:=eqm i a (by omega);exact⟨z1,z2,by rw[P.hi j (Q5 _) hm];exact P.lo _ (by omega)⟩
  ·exact h.eq i j a b (by omega)
theorem lW(W:nR n lt)(A:yi cmp n lt s):∀(f:Nat) (p:Array Nat) (m q:Nat) {Q:Array Nat×Nat×Nat->Shared->Prop},q+1<=m->m+f<=n->Px n m p->Dn lt p m q->(∀p' m' q',q'+1<=m'->m'<=n->Px n m' p'->Dn lt p' m' q'->Q (p',m',q') s)->(kas_desc f p m q).kasWp cmp Q s
 |0,p,m,q,Q,h1,h2,P,h3,g=>g p m q h1 (by omega) P h3
 |f+1,p,m,q,Q,h1,h2,P,h3,g=>by
  have b1:=P.pm.bd m (by omega);have b2:=P.pm.bd (m-1) (by omega);refine A _ _ _ b1 b2 ?_;cases hc:lt (p.getD m 0) (p.getD (m-1) 0)with
  |true=>
   dsimp only;rw[if_pos rfl];by_cases hq:q>0
   ·rw[if_pos hq];have P':Px n m (kas_rev p (m-(q+1)) m):=P.rev (Q5 _) (by omega);have em:(kas_rev p (m-(q+1)) m).getD m 0=p.getD m 0:=by rw[eX (by rw[P.pm.sz];omega),if_neg (by omega)]
    have e2:(kas_rev p (m-(q+1)) m).getD (m-1) 0=p.getD (m-(q+1)) 0:=by
     rw[eX (by rw[P.pm.sz];omega),if_pos (by omega)];congr 1;omega
    refine lW W A f _ (m+1) 0 (by omega) (by omega) (P'.next (by omega)) (oN W P'.pm (h3.rev (by rw[P.pm.sz];omega) h1) (by omega) (by omega) ?_) g;rw[em,e2];obtain⟨z1,_,_⟩:=h3.eq (m-(q+1)) (m-1) (Q5 _) (by omega) (by omega);rcases W.co b1 (P.pm.bd (m-(q+1)) (by omega)) b2 hc with y|y
    ·exact y
    ·rw[z1]at y;cases y
   ·rw[if_neg hq];have q0:q=0:=by omega
    subst q0;exact lW W A f p (m+1) 0 (by omega) (by omega) (P.next (by omega)) (oN W P.pm h3.dsc (by omega) (by omega) hc) g
  |false=>
   dsimp only;rw[if_neg Q7];refine A _ _ _ b2 b1 ?_;cases hd:lt (p.getD (m-1) 0) (p.getD m 0)with
   |true=>
    dsimp only;rw[if_pos rfl];exact g p m q h1 (by omega) P h3
   |false=>
    dsimp only;rw[if_neg Q7];exact lW W A f p (m+1) (q+1) (by omega) (by omega) (P.next (by omega)) (h3.alike W P h1 (by omega) hc hd) g
theorem sg(W:nR n lt)(A:yi cmp n lt s){m:Nat}{Q:Nat×Array Nat->Shared->Prop}(h1:1<=m)(hm:m<=n)(P:Px n m p)(h:Dsc (ltS lt) p m)(g:∀m p',1<=m->m<=n->Px n m p'->Asc (ltS lt) p' m->Q (m,p') s):(kas_tail3 m n p).kasWp cmp Q s:=by
 unfold kas_tail3;rw[KasT.kasWp_bind];exact uG W A (n-m) m h1 (by omega) (P.rev (Q5 _) hm) (h.rev P.pm hm) fun m2 a2 b2 P2 c2 _=>g m2 _ (by omega) (by omega) P2 c2
theorem sR(W:nR n lt)(A:yi cmp n lt s){m:Nat}{Q:Nat×Array Nat->Shared->Prop}(h1:1<=m)(hm:m<n)(P:Px n m p)(h:Dsc (ltS lt) p m)(hc:lt (p.getD m 0) (p.getD (m-1) 0)=true)(g:∀m p',1<=m->m<=n->Px n m p'->Asc (ltS lt) p' m->Q (m,p') s):(kas_descPart m n p).kasWp cmp Q s:=by
 unfold kas_descPart;rw[KasT.kasWp_bind];refine lW W A _ p (m+1) 0 (by omega) (by omega) (P.next hm) (oN W P.pm h h1 hm hc) fun p' m' q' a b P' D=>?_;dsimp only;by_cases hq:q'>0
 ·rw[if_pos hq];exact sg W A (by omega) b (P'.rev (Q5 _) b) (D.rev (by rw[P'.pm.sz];exact b) a) g
 ·rw[if_neg hq];have q0:q'=0:=by omega
  subst q0;exact sg W A (by omega) b P' D.dsc g
theorem wW(W:nR n lt)(A:yi cmp n lt s){Q:Nat×Array Nat->Shared->Prop}(h1:1<=n)(P:Px n 1 p)(g:∀m p',1<=m->m<=n->Px n m p'->Asc (ltS lt) p' m->Q (m,p') s):(kas_count n p).kasWp cmp Q s:=by
 unfold kas_count;rw[KasT.kasWp_bind];refine uG W A (n-1) 1 (Q5 _) (by omega) P (fun i j a b=>by omega) fun m a b P' c d=>?_;by_cases e:m=n
 ·rw[if_pos (by rw[e];exact beq_self_eq_true n)];exact g m p a (by omega) P' c
 rw[if_neg (by simpa using e)];have d':lt (p.getD m 0) (p.getD (m-1) 0)=true:=by
  rcases d with d|d
  ·omega
  ·exact d
 by_cases z:m>1
 ·rw[if_pos z];refine A _ _ _ (P'.pm.bd _ (by omega)) (P'.pm.bd _ (by omega)) ?_;cases hc:lt (p.getD 0 0) (p.getD (m-1) 0)with
  |true=>
   dsimp only;rw[if_pos rfl];exact g m p a (by omega) P' c
  |false=>
   dsimp only;rw[if_neg Q7];have al:∀i j,i<j->j<m->lt (p.getD i 0) (p.getD j 0)=false/\lt (p.getD j 0) (p.getD i 0)=false/\p.getD i 0<p.getD j 0:=fun i j hij hj=>by
    have n1:∀k,k<m->lt (p.getD k 0) (p.getD 0 0)=false:=fun k hk=>by
     by_cases e0:k=0
     ·subst e0;cases y:lt (p.getD 0 0) (p.getD 0 0)with
      |false=>rfl
      |true=>have:=W.asym (P'.pm.bd 0 (by omega)) (P'.pm.bd 0 (by omega)) y;rw[y]at this;cases this
     ·have:=c 0 k (by omega) hk;rw[dh]at this;rcases this with y|⟨y,_⟩
      ·exact W.asym (P'.pm.bd _ (by omega)) (P'.pm.bd _ (by omega)) y
      ·exact y
    have n2:∀k,k<m->lt (p.getD (m-1) 0) (p.getD k 0)=false:=fun k hk=>by
     by_cases e0:k=m-1
     ·subst e0;cases y:lt (p.getD (m-1) 0) (p.getD (m-1) 0)with
      |false=>rfl
      |true=>have:=W.asym (P'.pm.bd (m-1) (by omega)) (P'.pm.bd (m-1) (by omega)) y;rw[y]at this;cases this
     ·have:=c k (m-1) (by omega) (by omega);rw[dh]at this;rcases this with y|⟨y,_⟩
      ·exact W.asym (P'.pm.bd _ (by omega)) (P'.pm.bd _ (by omega)) y
      ·exact y
    have bi:=P'.pm.bd i (by omega);have bj:=P'.pm.bd j (by omega);have b0:=P'.pm.bd 0 (by omega);have bm:=P'.pm.bd (m-1) (by omega);have k1:∀i j,i<m->j<m->lt (p.getD i 0) (p.getD j 0)=false:=fun i j hi hj=>by
     cases y:lt (p.getD i 0) (p.getD j 0)with
     |false=>rfl
     |true=>
      rcases W.co (P'.pm.bd i (by omega)) b0 (P'.pm.bd j (by omega)) y with x|x
      ·rw[n1 i hi]at x;cases x
      ·rcases W.co b0 bm (P'.pm.bd j (by omega)) x with v|v
       ·rw[hc]at v;cases v
       ·rw[n2 j hj]at v;cases v
    have z1:=k1 i j (by omega) hj;refine⟨z1,k1 j i hj (by omega),?_⟩;have:=c i j hij hj;rw[dh]at this;rcases this with y|⟨_,y⟩
    ·rw[z1]at y;cases y
    ·exact y
   have hm:m<=p.size:=by rw[P'.pm.sz];omega
   refine sR W A a (by omega) (P'.rev (Q5 _) (by omega)) (fun i j hij hj=>?_) ?_ g
   ·rw[eX hm,eX hm,if_pos (by omega),if_pos (by omega)];obtain⟨z1,z2,z3⟩:=al (0+m-1-j) (0+m-1-i) (by omega) (by omega);exact dh.mpr (.inr ⟨z2,z3⟩)
   ·rw[eX hm,eX hm,if_neg (by omega),if_pos (by omega),show 0+m-1-(m-1)=0 by omega];rcases W.co (P'.pm.bd m (by omega)) (P'.pm.bd 0 (by omega)) (P'.pm.bd (m-1) (by omega)) d' with x|x
    ·exact x
    ·rw[hc]at x;cases x
 ·rw[if_neg z];have m1:m=1:=by omega
  subst m1;exact sR W A (Q5 _) (by omega) P' (fun i j a b=>by omega) d' g
theorem lh(W:nR n lt)(A:yi cmp n lt s){k:Nat}(P:Px n k p)(hk:k<n)(hs:Asc (ltS lt) p k):∀(f l r:Nat) {Q:Nat->Shared->Prop},l<=r->r<=k->r-l<=f->(∀i,i<l->ltS lt (p.getD i 0) (p.getD k 0)=true)->(∀i,r<=i->i<k->ltS lt (p.getD k 0) (p.getD i 0)=true)->
  (∀l',l'<=k->(∀i,i<l'->ltS lt (p.getD i 0) (p.getD k 0)=true)->(∀i,l'<=i->i<k->ltS lt (p.getD k 0) (p.getD i 0)=true)->Q l' s)->(kas_place p k f l r).kasWp cmp Q s
 |0,l,r,Q,h1,h2,h3,h4,h5,q=>q l (by omega) h4 fun i a b=>h5 i (by omega) b
 |f+1,l,r,Q,h1,h2,h3,h4,h5,q=>by
  unfold kas_place;by_cases e:l≥r
  ·rw[if_pos e];exact q l (by omega) h4 fun i a b=>h5 i (by omega) b
  ·rw[if_neg e];have hM:(l+r) / 2<k:=by omega
   have bk:=P.pm.bd k hk;have bM:=P.pm.bd ((l+r) / 2) (by omega);refine A _ _ _ bk bM ?_;have gt:p.getD ((l+r) / 2) 0<=p.getD k 0:=by rw[P.hi k (Q5 _) hk];exact Nat.le_of_lt (P.lo _ hM)
   rw[<-CB (lt:=lt) gt];cases hc:ltS lt (p.getD k 0) (p.getD ((l+r) / 2) 0)with
   |true=>
    refine lh W A P hk hs f l ((l+r) / 2) (by omega) (by omega) (by omega) h4 (fun i a b=>?_) q;by_cases e2:i=(l+r) / 2
    ·subst e2;exact hc
    ·exact W.ok.tr bk bM (P.pm.bd _ (by omega)) hc (hs _ i (by omega) b)
   |false=>
    have hc':=W.ok.tot bk bM (P.pm.ne' hk (by omega) (by omega)) hc;refine lh W A P hk hs f ((l+r) / 2+1) r (by omega) (by omega) (by omega) (fun i a=>?_) h5 q;by_cases e2:i=(l+r) / 2
    ·subst e2;exact hc'
    ·exact W.ok.tr (P.pm.bd _ (by omega)) bM bk (hs i ((l+r) / 2) (by omega) hM) hc'
theorem Px.bub{k l:Nat}(P:Px n k p)(hk:k<n)(hl:l<=k):Px n (k+1) (bubble p k (k-l)):=by
 have g:∀i,(bubble p k (k-l)).getD i 0=_:=fun i=>iV (by rw[P.pm.sz];exact hk) hl;refine⟨P.pm.bub hk hl,fun i hi=>?_,fun i a b=>?_⟩
 ·rw[g];have:=P.hi k (Q5 _) hk;split
  ·omega
  ·split
   ·have:=P.lo (i-1) (by omega);omega
   ·have:=P.lo i (by omega);omega
 ·rw[g,if_neg (by omega),if_neg (by omega)];exact P.hi i (by omega) b
theorem ye(W:nR n lt)(A:yi cmp n lt s):∀(f:Nat) (p:Array Nat) (k:Nat) {Q:Array Nat->Shared->Prop},Px n k p->k+f=n->Asc (ltS lt) p k->(∀p',Pm n p'->Asc (ltS lt) p' n->Q p' s)->(kas_bin f p k).kasWp cmp Q s
 |0,p,k,Q,P,h1,h2,q=>q p P.pm (by rw[<-h1];exact h2)
 |f+1,p,k,Q,P,h1,h2,q=>by
  unfold kas_bin;rw[KasT.kasWp_bind];refine lh W A (k:=k) P (by omega) h2 k 0 k (Qe _) (Q5 _) (by omega) (fun i a=>by omega) (fun i a b=>by omega) fun l a b c=>?_;exact ye W A f _ (k+1) (P.bub (by omega) a) (by omega) (h2.bub P.pm (by omega) a b c) q
theorem y8(W:nR n lt)(A:yi cmp n lt s){Q:Array Nat->Shared->Prop}(h1:1<=n)(q:∀p',Pm n p'->Asc (ltS lt) p' n->Q p' s):(kas_sort n).kasWp cmp Q s:=by
 unfold kas_sort;rw[KasT.kasWp_bind];have g:∀i,i<n->(List.toArray (QF n)).getD i 0=i:=fun i hi=>by simp[Array.getD,hi]
 refine wW W A h1 ⟨vJ,fun i hi=>by rw[g i (by omega)];exact hi,fun i _ b=>g i b⟩ fun m p' a b P c=>?_;dsimp only;by_cases e:m<n
 ·rw[if_pos e];rw[show max m 1=m by omega];exact ye W A _ _ _ P (by omega) c q
 ·rw[if_neg e];exact q p' P.pm (by rw[show n=m by omega];exact c)
end
def ltK(ks:List (Int×Int))(i j:Nat):Bool:=ltP (ks.getD i (0,0)) (ks.getD j (0,0))
theorem wkK(n:Nat)(ks:List (Int×Int)):nR n (ltK ks) where
 asym:=fun{i j} _ _ h=>by simp only[ltK,ltP,decide_eq_true_eq,decide_eq_false_iff_not]at *;omega
 co:=fun{i j k} _ _ _ h=>by simp only[ltK,ltP,decide_eq_true_eq]at *;omega
def qO(ks:List (Int×Int)):List Nat:=(QF ks.length).mergeSort fun i j=>!ltS (ltK ks) j i
def f9(ks:List (Int×Int)):(qO ks).Perm (QF ks.length):=List.mergeSort_perm ..
theorem vZ(ks:List (Int×Int)):(qO ks).Pairwise fun i j=>ltS (ltK ks) j i=false:=by
 have ok:=fun i j k:Nat=>(wkK (i+j+k+1) ks).ok;have:=List.pairwise_mergeSort (le:=fun i j=>!ltS (ltK ks) j i) (fun a b c h1 h2=>by
   have O:=ok a b c;simp only[Bool.not_eq_true']at *;by_cases e1:a=b
   ·subst e1;exact h2
   by_cases e2:b=c
   ·subst e2;exact h1
   exact O.asym (by omega) (by omega) (O.tr (by omega) (by omega) (by omega) (O.tot (i:=b) (j:=a) (by omega) (by omega) (fun e=>e1 e.symm) h1) (O.tot (i:=c) (j:=b) (by omega) (by omega) (fun e=>e2 e.symm) h2))) (fun a b=>by
   have O:=ok a b 0;simp only[Bool.or_eq_true,Bool.not_eq_true'];cases h:ltS (ltK ks) b a with
   |false=>exact .inl rfl
   |true=>exact .inr (O.asym (by omega) (by omega) h)) (QF ks.length)
 exact this.imp fun h=>by simpa using h
theorem zP{ks:List (Int×Int)}{q:Array Nat}(P:Pm ks.length q)(A:Asc (ltS (ltK ks)) q ks.length):q.toList=qO ks:=by
 have hl:q.toList.length=ks.length:=by rw[Qv,P.sz]
 have gd:∀i (hi:i<q.toList.length),q.getD i 0=q.toList[i]:=fun i hi=>by
  have hi':i<q.size:=by simpa using hi
  rw[ZJ,Array.getElem?_eq_getElem hi',Array.getElem_toList];rfl
 have O:=(wkK ks.length ks).ok;have p1:q.toList.Pairwise fun i j=>ltS (ltK ks) j i=false:=by
  rw[List.pairwise_iff_getElem];intro i j hi hj hij;have z:=A i j hij (by omega);rw[gd i hi,gd j hj]at z;exact O.asym (mJ P _ (List.getElem_mem _)) (mJ P _ (List.getElem_mem _)) z
 have nd:q.toList.Nodup:=by
  rw[List.nodup_iff_pairwise_ne,List.pairwise_iff_getElem];intro i j hi hj hij;rw[<-gd i hi,<-gd j hj];exact P.ne i j hij (by omega)
 have pr:q.toList.Perm (QF ks.length):=by
  refine(List.perm_ext_iff_of_nodup nd List.nodup_range).mpr fun x=>⟨fun hx=>Qc.mpr (mJ P x hx),fun hx=>?_⟩;refine Classical.byContradiction fun hn=>?_;have:=List.Nodup.length_le_of_subset (ZZ.mpr ⟨hn,nd⟩) (l₂:=QF ks.length) fun y hy=>by
   rcases QC.mp hy with z|z
   ·rw[z];exact hx
   ·exact Qc.mpr (mJ P y z)
  simp only[QJ,List.length_range]at this;omega
 refine List.Perm.eq_of_pairwise (fun a b ha hb h1 h2=>?_) p1 (vZ ks) (pr.trans (f9 ks).symm);refine Classical.byContradiction fun hn=>?_;have:=O.tot (mJ P a ha) (Qc.mp ((f9 ks).mem_iff.mp hb)) hn h2;rw[h1]at this;cases this
section
variable{prog:Program}{w:World}{A:Around}{E:Value->Shared->Prop}{s:Shared}{a kS:Addr}{vs:List Value}{keys:Array Value}{n1 n2:Nat}{R:PySem.Fin->Shared->Prop}{ks:List (Int×Int)}
theorem pY{st:SortSt}(gk:s.heap.get? kS=some (seqObj "list" keys n2))(ga:s.heap.get? a=some (seqObj "list" #[] n1))(hka:kS≠a)(zk:keys.size<=sizeLine)(zs:(arrOf st).size<=sizeLine)(hfl:failedOf st=none)
  (q:∀(h':Heap) (c:Nat),(∀b o,b≠a->b≠kS->s.heap.get? b=some o->h'.get? b=some o)->h'.objs.size=s.heap.objs.size->h'.get? a=some (seqObj "list" ((arrOf st).map (·.2)) c)->R (.done (.ret .none)) { s with heap:=h' }) :
  wpAny (model prog w) A (ksk_tail a false n1 (.ref kS) st) R E s:=by
 have u1:=Heap.SameBut.update s.heap kS (Obj.mapSeq fun _=>(#[]:Array Value));have ga1:=(u1.2 a hka.symm).trans ga;unfold ksk_tail;dsimp only;refine Q2 (listUpdate_at gk rfl (Q2 (wpAny_letGo (Q2 (seqEpoch_at ga1 rfl (Q2 (listUpdate_at ga1 rfl ?_ (Qe _) (Nat.le_succ_of_le (by simpa using zs)))))))) zk (Qe _));rw[hfl];simp only[bne_self_eq_false,ZQ,if_false];have u2:=Heap.SameBut.update (s.heap.update kS (Obj.mapSeq fun _=>(#[]:Array Value))) a (Obj.mapSeq fun _=>(arrOf st).map (·.2));exact QY (q _ _ (fun b o h1 h2 e=>(u2.2 b h1).trans ((u1.2 b h2).trans e)) (by rw[Heap.size_update,Heap.size_update]) (get?_update_seq ga1 fun _=>(arrOf st).map (·.2)))
theorem Ae(gk:s.heap.get? kS=some (seqObj "list" keys n2))(ga:s.heap.get? a=some (seqObj "list" #[] n1))(hka:kS≠a)(hp:hV s.heap keys.toList ks)(hl:ks.length=vs.length)(h64:vs.length<64)
  (q:∀(h':Heap) (c:Nat),(∀b o,b≠a->b≠kS->s.heap.get? b=some o->h'.get? b=some o)->h'.objs.size=s.heap.objs.size->h'.get? a=some (seqObj "list" ((qO ks).map fun i=>vs.getD i Value.none).toArray c)->R (.done (.ret .none)) { s with heap:=h' }) :
  wpAny (model prog w) A (ksk_end a false vs.toArray n1 (.ref kS) keys) R E s:=by
 have lk:=mK hp;rw[Qv]at lk;have zl:vs.length<=sizeLine:=by unfold sizeLine;omega
 unfold ksk_end;dsimp only;simp only[ZQ,if_false,QX];by_cases h2:vs.length<2
 ·rw[if_pos h2,if_pos h2];refine Q2 (QY ?_);rw[StateT.run_pure];refine Q2 (QY (pY (st:=SortSt.mk' general' (keys.zip vs.toArray) #[] 7 none) gk ga hka (by omega) ?_ rfl fun h' c k z g=>q h' c k z ?_))
  ·show(keys.zip vs.toArray).size<=_;rw[Array.size_zip];exact QL (Nat.min_le_left _ _) (by omega)
  ·rw[g];have e:((qO ks).map fun i=>vs.getD i Value.none)=vs:=by
    have pr:=f9 ks;match ks,vs,hl,h2 with
    |[],[],_,_=>rw[List.Perm.eq_nil pr];rfl
    |[k],[v],_,_=>
     have:qO [k]=[0]:=List.perm_singleton.mp pr;rw[this];rfl
    |_::_::_,_::_::_,_,h2=>simp only[QJ]at h2;omega
   have e2:Array.map (fun x=>x.snd) (arrOf (SortSt.mk' general' (keys.zip vs.toArray) #[] 7 none))=vs.toArray:=by
    show(keys.zip vs.toArray).map (·.2)=_;apply Array.toList_inj.mp;rw[Array.toList_map,ksk_zip,List.map_snd_zip (by have:=Qv (xs:=keys);omega)]
   rw[e,e2]
 ·rw[if_neg h2,if_neg h2];have ek:keys=keys.toList.toArray:=by simp
  refine Q2 ?_;rw[ek];refine qM hp (by rw[Qv];omega) ?_;rw[<-ek];refine Q2 (Qh (kat_run (ks:=keys.toList) (vs:=vs) (κ:=tuples' true) (Q:=fun st' s'=>∃p:Array Nat,arrOf st'=Array.map (kas_item (keys.toList.toArray.zip vs.toArray)) p/\failedOf st'=none/\s'=s/\p.size=vs.length/\p.toList=qO ks)
   (G:=fun p s'=>s'=s/\p.toList=qO ks) (by rw[Qv];omega) (by omega) h64 (fun p st' s' h1 h2 h3 h4=>⟨p,h2,h3,h4.1,h1,h4.2⟩) ?_) (fun r s' hr=>?_) fun _ _ e=>e)
  ·refine y8 (lt:=ltK ks) (wkK _ ks) (fun i j C hi hj hC=>?_) (by omega) fun p' P Asc'=>⟨rfl,zP (by rw[hl];exact P) (by rw[hl];exact Asc')⟩;exact zJ (jD hp (by omega)) (jD hp (by omega)) hC
  ·obtain⟨u,st'⟩:=r;obtain⟨p,harr,hfail,rfl,hps,hpo⟩:=hr;have hout:=kat_snds (ks:=keys.toList) (vs:=vs) (by rw[Qv];omega) harr;refine pY gk ga hka (by omega) ?_ hfail fun h' c k z g=>q h' c k z ?_
   ·rw[harr,Array.size_map];omega
   ·rw[g,hout,hpo]
end
def uT(cb:CE)(su:U):List Int->Sto->Option (List (Int×Int)×Sto)
 |[],S=>some ([],S)
 |n::ns,S=>(cb [some (.int n),some su] S).bind fun r=>match r.1 with
  |.tup [.int x,.int y]=>(uT cb su ns r.2).bind fun t=>some ((x,y)::t.1,t.2)
  |_=>none
def oi(ks:List (Int×Int))(ns:List Int):List Int:=(qO ks).map fun i=>ns.getD i 0
open Classical in
def qt(z:O)(k:Nat)(co cb:CE):CE:=fun ρ S=>(co ρ S).bind fun r=>match r.1 with
 |.ref l=>match r.2[l]? with
  |some (.dic kus)=>(lD kus).bind fun ns=>if ns.length<64/\∃j:Nat,r.2[j]?=some z then(ρ[k]?).join.bind fun su=>(uT cb su ns r.2).bind fun t=>some (.ref t.2.length,t.2++[.lst ((oi t.1 ns).map U.int)])else none
  |_=>none
 |_=>none
theorem jo{cb:CE}{su:U}:∀{ns:List Int} {S:Sto} {t:List (Int×Int)×Sto},uT cb su ns S=some t->t.1.length=ns.length
 |[],S,t,h=>by cases h;rfl
 |n::ns,S,t,h=>by
  unfold uT at h;obtain⟨⟨u,S1⟩,h1,h⟩:=Q0.mp h;dsimp only at h;split at h
  ·obtain⟨t',h2,h3⟩:=Q0.mp h;cases h3;simp[jo h2]
  ·cases h
def Du(K:Q1)(H:Hp)(v:Value)(p:Int×Int):Prop:=∃b,v=.ref b/\SqT K H b [.int p.1,.int p.2]
theorem kJ{X:Cx}{pins:List (Addr×Obj)}{σ:L2.St}{H:Hp}{s:Shared}(I:Inv X pins σ H s):∀{vs:List Value} {ks:List (Int×Int)},Paired (Du X.K H) vs ks->hV s.heap vs ks
 |_,_,.nil=>trivial
 |_,_,.cons r t=>by
  refine⟨?_,kJ I t⟩;obtain⟨b,rfl,sq⟩:=r;obtain⟨its,rv,⟨o,e,c,n,d⟩,_⟩:=I.tuple sq;match its,rv,d with
  |[_,_],.cons ⟨t1,rfl⟩ (.cons ⟨t2,rfl⟩ .nil),d=>exact⟨b,o,t1,t2,n,rfl,e,c,d⟩
theorem jF{α β:Type}{F:α->β->Prop}{a:α}{b:β}:∀{l1:List α} {l2:List β},Paired F l1 l2->F a b->Paired F (l1++[a]) (l2++[b])
 |_,_,.nil,h=>.cons h .nil
 |_,_,.cons r t,h=>.cons r (jF t h)
section
variable{X:Cx}{body:PySem.Expr}{cb:CE}{scope:Scope}{params:Arguments}{x pa qual:Str}{k kr:Nat}{cx:Addr}
structure AH(X:Cx)(body:PySem.Expr)(cb:CE)(scope:Scope)(params:Arguments)(x pa qual:Str)(k kr:Nat)(cx:Addr):Prop where
 cel:X.env.cells.lookup x=some cx
 kin:X.env.kindOf x=some .cell
 nm:X.N[k]?=some x
 co:scope.isCoroutine=false
 gen:scope.isGenerator=false
 knd:scope.kind=.function
 nms:scope.names=[(pa,.local),(x,.free)]
 ne:pa≠x
 bnd:∀(cl:List (Str×Addr)) (pm c ctv u:Value),bindArgs (kla_fn "<lambda>" qual params body scope cl pm c ctv) ⟨[u],[]⟩=pure [(pa,u)]
 bdy:∀(f:Addr) (cd:Value) (A:Around) (s:Shared) (H:Hp),eU kr (A.deeper (C9 qual scope s.heap.objs.size f cd [(x,cx)]))->QE (cxL X.prog X.w X.K X.mg X.base [pa,x] qual scope f cd [(x,cx)] A X.stack s H) body cb
theorem wz{A:Around}{pins:List (Addr×Obj)}{σ:L2.St}{ρ:Rho}{H:Hp}{s:Shared}{m:List Addr}{S S':Sto}{f c:Addr}{pm ctv:Value}{n:Int}{t:Tok}{su u:U}{R:Value->Shared->Prop}{E:Value->Shared->Prop}(L:AH X body cb scope params x pa qual k kr cx)
  (hA:oW X.prog X.w X.K X.mg X.base A X.stack s H) (hr:eU (kr+1) A) (I:Inv X pins σ H s) (ho:s.heap.get? f=some (kla_obj "<lambda>" qual params body scope [(x,cx)] pm c ctv)) (hcd:s.heap.CodeRec (.ref c) qual)
  (sr:Sr X.K m S H) (lr:Lr X.K m H ρ σ) (hk:ρ[k]?=some (some su)) (h:cb [some (.int n),some su] S=some (u,S'))
  (q:∀v u' m' H' s',Inv X pins σ H' s'->cu v u'->Ext X.K m H m' H'->Sr X.K m' S' H'->Is X.K m' H' v u->R u' s'):wpAny (model X.prog X.w) A (call (.ref f) [.int n t]) R E s:=by
 obtain⟨sv,hs,iv⟩:=lr.at_ k su hk;obtain⟨mm,hmm,hl⟩:=I.loc;obtain⟨sval,rs,look⟩:=hl k x sv L.nm hs (.inr (.inl L.kin));have cel:s.heap.IsCell cx (some sval):=by
  rcases look with⟨z,_⟩|⟨_,c',e,z⟩
  ·rw[L.kin]at z;cases z
  ·rw[L.cel]at e;cases e;exact z
 have lk:∀y d,([(x,cx)]:List (Str×Addr)).lookup y=some d->y=x/\d=cx:=fun y d e=>by
  rw[Qn]at e;by_cases z:(y == x)=true
  ·rw[z]at e;cases e;exact⟨by simpa using z,rfl⟩
  ·rw[show(y == x)=false by simpa using z]at e;cases e
 have nx:(x == pa)=false:=by simpa using fun e=>L.ne e.symm
 have fr:scope.names.lookup x=some .free:=by rw[L.nms,Qn,nx];simp
 refine wpAny_call (codeAny_mono (z9 (p:=pa) (capN:=[x]) (vc:=[sv]) (v:=.int n) (te:=tE X.K cb) (Q:=fun v H'=>∃m',Ext X.K m H m' H'/\Sr X.K m' S' H'/\Is X.K m' H' v u) hr.depth hA hr.hd ho hcd L.co L.gen L.knd (fun y hy=>?_) ?_ (L.bnd _ _ _ _ _) ⟨t,rfl⟩ (fun y z d a b=>(lk y d a).1.trans (lk z d b).1.symm) (fun y hy=>?_) (fun y d e=>?_) (.cons ⟨fr,cx,sval,?_,cel,rs⟩ .nil) (L.bdy f _ A s H (hr.deeper _)) ?_) fun r s' hr'=>?_)
 ·rw[L.nms]at hy;rcases QC.mp hy with e|hy
  ·rw[e];exact fun z=>nomatch z
  ·rw[Qz.mp hy];exact fun z=>nomatch z
 ·rw[L.nms,Qn];simp
 ·rw[L.nms]at hy;simp only[Qn]at hy;by_cases z1:(y == pa)=true
  ·rw[z1]at hy;rcases hy with e|e<;>cases e
  ·rw[show(y == pa)=false by simpa using z1]at hy;by_cases z2:(y == x)=true
   ·exact⟨cx,by rw[Qn,z2]⟩
   ·rw[show(y == x)=false by simpa using z2]at hy;rcases hy with e|e<;>cases e
 ·obtain⟨rfl,rfl⟩:=lk y d e;exact⟨⟨_,cel⟩,I.freeC _ _ L.cel⟩
 ·rw[Qn];simp
 ·refine⟨m,[some (.int n),some su],S,u,S',sr,⟨rfl,fun i w e=>?_⟩,h,fun m' v H' e sr' i'=>⟨m',e,sr',i'⟩⟩;match i,e with
  |0,e=>simp at e;subst e;exact⟨_,rfl,.int_⟩
  |1,e=>simp at e;subst e;exact⟨_,rfl,iv⟩
  |i+2,e=>simp at e
 ·obtain⟨u',rfl,ce⟩:=hr';obtain⟨v,H',I',rv,m',e,sr',i'⟩:=I.after ce;exact q v u' m' H' s' I' rv e sr' i'
theorem wC{A:Around}{pins:List (Addr×Obj)}{σ:L2.St}{ρ:Rho}{H:Hp}{s:Shared}{m:List Addr}{S Sn:Sto}{f c a kS:Addr}{pm ctv:Value}{su:U}{E:Value->Shared->Prop}{vs:List Value}{ns:List Int}{ks:List (Int×Int)}{e1:Nat}{oc:Obj}{R:PySem.Fin->Shared->Prop}(L:AH X body cb scope params x pa qual k kr cx)
  (hE:∀s H,oW X.prog X.w X.K X.mg X.base X.A X.stack s H->oW X.prog X.w X.K X.mg X.base A X.stack s H) (hr:eU (kr+1) A) (I:Inv X ((f,kla_obj "<lambda>" qual params body scope [(x,cx)] pm c ctv)::(a,seqObj "list" #[] e1)::pins) σ H s) (hc:H c=some (.frz oc (.own 0))) (hcd:s.heap.CodeRec (.ref c) qual)
  (sr:Sr X.K m S H) (lr:Lr X.K m H ρ σ) (hk:ρ[k]?=some (some su)) (h:uT cb su ns S=some (ks,Sn)) (hI:IntsAre vs ns) (h64:vs.length<64) (gk:s.heap.get? kS=some (seqObj "list" #[] 0)) (nk:H kS=none) (hka:kS≠a) (h0:X.s₀.heap.objs.size<=kS) (hL:kS≠X.env.locals) (hce:∀y d,X.env.cells.lookup y=some d->d≠kS) (hp:∀q∈X.pn++pins,q.1≠kS) (hf:f≠kS)
  (q:∀m' H' s' h' c',Inv X ((f,kla_obj "<lambda>" qual params body scope [(x,cx)] pm c ctv)::(a,seqObj "list" #[] e1)::pins) σ H' s'->Ext X.K m H m' H'->Sr X.K m' Sn H'->H' kS=none->(∀b o,b≠a->b≠kS->s'.heap.get? b=some o->h'.get? b=some o)->h'.objs.size=s'.heap.objs.size->h'.get? a=some (seqObj "list" ((qO ks).map fun i=>vs.getD i Value.none).toArray c')->R (.done (.ret .none)) { s' with heap:=h' }) :
  wpAny (model X.prog X.w) A (ksk_rest a (.ref f) false vs.toArray e1 (.ref kS)) R E s:=by
 have lk:=jo h;have lv:=hI.length;dsimp only at lk;unfold ksk_rest;refine Q2 (wpAny_rule ?_);rw[List.forIn_toArray];refine Q2 (ksk_fold (fun i s'=>∃m' S' H' kA e,Inv X ((f,kla_obj "<lambda>" qual params body scope [(x,cx)] pm c ctv)::(a,seqObj "list" #[] e1)::pins) σ H' s'/\Ext X.K m H m' H'/\Sr X.K m' S' H'/\uT cb su (ns.drop i) S'=some (ks.drop i,Sn)/\s'.heap.get? kS=some (seqObj "list" kA e)/\H' kS=none/\Paired (Du X.K H') kA.toList (ks.take i)) vs 0 s
  ⟨m,S,H,#[],0,I,.refl,sr,h,gk,nk,.nil⟩ ?_ ?_)
 ·rintro j v s' hv ⟨m',S',H',kA,e,I',ex,sr',run,gk',nk',pr⟩;simp only[Nat.zero_add]at run pr ⊢;have hj:j<vs.length:=(Q4.mp hv).1;have hjn:j<ns.length:=by omega
  obtain⟨t,ht⟩:=hI.get j ns[j] (QV hjn);rw[hv]at ht;cases ht;rw[List.drop_eq_getElem_cons hjn]at run;unfold uT at run;obtain⟨⟨u,S1⟩,r1,run⟩:=Q0.mp run;dsimp only at run;split at run<;>try cases run
  rename_i y z;obtain⟨t2,r2,r3⟩:=Q0.mp run;have hjk:j<ks.length:=by omega
  rw[List.drop_eq_getElem_cons hjk]at r3;injection r3 with r3;obtain⟨e2,e3⟩:=Prod.mk.inj r3;obtain⟨e4,e5⟩:=List.cons.inj e2;have gc:=(I'.hok c _ (ex.keep.c _ _ hc)).1;have hcd':s'.heap.CodeRec (.ref c) qual:=by
   obtain⟨c2,o2,vs2,t3,z1,z2,z3⟩:=hcd;cases z1;rw[(I.hok c _ hc).1]at z2;cases z2;exact⟨c,oc,vs2,t3,rfl,gc,z3⟩
  have pf:=I'.pin _ (QK _ (QB));refine Q2 (wpAny_attempt (Qh (wz (E:=fun _ _=>False) L (hE _ _ I'.env0) hr (I'.pins_of (pins':=(kS,seqObj "list" kA e)::(f,kla_obj "<lambda>" qual params body scope [(x,cx)] pm c ctv)::(a,seqObj "list" #[] e1)::pins) fun p hp'=>?_) pf.1 hcd' sr' (lr.mono ex) hk r1 (R:=fun u' s2=>∃v m2 H2,Inv X ((kS,seqObj "list" kA e)::(f,kla_obj "<lambda>" qual params body scope [(x,cx)] pm c ctv)::(a,seqObj "list" #[] e1)::pins) σ H2 s2/\cu v u'/\Ext X.K m' H' m2 H2/\Sr X.K m2 S1 H2/\Is X.K m2 H2 v (.tup [.int y,.int z])) fun v u' m2 H2 s2 a1 a2 a3 a4 a5=>⟨v,m2,H2,a1,a2,a3,a4,a5⟩) (fun u' s2 hq=>?_) fun _ _ z=>z.elim))
  ·rcases QC.mp hp' with z|hp'
   ·subst z;exact⟨gk',nk',hL,fun w=>by
     obtain⟨_,o,ho,_⟩:=I.ok.funs.mem w;exact absurd (QR (Q9 ho) h0) (Qt _),fun w z=>nomatch z⟩
   ·exact I'.pin p (QK _ hp')
  ·obtain⟨v,m2,H2,I2,rv,ex2,sr2,iv⟩:=hq;obtain⟨b,xs,rfl,sq,il⟩:=iv.of_tup;obtain rfl:u'=.ref b:=rv;have hxs:xs=[.int y,.int z]:=(il.ints (ns:=[y,z]));subst hxs;obtain⟨gk2,nk2,_⟩:=I2.pin _ (QK _ (QB));have zk:kA.size<=vs.length:=by
    have:=pr.length;rw[Qv,List.length_take]at this;omega
   have u1:=Heap.SameBut.update s2.heap kS (Obj.mapSeq (·.push (.ref b)));dsimp only;refine Q2 (listUpdate_at gk2 rfl (QY ⟨rfl,m2,S1,H2,kA.push (.ref b),_,?_,ex.trans ex2,sr2,?_,get?_update_seq gk2 (·.push (.ref b)),nk2,?_⟩) (by unfold sizeLine;omega) (QL (Nat.le_of_eq (Array.size_push ..)) (by unfold sizeLine;omega)))
   ·have I3:Inv X ((f,kla_obj "<lambda>" qual params body scope [(x,cx)] pm c ctv)::(a,seqObj "list" #[] e1)::pins) σ H2 s2:=I2.pins_of fun p hp'=>I2.pin p (QK _ (Q8 _ hp'));refine I3.turned (t':=s2.toks) (it:=kS) (fun b o nb e=>(u1.2 b nb).trans e) nk2 hL (.inr h0) hce fun p hp'=>?_;rcases Qb.mp hp' with w|w
    ·exact hp p (List.mem_append_left _ w)
    ·rcases QC.mp w with w|w
     ·rw[w];exact hf
     ·rcases QC.mp w with w|w
      ·rw[w];exact Ne.symm hka
      ·exact hp p (QK _ w)
   ·rw[<-e5,<-e3];exact r2
   ·rw[List.take_add_one,QV hjk,<-e4];simp only[Option.toList_some,Array.toList_push];exact jF (Paired.mapP pr fun v p ⟨b,z1,z2⟩=>⟨b,z1,ex2.keep.t _ _ z2⟩) ⟨b,rfl,sq⟩
 ·rintro s' ⟨m',S',H',kA,e,I',ex,sr',run,gk',nk',pr⟩;simp only[Nat.zero_add]at run pr;rw[show ns.drop vs.length=[]from List.drop_eq_nil_of_le (by omega),show ks.drop vs.length=[]from List.drop_eq_nil_of_le (by omega)]at run;unfold uT at run;injection run with run;obtain⟨_,e3⟩:=Prod.mk.inj run;subst e3;rw[List.take_of_length_le (by omega)]at pr;have pa':=I'.pin _ (QK _ (Q8 _ (QB)));refine Q2 (listItems_at gk' rfl (Ae gk' pa'.1 hka (kJ I' pr) (by omega) h64 fun h' c' k1 k2 k3=>q m' H' s' h' c' I' ex sr' nk' k1 k2 k3))
theorem xc{acc:Array Value}{ns:List Int}{vs:List (Key×Value)}(ks:vs.map (·.1)=ns.map Sum.inl)(h1:acc.size=vs.length)(h2:∀(i:Nat) (v:Value),acc[i]?=some v->∃k x,vs[i]?=some (k,x)/\mW k v=true):IntsAre acc.toList ns:=by
 have key:∀(i:Nat) (v:Value),acc.toList[i]?=some v->∃(n:Int) (t:Tok),ns[i]?=some n/\v=Value.int n t:=fun i v e=>by
  obtain⟨k,x,e1,e2⟩:=h2 i v (by rw[<-Array.getElem?_toList];exact e);have e3:(vs.map (·.1))[i]?=some k:=by rw[Qq,e1];rfl
  rw[ks,Qq]at e3;obtain⟨n,e4,e5⟩:=Qo.mp e3;subst e5;rcases bo (k:=Sum.inl n) e2 with⟨j,t,e6,e7⟩|⟨j,t,e6,e7⟩
  ·cases e6;exact⟨n,t,e4,e7⟩
  ·cases e6
 have hla:acc.toList.length=ns.length:=by have:=congrArg List.length ks;rw[Qv,h1];simpa using this
 clear h2 h1 ks;generalize acc.toList=l at key hla;induction l generalizing ns with
 |nil=>cases ns with
  |nil=>exact .nil
  |cons a b=>simp at hla
 |cons a b ih=>cases ns with
  |nil=>simp at hla
  |cons c d=>
   obtain⟨n,t,e1,e2⟩:=key 0 a (by simp);simp at e1;subst e1;subst e2;exact .cons _ t (ih (fun i v e=>by have:=key (i+1) v (by simpa using e);simpa using this) (by simpa using hla))
theorem _root_.L2.Inv.turnedC{X:Cx}{pins:List (Addr×Obj)}{σ:L2.St}{H:Hp}{s:Shared}{h':Heap}(ch:List Addr)(I:Inv X pins σ H s)(k:∀b o,b∉ch->s.heap.get? b=some o->h'.get? b=some o)
  (hc:∀b∈ch,H b=none/\b≠X.env.locals/\X.s₀.heap.objs.size<=b/\(∀x c,X.env.cells.lookup x=some c->c≠b)/\∀p∈X.pn++pins,p.1≠b):Inv X pins σ H { s with heap:=h' }:=by
 have nit:∀b u,H b=some u->b∉ch:=fun b u e z=>by rw[(hc b z).1]at e;cases e
 refine I.step (g':=s.gens) (d':=s.drawn) (t':=s.toks) (ch:=ch) (fun b hb=>⟨.inr (hc b hb).2.2.1,(hc b hb).2.1,(hc b hb).2.2.2.1,(hc b hb).2.2.2.2⟩) (fun b o _ _ hb e _=>k b o hb e) (fun b o _ _ hb e _=>⟨o.slots,k b o hb e⟩) (fun _ _ _ _ n=>n)
  (fun b o hb e=>⟨o,k b o hb e⟩) (fun _ _ e=>e) (fun _ _ _ e=>e) (fun b ps e=>⟨#[],by rw[e];simp⟩) (fun m hm=>?_) (fun b u e=>?_) I.bare
 ·obtain⟨o,es,ep,ho,r⟩:=hm;exact⟨o,es,ep,k _ o (fun z=>(hc _ z).2.1 rfl) ho,r⟩
 ·refine(I.hok b u e).stay (fun c v hc' q=>k c v ?_ q) (fun _ q=>q) fun _ _ q=>q;rcases hc' with rfl|z
  ·exact nit _ _ e
  ·exact nit _ _ z
def j3{a b:Nat}(h:a<b):a≠b:=QD h
def oj{a b:Nat}(h:b<a):a≠b:=Nat.ne_of_gt h
abbrev lN(a b:Nat):Prop:=a<b
theorem zh{o:PySem.Expr}{co:CE}{c p:Addr}{p1 lpos kpos pos:Pos}(L:AH X body cb scope params x pa (X.env.qual++"<lambda>") k kr cx)(hr:eU (kr+3) X.A)(hcm:X.calm=true)(hg:Gl X "sorted")(hm:X.mg "sorted"=none)(hv:bootBuiltins "sorted"=some (.builtin "sorted"))(ho:QE X o co)
  (hcode:X.env.code=.ref c) (C:codeHdIn X.K c p=true) (B:uS X.mg X.base) (hcl:closureFor scope X.env=pure [(x,cx)]) (hdef:defaultsOf params X.env=([],[]))
  (he:starEach [o] X.env=(false,eval o X.env)::starEach [] X.env:=by rfl) (hpl:(backTo pos (starEach [o] X.env)).any (·.1)=false:=by rfl) :
  QE X (.Call (.Name "sorted" p1) [o] [⟨some "key",.Lambda params body scope lpos,kpos⟩] pos) (qt (.cod p lpos (X.env.qual++"<lambda>")) k co cb):=⟨fun pins s σ H Q I hz=>kg hz fun m ρ S u S' sr lr hc post=>by
 obtain⟨⟨w,S1⟩,h1,hc⟩:=Q0.mp hc;dsimp only at hc;split at hc<;>try cases hc
 rename_i l;split at hc<;>try cases hc
 rename_i kus hS;obtain⟨ns,hn,hc⟩:=Q0.mp hc;split at hc<;>try cases hc
 rename_i cond;obtain⟨h64,j,hj⟩:=cond;obtain⟨su,hk,hc⟩:=Q0.mp hc;obtain⟨⟨ks,Sn⟩,run,hc⟩:=Q0.mp hc;injection hc with hc;obtain⟨rfl,rfl⟩:=Prod.mk.inj hc;have hk':ρ[k]?=some (some su):=Option.join_eq_some_iff.mp hk;refine wpAny_Call_Name_kw (pW I hg hm hv (callWith_kw (thn ((ah ho aF he).h.h pos pins s σ H (fun vs H1=>∃m1,Ext X.K m H m1 H1/\Sr X.K m1 S1 H1/\IsL X.K m1 H1 vs [.ref l]) I ⟨m,ρ,S,[.ref l],S1,sr,lr,?_,fun m1 vs H1 e sr1 i1=>⟨m1,e,sr1,i1⟩⟩) fun us s1 hu=>?_) (by rw[he];rfl) hpl))
 ·simp[ag,aH,h1]
 obtain⟨vs,H1,I1,rv,m1,e1,sr1,il⟩:=hu;obtain⟨v,rfl,iv⟩:=il.one;obtain⟨ad,had,rfl⟩:=iv.of_ref;obtain⟨uv,rfl,ru⟩:=n5 rv;obtain rfl:uv=.ref ad:=ru;obtain⟨aj,haj,rfl,ps,hps,htr,hit⟩:=sr1.get hj;have kI:X.K.In X.base:=I.mod.kin;refine kws_cons (kla_eval hdef (wy I1 hcode (codeHd_of_K kI C) B hps htr hcl hit fun f c' pm ctv ps' H2 s2 I2 hsz nf gf hcd keep hp2 ht2 hit2 rest hnc=>kws_nil ?_));obtain⟨oc,vsc,tc,ha1,ha2,ha3,ha4⟩:=hit2;have st:Ext X.K m1 H1 m1 H2/\Sr X.K m1 S1 H2:=by
  rcases hnc with hnc|rfl
  ·have ncp:c'≠aj:=fun z=>by rw[z,hps]at hnc;cases hnc
   have eH:H2=upd (upd H1 c' (.frz oc (.own 0))) aj (.tbl ps'):=by
    funext b;by_cases b1:b=aj
    ·subst b1;rw[aI];exact hp2
    ·rw[aK b1];by_cases b2:b=c'
     ·subst b2;rw[aI];exact ha2
     ·rw[aK b2];exact rest b b1 b2
   have sA:=gw (o:=.frz oc (.own 0)) hnc;have srA:=sr1.same sA;have srB:=srA.put (ho:=.tbl ps') (o:=.cod aj lpos (X.env.qual++"<lambda>")) haj ⟨rfl,ps',aI,ht2,.inr ⟨c',oc,vsc,tc,ha1,by rw[aK ncp,aI],ha3,ha4⟩⟩;have eS:S1.set j (.cod aj lpos (X.env.qual++"<lambda>"))=S1:=by
    obtain⟨hlt,e⟩:=Q4.mp hj;rw[<-e];exact List.set_getElem_self hlt
   rw[eS]at srB;rw[eH];exact⟨Ext.trans (.of (cI sA)) (.of (srA.keep haj _)),srB⟩
  ·exact⟨.refl,sr1⟩
 obtain⟨e2,sr2⟩:=st;obtain⟨ad',had',kvs,hD,ip⟩:=sr2.get hS;rw[had]at had';cases had';obtain⟨z,hd,vd,rel,dd⟩:=uh I2.hok hD;obtain⟨ep,da⟩:=dd.dictAt;have hkk:kvs.map (·.1)=ns.map Sum.inl:=by rw[ip.1,lC hn]
 have lkv:kvs.length=ns.length:=by have:=congrArg List.length hkk;simpa using this
 have lv:vd.length=ns.length:=by rw[<-Paired.length rel];exact lkv
 have kd:vd.map (·.1)=ns.map Sum.inl:=by rw[<-hkk];exact ox rel
 show wpAny (model X.prog X.w) X.A (call (.builtin "sorted") [.ref ad] [(Str.ofString "key",.ref f)]) _ _ s2;refine call_function_entry_kw kind_sorted plain_sorted entry_sorted (ksk_s1 _ _) ?_;unfold Builtin.«sorted»;refine Q2 (m:=checkCount "sorted" 1 1 _) (QY (Q2 (PySem.W.kdu_collect (PySem.W.kdl_dict (kvs:=vd) (ep:=ep) hd) (show X.A.in1.handled=none from I.ok.hd hcm) da (by rw[lv,<-lkv];exact z) fun h1' tk acc up hac=>?_)));have hI:=xc kd hac.1 hac.2;have hla:acc.toList.length=ns.length:=hI.length;have I3:Inv X pins σ H2 { s2 with heap:=h1',toks:=tk }:=I2.kept up;refine Q2 (wpAny_newList ?_ (by rw[hla,<-lkv];exact z));have gL:(h1'.push { cls:=.type "list",data:=.seq acc.toList.toArray }).get? h1'.objs.size=some (seqObj "list" acc.toList.toArray 0):=QN _ rfl;refine Q2 (wpAny_holding (wpAny_call_entry_kw slot_list_sort ⟨_,gL,rfl⟩ entry_list_sort ?_ (ksk_l1 _ _)));rw[ksk_t1];generalize ea:h1'.objs.size=a at *;have zl:acc.toList.length<=sizeLine:=by unfold sizeLine;omega
 unfold ksk_tree;obtain⟨n1,g1⟩:∃n1,((h1'.push { cls:=.type "list",data:=.seq acc.toList.toArray }).update a (Obj.mapSeq fun _=>#[])).get? a=some (seqObj "list" #[] n1):=⟨_,get?_update_seq gL fun _=>#[]⟩;refine Q2 (listItems_at gL rfl (Q2 (listUpdate_at gL rfl (Q2 (seqEpoch_at g1 rfl (Q2 (wpAny_newTuple (Q2 (wpAny_newList (wpAny_holding ?_) (Qe _))) (by simpa using zl))))) (by simpa using zl) (Qe _))));have sz:((h1'.push { cls:=.type "list",data:=.seq acc.toList.toArray }).update a (Obj.mapSeq fun _=>(#[]:Array Value))).objs.size=a+1:=by rw[Heap.size_update,Heap.size_push,ea]
 generalize eh:(((h1'.push { cls:=.type "list",data:=.seq acc.toList.toArray }).update a (Obj.mapSeq fun _=>(#[]:Array Value))))=h2 at *;have keep2:∀b o,h1'.get? b=some o->h2.get? b=some o:=fun b o e=>by
  have lt:=Q9 e;rw[<-eh,Heap.get?_update_ne _ _ _ _ (j3 (by rw[<-ea];exact lt))];exact Q3 _ e
 have keep4:∀b o,h1'.get? b=some o->((h2.push (seqObj "tuple" acc.toList.toArray 0)).push (seqObj "list" #[] 0)).get? b=some o:=fun b o e=>Q3 _ (Q3 _ (keep2 b o e));have szk:(h2.push (seqObj "tuple" acc.toList.toArray 0)).objs.size=a+2:=by rw[Heap.size_push,sz]
 have I4:Inv X pins σ H2 { s2 with heap:=(h2.push (seqObj "tuple" acc.toList.toArray 0)).push (seqObj "list" #[] 0),toks:=tk }:=I3.kept keep4;have loc:lN X.env.locals a:=by have:=I3.lt;rw[<-ea];exact this
 have s0:@LE.le Nat _ X.s₀.heap.objs.size a:=by have:=I3.sz;rw[<-ea];exact this
 have cel:∀y d,X.env.cells.lookup y=some d->lN d a:=fun y d e=>by
  obtain⟨v,o,ho,_⟩:=I3.cell y d e;rw[<-ea];exact Q9 ho
 have pnl:∀q∈X.pn++pins,lN q.1 a:=fun q hq=>by rw[<-ea];exact Q9 (I3.pin q hq).1
 have frl:∀b:Nat,@LE.le Nat _ a b->b∉X.fs:=fun b hb w=>by
  obtain⟨_,o,ho,_⟩:=I.ok.funs.mem w;exact absurd (QR (Q9 ho) (QL s0 hb)) (Qt _)
 have fa:lN f a:=by rw[<-ea];exact Q9 (up _ _ gf)
 have ff:f∉X.fs:=fun w=>by
  obtain⟨_,o,ho,_⟩:=I.ok.funs.mem w;exact absurd (QR (Q9 ho) (QL I1.sz hsz)) (Qt _)
 have fl:f≠X.env.locals:=oj (QR I1.lt hsz);have I5:=I4.pins_of (pins':=(f,kla_obj "<lambda>" (X.env.qual++"<lambda>") params body scope [(x,cx)] pm c' ctv)::(a,seqObj "list" #[] n1)::pins) fun q hq=>by
  rcases QC.mp hq with w|hq
  ·subst w;exact⟨keep4 _ _ (up _ _ gf),nf,fl,ff,fun v z=>nomatch z⟩
  ·rcases QC.mp hq with w|hq
   ·subst w;exact⟨Q3 _ (Q3 _ g1),I3.hok.fresh (by rw[ea];exact Q5 _),oj loc,frl a (Q5 _),fun v z=>nomatch z⟩
   ·exact I4.pin q (QK _ hq)
 have hcd4:((h2.push (seqObj "tuple" acc.toList.toArray 0)).push (seqObj "list" #[] 0)).CodeRec (.ref c') (X.env.qual++"<lambda>"):=⟨c',oc,vsc,tc,rfl,keep4 _ _ (up _ _ (I2.hok c' _ ha2).1),ha3,ha4⟩;refine wC (E:=X.xe) (s:={ s2 with heap:=(h2.push (seqObj "tuple" acc.toList.toArray 0)).push (seqObj "list" #[] 0),toks:=tk }) L (fun s H e=>e.in1.in1) hr.in1.in1 I5 ha2 hcd4 sr2 ((lr.mono e1).mono e2) hk' run hI (by omega) (kS:=(h2.push (seqObj "tuple" acc.toList.toArray 0)).objs.size) (QN _ rfl) (I3.hok.fresh (show @LE.le Nat _ h1'.objs.size _ by rw[ea,szk];omega)) (oj (by rw[szk];omega)) (show @LE.le Nat _ _ _ by rw[szk];omega) (oj (by rw[szk];omega)) (fun y d e=>j3 (by rw[szk];have:=cel y d e;omega)) (fun q hq=>j3 (by rw[szk];have:=pnl q hq;omega)) (j3 (by rw[szk];omega)) fun m3 H3 s3 h3 c3 I6 e3 sr3 nk3 k1 k2 k3=>?_;refine⟨_,rfl,QY ⟨_,rfl,?_⟩⟩;have pa':=I6.pin (a,seqObj "list" #[] n1) (QK _ (Q8 _ QB));have I7:Inv X pins σ H3 s3:=I6.pins_of fun q hq=>I6.pin q (QK _ (Q8 _ (Q8 _ hq)));have I8:Inv X pins σ H3 { s3 with heap:=h3 }:=Inv.turnedC [a,(h2.push (seqObj "tuple" acc.toList.toArray 0)).objs.size] I7 (fun b o hb e=>k1 b o (fun z=>hb (by simp[z])) (fun z=>hb (by simp[z])) e) fun b hb=>by
  rcases QC.mp hb with w|hb
  ·subst w;exact⟨pa'.2.1,oj loc,s0,fun y d e=>j3 (cel y d e),fun q hq=>j3 (pnl q hq)⟩
  ·rw[Qz.mp hb,szk];exact⟨by rw[<-szk];exact nk3,oj (by omega),show @LE.le Nat _ _ _ by omega,fun y d e=>j3 (by have:=cel y d e;omega),fun q hq=>j3 (by have:=pnl q hq;omega)⟩
 have lo:∀i∈qO ks,i<ns.length:=fun i hi=>by
  have:=Qc.mp ((f9 ks).mem_iff.mp hi);rw[jo run]at this;exact this
 have vl:bK ((oi ks ns).map V.int) ((qO ks).map fun i=>acc.toList.getD i Value.none):=by
  unfold oi;generalize qO ks=is at lo;induction is with
  |nil=>exact .nil
  |cons i r ih=>
   refine .cons ?_ (ih fun b hb=>lo b (Q8 _ hb));have hi:=lo i QB;obtain⟨t,ht⟩:=hI.get i ns[i] (QV hi);dsimp only;rw[ZV,ZV,ht,QV hi];exact⟨t,rfl⟩
 have lz:((oi ks ns).map V.int).length<=sizeLine:=by
  have:=(f9 ks).length_eq;rw[List.length_range,jo run]at this;rw[QZ];unfold oi;rw[QZ,this];unfold sizeLine;omega
 have I9:=I8.adopt (c:=a) (u:=.lst ((oi ks ns).map V.int)) ⟨lz,_,c3,vl,k3⟩ pa'.2.1 s0 (oj loc) (fun y d e=>j3 (cel y d e)) (fun q hq=>j3 (pnl q hq));exact⟨.ref a,_,I9,rfl,eD sr3 (jt _) (post.mono (((e1.trans e2).trans e3))) pa'.2.1⟩⟩
end
end OP
namespace L2
open PySem PySem.Spec PyProof.Rows OG
def xi(p:Addr)(H:Hp):Prop:=H p=some (.tbl #[])/\∀b,b≠p->H b=none\/∃o xs,H b=some (.frz o (.lst xs))
theorem tJ{P:Program}{w:World}{K:Q1}{mg mb:Str->Option Value}{k:Nat}{fa a p:Addr}{fd:FuncData}{x:Str}{sp:Sp}{s₁:Shared}{vs:List Value}{ns:List Int}
  (KX:K.In s₁.heap) (hns:s₁.heap.Ns mainGlobals mg) (hb:s₁.heap.Ns builtinsNs mb) (hbb:∀x:Str,x≠"__name__"->mb x=bootBuiltins x) (hlim:s₁.heap.NoLimit) (hg:s₁.gens=#[]) (hbm:uS mg s₁.heap)
  (hp:s₁.heap.get? p=some (PySem.W.tabObj #[])) (hpK:K.lookup p=none) (hpc:isCodeTable s₁.heap p)
  (ha:s₁.heap.get? a=some { cls:=.type "list",data:=.seq vs.toArray }) (hi:IntsAre vs ns) (hl:ns.length<=sizeLine) (hr:eU k callerA)
  (F:∀base:Heap,K.In base->base.Ns mainGlobals mg->uS mg base->je P w K mg base CX0 k fa fd [x] sp) (hbind:∀(s:Shared) (u:Value),BindsTo s fd ⟨[u],[]⟩ [(x,u)])
  (hsp:∀H:Hp,xi p H->SqL K H a (ns.map V.int)->sp [.ref a] H (fun v _=>v=.bl true) fun _ _ _=>False) :
  codeAny (model P w) callerA (.call (.ref fa) ⟨[.ref a],[]⟩) (fun r s'=>r=.ok (.ret (.bool true))/\OldK s₁.heap s'.heap/\s'.os=s₁.os/\AllBare s'.gens) s₁:=by
 have rv:=fR hi;have lenV:=hi.length;have nap:a≠p:=fun z=>by rw[z,hp]at ha;cases ha
 have core:∀H:Hp,xi p H->SqL K H a (ns.map V.int)->HOk P w H s₁.heap->(∀b,H b≠none->b=a\/b=p)->(H a≠none->K.lookup a=none)->
   codeAny (model P w) callerA (.call (.ref fa) ⟨[.ref a],[]⟩) (fun r s'=>r=.ok (.ret (.bool true))/\OldK s₁.heap s'.heap/\s'.os=s₁.os/\AllBare s'.gens) s₁:=by
  intro H hO hS hok hA hK;have noA:∀{b:Addr} {o:Obj},s₁.heap.get? b=some o->(∀its n,o.data≠.seq its n)->(∀vs,o.data≠.fields vs)->H b=none:=fun{b o} e d1 d2=>by
   cases q:H b with
   |none=>rfl
   |some u=>
    rcases hA b (by rw[q];simp)with z|z
    ·subst z;rw[ha]at e;cases e;exact absurd rfl (d1 _ _)
    ·subst z;rw[hp]at e;cases e;exact absurd rfl (d2 _)
  have nsK:∀{b:Addr} {m:Str->Option Value},s₁.heap.Ns b m->(wJ s₁.heap H).Ns b m:=fun{b m} ⟨o,es,ep,e,d,r⟩=>⟨o,es,ep,lG e (noA e (by rw[d];intro _ _ z;cases z) (by rw[d];intro _ z;cases z)),d,r⟩;have hKb:K.In (wJ s₁.heap H):=fun b o e=>lG (KX b o e) (by
   cases q:H b with
   |none=>rfl
   |some u=>
    rcases hA b (by rw[q];simp)with z|z
    ·subst z;rw[hK (by rw[q];simp)]at e;cases e
    ·subst z;rw[hpK]at e;cases e)
  have hM:Mod K mg (wJ s₁.heap H):=⟨hKb,nsK hns,⟨mb,nsK hb,hbb⟩,let ⟨mc,h1,h2⟩:=hlim;⟨mc,nsK h1,h2⟩⟩;have hB:uS mg (wJ s₁.heap H):=by
   obtain⟨bm,ob,b1,b2,b3,b4,b5,b6⟩:=hbm;exact⟨bm,ob,b1,b2,lG b3 (noA b3 (by rw[b6];intro _ _ z;cases z) (by rw[b6];intro _ z;cases z)),b4,b5,b6⟩
  have e0:oW P w K mg (wJ s₁.heap H) callerA [] s₁ H:=⟨rfl,hM,fun b o e=>zV e,Nat.le_of_eq (t8 _ _),trivial,fun b hb=>absurd (show b∈([]:List Addr)from hb) (by simp),hok,.of_eq hg⟩;refine codeAny_mono ((F _ hKb (nsK hns) hB).run callerA [] s₁ H ⟨[.ref a],[]⟩ [.ref a] [.ref a] _ _ hr e0 (hbind s₁ (.ref a)) (.cons rfl .nil) (hsp H hO hS)) fun r s' h=>?_;cases r with
  |error e=>exact h.elim
  |ok fl=>
   cases fl with
   |next=>exact False.elim h
   |brk=>exact False.elim h
   |cont=>exact False.elim h
   |ret u=>
    obtain⟨v,H',os,bare,un,hok',r',q⟩:=h;have q':v=.bl true:=q;subst q';obtain rfl:u=Value.bool true:=r';have kp:∀b o,b≠p->s₁.heap.get? b=some o->s'.heap.get? b=some o:=fun b o nb e=>by
     cases q:H b with
     |none=>exact un.keep b o e q (by intro z;exact absurd (show b∈([]:List Addr)from z) (by simp)) (by simp)
     |some u=>
      rcases hO.2 b nb with z|⟨ob,xs,z⟩
      ·rw[q]at z;cases z
      ·have z2:=un.frzs b ob _ z;obtain⟨e1,_⟩:=hok b _ z;obtain⟨e2,_⟩:=hok' b _ z2;rw[e]at e1;cases e1;exact e2
    obtain⟨more,hm⟩:=un.tbls p _ hO.1;have gp:s'.heap.get? p=some { cls:=.none,data:=.fields (#[]++more) }:=hok' p _ hm;refine⟨rfl,⟨fun b o e=>?_,fun b o e=>?_⟩,os,bare⟩
    ·by_cases z:b=p
     ·subst z;rw[hp]at e;cases e;exact .inr (.inl ⟨hpc,rfl,#[],more,rfl,gp⟩)
     ·exact .inl (kp b o z e)
    ·by_cases z:b=p
     ·subst z;exact⟨_,gp⟩
     ·exact⟨o,kp b o z e⟩
 cases hk:K.lookup a with
 |some o=>
  have e:=KX a o hk;rw[ha]at e;cases e;refine core (upd (fun _=>none) p (.tbl #[])) ⟨aI,fun b nb=>.inl (by rw[aK nb])⟩ (.inr ⟨_,vs.toArray,_,hk,rfl,rfl,rfl,by rw[QX,lenV];exact hl,by simpa using rv⟩) (fun b u z=>?_) (fun b z=>?_) fun z=>absurd (by rw[aK nap]) z
  ·by_cases nb:b=p
   ·subst nb;rw[aI]at z;cases z;exact hp
   ·rw[aK nb]at z;cases z
  ·by_cases nb:b=p
   ·exact .inr nb
   ·exact absurd (by rw[aK nb]) z
 |none=>
  refine core (upd (upd (fun _=>none) a (.frz { cls:=.type "list",data:=.seq vs.toArray } (.lst (ns.map V.int)))) p (.tbl #[])) ⟨aI,fun b nb=>?_⟩ (.inl (.inr ⟨{ cls:=.type "list",data:=.seq vs.toArray },by rw[aK nap];exact aI⟩)) (fun b u z=>?_) (fun b z=>?_) fun _=>hk
  ·rw[aK nb];by_cases hb:b=a
   ·subst hb;exact .inr ⟨_,_,aI⟩
   ·exact .inl (by rw[aK hb])
  ·by_cases nb:b=p
   ·subst nb;rw[aI]at z;cases z;exact hp
   ·rw[aK nb]at z;by_cases hb:b=a
    ·subst hb;rw[aI]at z;cases z;exact⟨ha,by rw[QZ];exact hl,vs,_,rv,ha⟩
    ·rw[aK hb]at z;cases z
  ·by_cases nb:b=p
   ·exact .inr nb
   ·rw[aK nb]at z;by_cases hb:b=a
    ·exact .inl hb
    ·exact absurd (by rw[aK hb]) z
theorem vp{l:PySem.W.OpenLaw}{n k:Nat}{q:Program}{dw:List Str}{XP:(Str->Option Value)->Heap->Prop}{YP:World->Heap->Prop}{d:DefRec}{K:Params->Q1}{sp:World->Sp}{x:Str}{p:Addr}
  (hn:l.most=some n) (hn2:n<=sizeLine) (hdf:d.params.defaults=[]) (hr:eU k callerA)
  (hY:∀(w:World) (h:Heap),YP w h->(K w.params).In h/\h.get? p=some (PySem.W.tabObj #[])) (hK:∀w:World,(K w.params).lookup p=none) (hC:∀w:World,∃c,PySem.W.codeHdIn (K w.params) c p=true)
  (F:∀(w:World) (mg:Str->Option Value) (fa:Addr) (h:Heap),(K w.params).In h->h.Ns mainGlobals mg->mg d.name=some (.ref fa)->
   ∃fd:FuncData,(∀(s:Shared) (u:Value),BindsTo s fd ⟨[u],[]⟩ [(x,u)])/\
    ∀base:Heap,(K w.params).In base->base.Ns mainGlobals mg->uS mg base->je l.prog w (K w.params) mg base CX0 k fa fd [x] (sp w))
  (hsp:∀(w:World) (H:Hp) (a:Addr) (ns:List Int),ns.length<=n->xi p H->SqL (K w.params) H a (ns.map V.int)->sp w [.ref a] H (fun v _=>v=.bl true) fun _ _ _=>False) :
  PySem.W.WalkO q dw XP YP l.row.toRowW d [] (fun f vs=>PySem.call f vs):=by
 refine Att.attach_call hn hdf fun w s₀ s₁ mg mb fa o pm cd doc a vs ns G Y ho hd hcd hmg hobj hints hlen hg=>?_;obtain⟨KX,hp⟩:=hY w _ Y;obtain⟨fd,hb,hF⟩:=F w mg fa _ KX G.T.g hmg;obtain⟨c,hc⟩:=hC w;have C:=PySem.W.codeHd_of_K KX hc;obtain⟨oc,vc,file,tf,flags,tg,inF,text,tt,c1,c2,c3,c4,_⟩:=C;exact tJ KX G.T.g G.T.b G.T.builtins G.T.nolimit hg G.T.bmain hp (hK w) ⟨c,oc,vc,c1,c2,c3,c4⟩ hobj hints (QL hlen hn2) hr hF hb fun H hO hS=>hsp w H a ns hlen hO hS
end L2
namespace OP
open PySem PySem.Spec PyProof PyProof.Rows L2 OG PySem.W
def pC(p:Addr)(K:Q1):Sp:=fun vs H Q _=>∃(a:Addr) (ns:List Int),vs=[.ref a]/\KL K H a ns/\ns.length<=63/\H p=some (.tbl #[])/\∀H',Q (.bl true) H'
theorem CD{K:Q1}{H:Hp}{a p:Addr}{ns:List Int}(hO:xi p H)(h:SqL K H a (ns.map V.int)):KL K H a ns:=by
 have no:∀xs,H a≠some (.lst xs):=fun xs e=>by
  by_cases z:a=p
  ·subst z;rw[hO.1]at e;cases e
  ·rcases hO.2 a z with q|⟨o,ys,q⟩
   ·rw[q]at e;cases e
   ·rw[q]at e;cases e
 rcases h with(h|h)|h
 ·exact absurd h (no _)
 ·exact .inl h
 ·exact .inr h
theorem wx{K:Q1}{H:Hp}{a p:Addr}{pos:Pos}{qual:Str}{ns:List Int}{c:CS}{r:Rho}{σ:L2.St}{Q:VK}{nx bk ct:L2.St->Hp->Prop}(h:KL K H a ns)(hp:H p=some (.tbl #[]))
  (ok:∃ρ' S',c (some (.kl ns)::r) [.cod p pos qual]=some (.rt (.bl true),ρ',S')) (q:∀H',Q (.bl true) H')
  (hr:r=QQ r.length none:=by rfl) (hl:σ.length=r.length:=by rfl):tS K c { nx:=nx,rt:=Q,bk:=bk,ct:=ct } (some (.ref a)::σ) H:=by
 obtain⟨ρ',S',e⟩:=ok;refine⟨[p],_,_,_,ρ',S',⟨rfl,by simp,fun l ad o e1 e2=>?_⟩,⟨by simp[hl],fun i u e1=>?_⟩,e,fun m' v H' _ _ iv=>by rw[iv.of_bl];exact q H'⟩
 ·cases l with
  |zero=>
   simp at e1 e2;subst e1;subst e2;exact⟨rfl,#[],hp,trivial,.inl rfl⟩
  |succ l=>simp at e1
 cases i with
 |zero=>
  simp at e1;subst e1;exact⟨.ref a,rfl,.kl_ h⟩
 |succ i=>
  simp only[Z9]at e1;rw[hr,Ql]at e1;split at e1<;>cases e1
section
variable{P:Program}{w:World}{K:Q1}{base:Heap}{mg:Str->Option Value}{x q:Str}{st:Stmt}{C c p:Addr}{ps N:List Str}{k:Nat}{cs:CS}{cl:Cl}
def AJ(K:Q1)(C:Addr)(x:Str)(c p:Addr):Prop:=∃f o fd,PySem.W.findIn K (.ref C) x=some (some (.ref f))/\K.lookup f=some o/\o.data=.func fd/\fd.code=.ref c/\PySem.W.codeHdIn K c p=true
theorem MtD.pureC(d:MtD K cl.C x q st ps)(cd:AJ K cl.C x c p)(S:aQ N ps (aw st))
  (hb:∀(f:Addr) (A:Around) (outer:List Env) (s:Shared) (H:Hp) (E:XK),eU k (A.deeper (envOfC q (aw st) s.heap.objs.size f (.ref c)))->WSs (nW CX0 P w K mg base N q (aw st) f (.ref c) A outer s H E).nox (cU st) (tS K cs)) :
  dS P w K mg base cl x (k+1) ps (fnU N.length ps.length cs):=by
 obtain⟨fa,fd,F,b,m⟩:=d;obtain⟨oc,od,kV,doc,pm,an,cdv,ct,osl,rfl,lk,hcd⟩:=F.ex;obtain⟨f,o,fd2,z1,z2,z3,z4,z5⟩:=cd;have ef:f=fa:=by have:=m.at_;rw[z1]at this;cases this;rfl
 subst ef;rw[lk]at z2;cases z2;cases z3;have e:cdv=.ref c:=z4;subst e;refine⟨f,_,m,?_,b⟩;refine C4 lk hcd S (fun vs H Q E h=>kZ h) fun A outer s H vs Q E hr h=>⟨_,(hb f A outer s H E hr).h.nox,oC (X:=(nW CX0 P w K mg base N q (aw st) f (.ref c) A outer s H E).nox) (body:=[]) (ps:=ps) rfl h⟩
end
section
variable{X:Cx}
theorem k8{i₀:Nat}{x₀:Str}{pos₀ pos':Pos}{Nc capN tn:List Str}{scope:Scope}{cl:List (Str×Addr)}{n:Nat}{caps:List Nat}{tg iter elt:Expr}{pos:Pos}{ci:CE}{g:CG}{ct:CT}{ce:CE}{c:PySem.Expr}
  (hc:X.calm=true) (hi:QE X iter ci) (hg:∀s3 H3 fp,WG (cxC X Nc scope cl s3 H3 fp) tg (tG X.K g)) (ht:∀s3 H3 fp,WT (cxC X Nc scope cl s3 H3 fp) c (tT X.K ct)) (he:∀s3 H3 fp,WE (cxC X Nc scope cl s3 H3 fp) elt (tE X.K ce))
  (hclos:closureFor scope X.env=pure cl) (hkind:scope.kind=.function) (hnl:∀x∈scope.names,x.2=.local->scope.names.lookup x.1=some .local) (hcell:∀x∈scope.names,x.2≠.cell)
  (hcl:qz X.env cl) (hhas:((relabel scope X.env).names.all fun p=>!(p.2 == .cell||p.2 == .free)||(cl.lookup p.1).isSome)=true)
  (hcap:Paired (Cap X scope cl) caps capN) (hN:Nc=tn++capN) (hn:tn.length=n)
  (hN0:X.N.Nodup) (hi0:X.N[i₀]?=some x₀) (hx0:X.env.scope.names.lookup x₀=some .local)
  (hsw:swapsWith (.ListComp elt [⟨tg,iter,[c],0⟩] scope pos) (some (.Name x₀ pos')) pos₀.line X.env=pure true)
  (hs:∀x,foldedSetIterable iter X.env x=pure x:=by intro _;rfl) :
  QS X (.Assign [.Name x₀ pos'] (.ListComp elt [⟨tg,iter,[c],0⟩] scope pos) pos₀) (eR i₀ (iJ ci g ct ce n caps)):=
 (rG (ml hc (nZ hi) hg he ht hclos hkind hnl hcell hcl hhas hcap hN hn hN0 hi0 hx0 hsw hs)).imp fun D σ H hz=>qZ hz fun m ρ S o ρ' S' sr lr hc post=>by
 obtain⟨⟨u,S1⟩,h1,h2⟩:=Q0.mp hc;cases h2;exact mr (G:=fun J H1 σ Q=>∀l,H1 l=none->∃W:Nat->Nat->L2.St->Hp->Prop,(∃m,W 0 m (OG.stC n caps σ) (upd H1 l (.lst [])))/\
  ∀i m σ' H2,W i m σ' H2->(J.stop i H2/\Q (.ref l) H2)\/(J.go i H2/\∃N:L2.St->Hp->Prop,(∀σ'' H',N σ'' H'->∃m',m'<m/\W (i+1) m' σ'' H')/\
  ∀x H3,J.yld i H2 x H3->tG X.K g x σ' H3 fun σ2 H4=>tT X.K ct σ2 H4 fun b H5=>match b with
   |true=>tE X.K ce σ2 H5 fun v H6=>∃ys,H6 l=some (.lst ys)/\ys.length<sizeLine/\N σ2 (upd H6 l (.lst (ys++[v])))
   |false=>N σ2 H5)) (fun sr lr ito h2 post l hl=>oQ sr lr ito hl h2 (post l hl))
  σ H (fun v H'=>D.nx (σ.set i₀ (some v)) H') ⟨m,ρ,S,u,_,sr,lr,h1,fun m1 v1 H1 e1 sr1 i1=>post m1 _ H1 e1 sr1 ((lr.mono e1).set i₀ i1)⟩
end
end OP
namespace OQ
open PySem PySem.Spec PyProof.Rows L2 OG OP
def eE:CS:=
 (aX (eR 3 (cOp oF (cOp oI (cOp oI (cOp oI (cOp jS (ak 3) (ak 3)) (cOp jS (cC (.int 50021)) (ak 3))) (cOp jS (cC (.int 19)) (ak 5))) (cC (.int 7))) (cC (.int 2147483563))))
  (eR 4 (cOp oI (cOp jS (ak 4) (cC (.int 2147483563))) (ak 3))))
def dD:CS:=
 (aX (eR 2 (cOp oI (cOp jS (cC (.int 5)) (ak 1)) (cC (.int 3))))
  (aX (fj (aP (cOp fLt (ak 1) (cCB nV (ag (ak 0) aH)))) (eR 2 (cOp fIx (ak 0) (ak 1))) bX)
  (aX (fj (aP (cOp fEq (cOp oF (ak 2) (cC (.int 2))) (cC (.int 0)))) (eJ (fQ (ag (cOp rA (ak 2) (cC (.int 2))) aH))) bX)
  (aX (eR 3 (cOp oF (cOp oI (cOp oI (cOp jS (ak 2) (cC (.int 30011))) (cOp jS (cC (.int 977)) (ak 1))) (cC (.int 41))) (cC (.int 2147483563))))
  (aX (eR 4 (cC (.int 0)))
  (aX (nK (bR (ag (cC (.int 60)) aH)) (gNm 5) (eE ))
  (eJ (fQ (ag (ak 4) aH)))))))))
def oJ{a0 a1:U}{S:Sto}:fnU 6 2 (dD ) [a0,a1] S=((dD ) [some a0,some a1,none,none,none,none] S).bind kFn:=i4 rfl
def fu:CS:=
 (aX (eR 2 (cOp oF (cOp fIx (ak 0) (cC (.int 0))) (ak 1)))
  (aX (dr (ak 0) (cC (.int 0)) (cOp rA (cOp fIx (ak 0) (cC (.int 0))) (ak 1)))
  (eJ (ak 2))))
def q4{a0 a1:U}{S:Sto}:fnU 3 2 (fu ) [a0,a1] S=((fu ) [some a0,some a1,none] S).bind kFn:=i4 rfl
def cR(cAttempt:Cl):CS:=
 (aX (fH cAttempt 0 (ak 0) (ak 1))
  (aX (fH cAttempt 1 (ak 0) jl)
  (aX (fH cAttempt 2 (ak 0) jl)
  (aX (fH cAttempt 3 (ak 0) (cC .non))
  (aX (fH cAttempt 4 (ak 0) (fQ aH))
  (fH cAttempt 5 (ak 0) (cC (.bl true))))))))
theorem ko{cAttempt:Cl}{a0 a1:U}{S:Sto}:fnU 2 2 (cR cAttempt) [a0,a1] S=((cR cAttempt) [some a0,some a1] S).bind kFn:=i4 rfl
def dq(cKeeper:Cl):CS:=
 (aX (fH cKeeper 0 (ak 0) (cCB oH (ag (ak 2) aH)))
  (aX (fH cKeeper 1 (ak 0) (cOp ue (fQ (ag (cC (.int 0)) aH)) (cCB nV (ag (ak 2) aH))))
  (aX (fH cKeeper 2 (ak 0) jl)
  (aX (fH cKeeper 3 (ak 0) (cC (.int 0)))
  (aX (fH cKeeper 4 (ak 0) (fQ aH))
  (fH cKeeper 5 (ak 0) jl))))))
theorem lT{cKeeper:Cl}{a0 a1 a2:U}{S:Sto}:fnU 3 3 (dq cKeeper) [a0,a1,a2] S=((dq cKeeper) [some a0,some a1,some a2] S).bind kFn:=i4 rfl
def dQ(cKeeper cAttempt:Cl):CS:=
 (aX (eR 3 (cOp fIx (bQ cKeeper 5 (ak 0)) (ak 1)))
  (aX (fH cAttempt 5 (ak 3) (cC (.bl false)))
  (dY (cBM bZ (bQ cKeeper 4 (ak 0)) (ag (gi (ag (ak 2) (ag (ak 1) aH))) aH)))))
theorem nB{cKeeper cAttempt:Cl}{a0 a1 a2:U}{S:Sto}:fnU 4 3 (dQ cKeeper cAttempt) [a0,a1,a2] S=((dQ cKeeper cAttempt) [some a0,some a1,some a2,none] S).bind kFn:=i4 rfl
def cN(cKeeper cAttempt:Cl):CS:=
 (aX (fj (cOr (aP (cOp (fIn true) (ak 1) (bQ cKeeper 5 (ak 0)))) (FY (aP (bQ cAttempt 5 (cOp fIx (bQ cKeeper 5 (ak 0)) (ak 1)))))) nJ bX)
  (eJ (cOp fIx (bQ cKeeper 5 (ak 0)) (ak 1))))
theorem kj{cKeeper cAttempt:Cl}{a0 a1:U}{S:Sto}:fnU 2 2 (cN cKeeper cAttempt) [a0,a1] S=((cN cKeeper cAttempt) [some a0,some a1] S).bind kFn:=i4 rfl
def bW(aL:Fn)(cKeeper cAttempt:Cl):CS:=
 (aX (eR 2 (bt cKeeper aL (ak 0) (ag (ak 1) aH)))
  (aX (fj (aP (cOp nr (bQ cAttempt 3 (ak 2)) (cC .non))) nJ bX)
  (eJ (ak 2))))
theorem jk{aL:Fn}{cKeeper cAttempt:Cl}{a0 a1:U}{S:Sto}:fnU 3 2 (bW aL cKeeper cAttempt) [a0,a1] S=((bW aL cKeeper cAttempt) [some a0,some a1,none] S).bind kFn:=i4 rfl
def b7(cKeeper:Cl):CS:=
 (eJ (cCB wN (ag (lX (dZ (iTp (ak 2)) (gNm 0) (cOp fNe (rk (bQ cKeeper 2 (ak 2)) (ak 0) (ak 1)) (ak 1)) 1 [1,0]) (gP (ak 2) (gNm 0) (cOp fNe (rk (bQ cKeeper 2 (ak 2)) (ak 0) (ak 1)) (ak 1)) 1 [1,0])) aH)))
theorem eZ{cKeeper:Cl}{a0 a1 a2:U}{S:Sto}:fnU 3 3 (b7 cKeeper) [a0,a1,a2] S=((b7 cKeeper) [some a0,some a1,some a2] S).bind kFn:=i4 rfl
def bq(cKeeper cAttempt:Cl):CS:=
 (aX (eR 2 (cOp fIx (bQ cKeeper 5 (ak 0)) (ak 1)))
  (eJ (cCB wN (ag (gP (bQ cAttempt 1 (ak 2)) (gNm 0) (cOp fGt (cOp fIx (bQ cKeeper 1 (ak 2)) (ak 0)) (bQ cAttempt 0 (ak 1))) 1 [2,0]) aH))))
theorem gE{cKeeper cAttempt:Cl}{a0 a1:U}{S:Sto}:fnU 3 2 (bq cKeeper cAttempt) [a0,a1] S=((bq cKeeper cAttempt) [some a0,some a1,none] S).bind kFn:=i4 rfl
def aR(aA ay:Fn)(cKeeper cAttempt:Cl):CS:=
 (aX (fj (aP (bt cKeeper aA (ak 0) (ag (ak 1) (ag (fQ (ag (ak 2) aH)) aH)))) (eJ (cC (.bl true))) bX)
  (aX (fj (aP (cOp fLe (cOp fIx (bQ cKeeper 1 (ak 0)) (ak 2)) (bQ cAttempt 0 (cOp fIx (bQ cKeeper 5 (ak 0)) (ak 1))))) (eJ (cC (.bl false))) bX)
  (eJ (DV (bt cKeeper aA (ak 0) (ag (ak 1) (ag (bQ cAttempt 1 (cOp fIx (bQ cKeeper 5 (ak 0)) (ak 1))) aH))) (bt cKeeper ay (ak 0) (ag (ak 1) aH))))))
theorem hJ{aA ay:Fn}{cKeeper cAttempt:Cl}{a0 a1 a2:U}{S:Sto}:fnU 3 3 (aR aA ay cKeeper cAttempt) [a0,a1,a2] S=((aR aA ay cKeeper cAttempt) [some a0,some a1,some a2] S).bind kFn:=i4 rfl
def bc(cKeeper cAttempt:Cl):CS:=
 (aX (fj (aP (cOp fGt (cOp fIx (bQ cKeeper 1 (ak 0)) (ak 2)) (bQ cAttempt 0 (ak 1)))) (fH cAttempt 0 (ak 1) (bQ cKeeper 3 (ak 0))) bX)
  (aX (dr (bQ cAttempt 1 (ak 1)) (ak 2) (cC (.bl true)))
  (eJ (cOp fIx (bQ cKeeper 0 (ak 0)) (ak 2)))))
theorem iH{cKeeper cAttempt:Cl}{a0 a1 a2:U}{S:Sto}:fnU 3 3 (bc cKeeper cAttempt) [a0,a1,a2] S=((bc cKeeper cAttempt) [some a0,some a1,some a2] S).bind kFn:=i4 rfl
def cQ(bJ:Fn)(cKeeper cAttempt:Cl):CS:=
 (aX (fj (aP (cOp (fIn false) (ak 1) (bQ cKeeper 5 (ak 0)))) nJ bX)
  (aX (dr (bQ cKeeper 5 (ak 0)) (ak 1) (cCB (iT cAttempt bJ) (ag (bQ cKeeper 3 (ak 0)) aH)))
  (dY (cBM bZ (bQ cKeeper 4 (ak 0)) (ag (gi (ag (cC (.str "begin")) (ag (ak 1) aH))) aH)))))
theorem kn{bJ:Fn}{cKeeper cAttempt:Cl}{a0 a1:U}{S:Sto}:fnU 2 2 (cQ bJ cKeeper cAttempt) [a0,a1] S=((cQ bJ cKeeper cAttempt) [some a0,some a1] S).bind kFn:=i4 rfl
def bV(av aU aC a6:Fn)(cKeeper cAttempt:Cl):CS:=
 (aX (eR 3 (bt cKeeper av (ak 0) (ag (ak 1) aH)))
  (aX (fj (aP (cOp (fIn false) (ak 2) (bQ cAttempt 2 (ak 3)))) (eR 4 (cOp fIx (bQ cAttempt 2 (ak 3)) (ak 2))) (fj (aP (bt cKeeper aU (ak 0) (ag (ak 1) (ag (ak 2) aH)))) (aX (dY (bt cKeeper aC (ak 0) (ag (ak 1) (ag (cC (.str "fall")) aH))))
  (eJ (gi (ag (cC (.str "falls")) aH)))) (eR 4 (bt cKeeper a6 (ak 0) (ag (ak 3) (ag (ak 2) aH))))))
  (aX (dY (cBM bZ (bQ cKeeper 4 (ak 0)) (ag (gi (ag (cC (.str "look")) (ag (ak 1) (ag (ak 2) (ag (ak 4) aH))))) aH)))
  (eJ (gi (ag (cC (.str "number")) (ag (ak 4) aH)))))))
theorem lS{av aU aC a6:Fn}{cKeeper cAttempt:Cl}{a0 a1 a2:U}{S:Sto}:fnU 5 3 (bV av aU aC a6 cKeeper cAttempt) [a0,a1,a2] S=((bV av aU aC a6 cKeeper cAttempt) [some a0,some a1,some a2,none,none] S).bind kFn:=i4 rfl
def dM(av:Fn)(cKeeper cAttempt:Cl):CS:=
 (aX (eR 4 (bt cKeeper av (ak 0) (ag (ak 1) aH)))
  (aX (dr (bQ cAttempt 2 (ak 4)) (ak 2) (ak 3))
  (dY (cBM bZ (bQ cKeeper 4 (ak 0)) (ag (gi (ag (cC (.str "put")) (ag (ak 1) (ag (ak 2) (ag (ak 3) aH))))) aH)))))
theorem ny{av:Fn}{cKeeper cAttempt:Cl}{a0 a1 a2 a3:U}{S:Sto}:fnU 5 4 (dM av cKeeper cAttempt) [a0,a1,a2,a3] S=((dM av cKeeper cAttempt) [some a0,some a1,some a2,some a3,none] S).bind kFn:=i4 rfl
def du(av aC aA ay:Fn)(cKeeper cAttempt:Cl):CS:=
 (dr (bQ cKeeper 2 (ak 0)) (ak 3) (ak 1))
def dj(av aC aA ay:Fn)(cKeeper cAttempt:Cl):CS:=
 (aX (eR 2 (bt cKeeper av (ak 0) (ag (ak 1) aH)))
  (aX (fj (aP (cOp fEq (cCB nV (ag (bQ cAttempt 2 (ak 2)) aH)) (cC (.int 0)))) (aX (dY (bt cKeeper aC (ak 0) (ag (ak 1) (ag (cC (.str "done")) aH))))
  (eJ (cC (.str "done")))) bX)
  (aX (fj (cOr (aP (bt cKeeper aA (ak 0) (ag (ak 1) (ag (bQ cAttempt 1 (ak 2)) aH)))) (cOr (aP (bt cKeeper aA (ak 0) (ag (ak 1) (ag (bQ cAttempt 2 (ak 2)) aH)))) (aP (bt cKeeper ay (ak 0) (ag (ak 1) aH))))) (aX (dY (bt cKeeper aC (ak 0) (ag (ak 1) (ag (cC (.str "fall")) aH))))
  (eJ (cC (.str "falls")))) bX)
  (aX (fH cKeeper 3 (ak 0) (cOp oI (bQ cKeeper 3 (ak 0)) (cC (.int 1))))
  (aX (fH cAttempt 3 (ak 2) (bQ cKeeper 3 (ak 0)))
  (aX (fH cAttempt 4 (ak 2) (cCB jQ (ag (bQ cAttempt 2 (ak 2)) aH)))
  (aX (nK (iTp (bQ cAttempt 4 (ak 2))) (gNm 3) (du av aC aA ay cKeeper cAttempt))
  (eJ (cC (.str "taken"))))))))))
theorem lQ{av aC aA ay:Fn}{cKeeper cAttempt:Cl}{a0 a1:U}{S:Sto}:fnU 4 2 (dj av aC aA ay cKeeper cAttempt) [a0,a1] S=((dj av aC aA ay cKeeper cAttempt) [some a0,some a1,none,none] S).bind kFn:=i4 rfl
def ed(aL aC:Fn)(cKeeper cAttempt:Cl):CS:=
 (dY (uz (bQ cKeeper 2 (ak 0)) (ak 4)))
def cL(aL aC:Fn)(cKeeper cAttempt:Cl):CS:=
 (aX (eR 2 (bt cKeeper aL (ak 0) (ag (ak 1) aH)))
  (aX (fj (aP (cOp C5 (bQ cAttempt 3 (ak 2)) (cC .non))) nJ bX)
  (aX (eR 3 (cBM kN (bQ cAttempt 4 (ak 2)) (ag (cC (.int 0)) aH)))
  (aX (dr (bQ cKeeper 0 (ak 0)) (ak 3) (cOp fIx (bQ cAttempt 2 (ak 2)) (ak 3)))
  (aX (dr (bQ cKeeper 1 (ak 0)) (ak 3) (bQ cAttempt 3 (ak 2)))
  (aX (fj (aP (cOp fGt (cCB nV (ag (bQ cAttempt 4 (ak 2)) aH)) (cC (.int 0)))) (eJ (cC (.str "written"))) bX)
  (aX (uy (bQ cAttempt 2 (ak 2)) (gNm 4) (ed aL aC cKeeper cAttempt))
  (aX (dY (bt cKeeper aC (ak 0) (ag (ak 1) (ag (cC (.str "done")) aH))))
  (eJ (cC (.str "done")))))))))))
theorem kh{aL aC:Fn}{cKeeper cAttempt:Cl}{a0 a1:U}{S:Sto}:fnU 5 2 (cL aL aC cKeeper cAttempt) [a0,a1] S=((cL aL aC cKeeper cAttempt) [some a0,some a1,none,none,none] S).bind kFn:=i4 rfl
def dN(cKeeper:Cl):CS:=
 (eJ (cCB jP (ag (bQ cKeeper 0 (ak 0)) aH)))
def nz{cKeeper:Cl}{a0:U}{S:Sto}:fnU 1 1 (dN cKeeper) [a0] S=((dN cKeeper) [some a0] S).bind kFn:=i4 rfl
def bw(cAttempt:Cl):CS:=
 (aX (fj (aP (cOp C5 (bQ cAttempt 3 (ak 0)) (cC .non))) (eJ (gi (ag (bQ cAttempt 0 (ak 0)) (ag (cC (.int 1)) aH)))) bX)
  (eJ (gi (ag (bQ cAttempt 3 (ak 0)) (ag (cC (.int 0)) aH)))))
def iU{cAttempt:Cl}{a0:U}{S:Sto}:fnU 1 1 (bw cAttempt) [a0] S=((bw cAttempt) [some a0] S).bind kFn:=i4 rfl
def dP(cKeeper:Cl):CS:=
 (eJ (cCB oH (ag (bQ cKeeper 4 (ak 0)) aH)))
def nA{cKeeper:Cl}{a0:U}{S:Sto}:fnU 1 1 (dP cKeeper) [a0] S=((dP cKeeper) [some a0] S).bind kFn:=i4 rfl
def cM(ba:Fn)(cKeeper cAttempt:Cl)(zO:O):CS:=
 eJ (qt zO 0 (bQ cKeeper 5 (ak 0)) (bt cAttempt ba (cOp fIx (bQ cKeeper 5 (ak 1)) (ak 0)) aH))
theorem ki{ba:Fn}{cKeeper cAttempt:Cl}{zO:O}{a0:U}{S:Sto}:fnU 1 1 (cM ba cKeeper cAttempt zO) [a0] S=((cM ba cKeeper cAttempt zO) [some a0] S).bind kFn:=i4 rfl
def cP(cKeeper:Cl):CS:=
 (eJ (bQ cKeeper 3 (ak 0)))
def km{cKeeper:Cl}{a0:U}{S:Sto}:fnU 1 1 (cP cKeeper) [a0] S=((cP cKeeper) [some a0] S).bind kFn:=i4 rfl
def dk(cKeeper:Cl):CS:=
 (eJ (cOp fIx (bQ cKeeper 1 (ak 0)) (ak 1)))
theorem lR{cKeeper:Cl}{a0 a1:U}{S:Sto}:fnU 2 2 (dk cKeeper) [a0,a1] S=((dk cKeeper) [some a0,some a1] S).bind kFn:=i4 rfl
end OQ
namespace OL
open PySem PySem.Spec PyProof.Rows L2 OG OP OQ
def top(i:Nat):Stmt:=PySem.Challenge.pw_oneglance_k37_two_keepers_by_turns.main.body.getD i (.Pass ⟨0,0,0,0⟩)
abbrev fh:Stmt:=bO (top 6) 0
abbrev dA:Stmt:=bO (top 6) 1
abbrev fE:Stmt:=bO (top 7) 0
abbrev fg:Stmt:=bO (top 7) 1
abbrev fD:Stmt:=bO (top 7) 2
abbrev cT:Stmt:=bO (top 7) 3
abbrev cZ:Stmt:=bO (top 7) 4
abbrev fY:Stmt:=bO (top 7) 5
abbrev fB:Stmt:=bO (top 7) 6
abbrev e9:Stmt:=bO (top 7) 7
abbrev fc:Stmt:=bO (top 7) 9
abbrev dU:Stmt:=bO (top 7) 10
abbrev f7:Stmt:=bO (top 7) 11
abbrev c9:Stmt:=bO (top 7) 12
abbrev cD:Stmt:=bO (top 7) 13
abbrev f6:Stmt:=bO (top 7) 15
abbrev fb:Stmt:=bO (top 7) 16
abbrev fZ:Stmt:=bO (top 7) 17
abbrev fe:Stmt:=bO (top 7) 18
abbrev fC:Stmt:=bO (top 7) 19
abbrev gT:Stmt:=top 9
abbrev iQ:Stmt:=top 10
abbrev fX:Stmt:=top 11
abbrev gU:Stmt:=top 12
abbrev fA:Stmt:=top 13
abbrev iR:Stmt:=top 14
abbrev zc:Stmt:=top 15
section
variable{P:Program}{w:World}{K:Q1}{mg:Str->Option Value}{base:Heap}
theorem fW:aQ ["self","glance"] ["self","glance"] (aw fh):=⟨rfl,rfl,rfl,by decide +kernel,rfl,by decide +kernel,by decide +kernel⟩
theorem kb{k:Nat}{cAttempt:Cl}(d:MkD K mg cAttempt.C "Attempt" "Attempt.__init__" fh ["self","glance"])(B:Blt mg)(TAttempt:TC K cAttempt ["glance","looked","puts","stamp","unwritten","is_open"]):CMk P w K mg base cAttempt "Attempt" (k+1) ["self","glance"] (fnU 2 2 (cR cAttempt)):=
 d.pure TAttempt fW fun f cdv A outer s H E hr=>(by
  have hu:=dC hr;have nd:=fW.nd;exact(aq (b8 TAttempt.cl (TAttempt.na 0 rfl) (TAttempt.ix rfl) (ae (wpv 0)) (ae (wpv 1)))
   (aq (b8 TAttempt.cl (TAttempt.na 1 rfl) (TAttempt.ix rfl) (ae (wpv 0)) kF)
   (aq (b8 TAttempt.cl (TAttempt.na 2 rfl) (TAttempt.ix rfl) (ae (wpv 0)) kF)
   (aq (b8 TAttempt.cl (TAttempt.na 3 rfl) (TAttempt.ix rfl) (ae (wpv 0)) (qJ iN))
   (aq (b8 TAttempt.cl (TAttempt.na 4 rfl) (TAttempt.ix rfl) (ae (wpv 0)) (fO aF))
   (aM (b8 TAttempt.cl (TAttempt.na 5 rfl) (TAttempt.ix rfl) (ae (wpv 0)) (xG i7)))))))))
def eW:aQ ["self"] ["self"] (aw dA):=⟨rfl,rfl,rfl,by decide +kernel,rfl,by decide +kernel,by decide +kernel⟩
theorem iS{k:Nat}{cAttempt:Cl}(d:MtD K cAttempt.C "instant" "Attempt.instant" dA ["self"])(B:Blt mg)(TAttempt:TC K cAttempt ["glance","looked","puts","stamp","unwritten","is_open"]):dS P w K mg base cAttempt "instant" (k+1) ["self"] (fnU 1 1 (bw cAttempt)):=
 d.pure eW fun f cdv A outer s H E hr=>(by
  have hu:=dC hr;have nd:=eW.nd;exact(aq (dc (bN xP Cp (a9 TAttempt.cl (TAttempt.na 3 rfl) (TAttempt.ix rfl) (ae (wpv 0))) (qJ iN) (bC _)) (aM (aV (fF (ah (a9 TAttempt.cl (TAttempt.na 0 rfl) (TAttempt.ix rfl) (ae (wpv 0))) (ah (aS aB) aF))))) bL)
   (aM (aV (fF (ah (a9 TAttempt.cl (TAttempt.na 3 rfl) (TAttempt.ix rfl) (ae (wpv 0))) (ah (aS aB) aF)))))))
theorem gK:aQ ["self","world","state"] ["self","world","state"] (aw fE):=⟨rfl,rfl,rfl,by decide +kernel,rfl,by decide +kernel,by decide +kernel⟩
theorem lL{k:Nat}{cKeeper:Cl}(d:MkD K mg cKeeper.C "Keeper" "Keeper.__init__" fE ["self","world","state"])(B:Blt mg)(TKeeper:TC K cKeeper ["boxes","marks","holders","ticks","events","known"]):CMk P w K mg base cKeeper "Keeper" (k+1) ["self","world","state"] (fnU 3 3 (dq cKeeper)):=
 d.pure TKeeper gK fun f cdv A outer s H E hr=>(by
  have hu:=dC hr;have nd:=gK.nd;exact(aq (b8 TKeeper.cl (TKeeper.na 0 rfl) (TKeeper.ix rfl) (ae (wpv 0)) (js jd xM rfl B.list OG.nL (ah (ae (wpv 2)) aF)))
   (aq (b8 TKeeper.cl (TKeeper.na 1 rfl) (TKeeper.ix rfl) (ae (wpv 0)) (iM Cy Co (fO (ah (aS aB) aF)) (eN mQ mM rfl B.len PySem.boot_len (ah (ae (wpv 2)) aF))))
   (aq (b8 TKeeper.cl (TKeeper.na 2 rfl) (TKeeper.ix rfl) (ae (wpv 0)) kF)
   (aq (b8 TKeeper.cl (TKeeper.na 3 rfl) (TKeeper.ix rfl) (ae (wpv 0)) (aS aB))
   (aq (b8 TKeeper.cl (TKeeper.na 4 rfl) (TKeeper.ix rfl) (ae (wpv 0)) (fO aF))
   (aM (b8 TKeeper.cl (TKeeper.na 5 rfl) (TKeeper.ix rfl) (ae (wpv 0)) kF))))))))
theorem iA:aQ ["self","a","word","attempt"] ["self","a","word"] (aw f7):=⟨rfl,rfl,rfl,by decide +kernel,rfl,by decide +kernel,by decide +kernel⟩
theorem nq{k:Nat}{cKeeper cAttempt:Cl}(d:MtD K cKeeper.C "end" "Keeper.end" f7 ["self","a","word"])(B:Blt mg)(TKeeper:TC K cKeeper ["boxes","marks","holders","ticks","events","known"])(TAttempt:TC K cAttempt ["glance","looked","puts","stamp","unwritten","is_open"]):dS P w K mg base cKeeper "end" (k+1) ["self","a","word"] (fnU 4 3 (dQ cKeeper cAttempt)):=
 d.pure iA fun f cdv A outer s H E hr=>(by
  have hu:=dC hr;have nd:=iA.nd;exact(aq (bz (i:=3) nd rfl (by trivial) (dR hu (a9 TKeeper.cl (TKeeper.na 5 rfl) (TKeeper.ix rfl) (ae (wpv 0))) (ae (wpv 1)) (fun _ _=>rfl) (fun _ _=>rfl)))
   (aq (b8 TAttempt.cl (TAttempt.na 5 rfl) (TAttempt.ix rfl) (ae (wpv 3)) (xG i7))
   (aM (de (fG (a9 TKeeper.cl (TKeeper.na 4 rfl) (TKeeper.ix rfl) (ae (wpv 0))) (ah (fF (ah (ae (wpv 2)) (ah (ae (wpv 1)) aF))) aF)))))))
theorem fT:aQ ["self","a"] ["self","a"] (aw fc):=⟨rfl,rfl,rfl,by decide +kernel,rfl,by decide +kernel,by decide +kernel⟩
theorem j7{k:Nat}{cKeeper cAttempt:Cl}(d:MtD K cKeeper.C "found" "Keeper.found" fc ["self","a"])(B:Blt mg)(TKeeper:TC K cKeeper ["boxes","marks","holders","ticks","events","known"])(TAttempt:TC K cAttempt ["glance","looked","puts","stamp","unwritten","is_open"]):dS P w K mg base cKeeper "found" (k+1) ["self","a"] (fnU 2 2 (cN cKeeper cAttempt)):=
 d.pure fT fun f cdv A outer s H E hr=>(by
  have hu:=dC hr;have nd:=fT.nd;exact(aq (dc (BP (BS (vB hu (ae (wpv 1)) (a9 TKeeper.cl (TKeeper.na 5 rfl) (TKeeper.ix rfl) (ae (wpv 0))) (by with_unfolding_all rfl)) (vC (BQ (kE (a9 TAttempt.cl (TAttempt.na 5 rfl) (TAttempt.ix rfl) (dR hu (a9 TKeeper.cl (TKeeper.na 5 rfl) (TKeeper.ix rfl) (ae (wpv 0))) (ae (wpv 1)) (fun _ _=>rfl) (fun _ _=>rfl)))))))) (aM jq) bL)
   (aM (aV (dR hu (a9 TKeeper.cl (TKeeper.na 5 rfl) (TKeeper.ix rfl) (ae (wpv 0))) (ae (wpv 1)) (fun _ _=>rfl) (fun _ _=>rfl))))))
theorem fk:aQ ["self","a","attempt"] ["self","a"] (aw dU):=⟨rfl,rfl,rfl,by decide +kernel,rfl,by decide +kernel,by decide +kernel⟩
theorem ji{k:Nat}{aL:Fn}{cKeeper cAttempt:Cl}(d:MtD K cKeeper.C "untaken" "Keeper.untaken" dU ["self","a"])(B:Blt mg)(TKeeper:TC K cKeeper ["boxes","marks","holders","ticks","events","known"])(TAttempt:TC K cAttempt ["glance","looked","puts","stamp","unwritten","is_open"])(M_Keeper_found:dS P w K mg base cKeeper "found" (k) ["self","a"] aL):dS P w K mg base cKeeper "untaken" (k+1) ["self","a"] (fnU 3 2 (bW aL cKeeper cAttempt)):=
 d.pure fk fun f cdv A outer s H E hr=>(by
  have hu:=dC hr;have nd:=fk.nd;exact(aq (bz (i:=2) nd rfl (by trivial) (cf TKeeper.cl M_Keeper_found hr (TKeeper.nm (by decide +kernel)) (ae (wpv 0)) (ah (ae (wpv 1)) aF)))
   (aq (dc (bN sU xK (a9 TAttempt.cl (TAttempt.na 3 rfl) (TAttempt.ix rfl) (ae (wpv 2))) (qJ iN) (bC _)) (aM jq) bL)
   (aM (aV (ae (wpv 2)))))))
theorem eM:aQ ["self","a","boxes"] ["self","a","boxes"] (aw c9):=⟨rfl,rfl,rfl,by decide +kernel,rfl,by decide +kernel,by decide +kernel⟩
theorem iG{k:Nat}{cKeeper:Cl}(d:MtD K cKeeper.C "is_barred" "Keeper.is_barred" c9 ["self","a","boxes"])(B:Blt mg)(TKeeper:TC K cKeeper ["boxes","marks","holders","ticks","events","known"]):dS P w K mg base cKeeper "is_barred" (k+1) ["self","a","boxes"] (fnU 3 3 (b7 cKeeper)):=
 d.pure eM fun f cdv A outer s H E hr=>(by
  have hu:=dC hr;have nd:=eM.nd;exact(aM (aV (eN (qr rfl) Cq rfl B.any OG.qu (ah (vD (pI (Nc:=["b","a","self"]) (tn:=["b"]) (capN:=["a","self"]) (caps:=[1,0]) rfl (pH (ae (wpv 2))) (fun _ _ _=>(dB (bA (i:=0) (show(["b","a","self"]:List Str).Nodup by decide +kernel) rfl (by trivial)))) (fun _ _ _=>(zj zR Ft (xF hu (a9 TKeeper.cl (TKeeper.na 2 rfl) (TKeeper.ix rfl) (ae (wpv 2))) (ae (wpv 0)) (ae (wpv 1)) ⟨rfl,rfl,rfl,rfl⟩) (ae (wpv 1)) (bC _))) rfl rfl (by decide +kernel) (by decide +kernel) ⟨rfl,rfl,trivial⟩ rfl (.cons ⟨rfl,rfl,rfl,_,rfl⟩ (.cons ⟨rfl,rfl,rfl,_,rfl⟩ .nil)) rfl rfl) (sI (Nc:=["b","a","self"]) (tn:=["b"]) (capN:=["a","self"]) (caps:=[1,0]) rfl (ae (wpv 2)) (fun _ _ _=>(dB (bA (i:=0) (show(["b","a","self"]:List Str).Nodup by decide +kernel) rfl (by trivial)))) (fun _ _ _=>(zj zR Ft (xF hu (a9 TKeeper.cl (TKeeper.na 2 rfl) (TKeeper.ix rfl) (ae (wpv 2))) (ae (wpv 0)) (ae (wpv 1)) ⟨rfl,rfl,rfl,rfl⟩) (ae (wpv 1)) (bC _))) rfl rfl (by decide +kernel) (by decide +kernel) ⟨rfl,rfl,trivial⟩ rfl (.cons ⟨rfl,rfl,rfl,_,rfl⟩ (.cons ⟨rfl,rfl,rfl,_,rfl⟩ .nil)) rfl rfl)) aF)))))
theorem dG:aQ ["self","a","attempt"] ["self","a"] (aw cD):=⟨rfl,rfl,rfl,by decide +kernel,rfl,by decide +kernel,by decide +kernel⟩
theorem gD{k:Nat}{cKeeper cAttempt:Cl}(d:MtD K cKeeper.C "has_changed" "Keeper.has_changed" cD ["self","a"])(B:Blt mg)(TKeeper:TC K cKeeper ["boxes","marks","holders","ticks","events","known"])(TAttempt:TC K cAttempt ["glance","looked","puts","stamp","unwritten","is_open"]):dS P w K mg base cKeeper "has_changed" (k+1) ["self","a"] (fnU 3 2 (bq cKeeper cAttempt)):=
 d.pure dG fun f cdv A outer s H E hr=>(by
  have hu:=dC hr;have nd:=dG.nd;exact(aq (bz (i:=2) nd rfl (by trivial) (dR hu (a9 TKeeper.cl (TKeeper.na 5 rfl) (TKeeper.ix rfl) (ae (wpv 0))) (ae (wpv 1)) (fun _ _=>rfl) (fun _ _=>rfl)))
   (aM (aV (eN (qr rfl) Cq rfl B.any OG.qu (ah (sI (Nc:=["b","attempt","self"]) (tn:=["b"]) (capN:=["attempt","self"]) (caps:=[2,0]) rfl (a9 TAttempt.cl (TAttempt.na 1 rfl) (TAttempt.ix rfl) (ae (wpv 2))) (fun _ _ _=>(dB (bA (i:=0) (show(["b","attempt","self"]:List Str).Nodup by decide +kernel) rfl (by trivial)))) (fun _ _ _=>(zj zS Fv (dR hu (a9 TKeeper.cl (TKeeper.na 1 rfl) (TKeeper.ix rfl) (ae (wpv 2))) (ae (wpv 0)) (fun _ _=>rfl) (fun _ _=>rfl)) (a9 TAttempt.cl (TAttempt.na 0 rfl) (TAttempt.ix rfl) (ae (wpv 1))) (bC _))) rfl rfl (by decide +kernel) (by decide +kernel) ⟨rfl,rfl,trivial⟩ rfl (.cons ⟨rfl,rfl,rfl,_,rfl⟩ (.cons ⟨rfl,rfl,rfl,_,rfl⟩ .nil)) rfl rfl) aF))))))
theorem eC:aQ ["self","a","b"] ["self","a","b"] (aw cT):=⟨rfl,rfl,rfl,by decide +kernel,rfl,by decide +kernel,by decide +kernel⟩
theorem g9{k:Nat}{aA ay:Fn}{cKeeper cAttempt:Cl}(d:MtD K cKeeper.C "would_fall" "Keeper.would_fall" cT ["self","a","b"])(B:Blt mg)(TKeeper:TC K cKeeper ["boxes","marks","holders","ticks","events","known"])(TAttempt:TC K cAttempt ["glance","looked","puts","stamp","unwritten","is_open"])(M_Keeper_is_barred:dS P w K mg base cKeeper "is_barred" (k) ["self","a","boxes"] aA)(M_Keeper_has_changed:dS P w K mg base cKeeper "has_changed" (k) ["self","a"] ay):dS P w K mg base cKeeper "would_fall" (k+1) ["self","a","b"] (fnU 3 3 (aR aA ay cKeeper cAttempt)):=
 d.pure eC fun f cdv A outer s H E hr=>(by
  have hu:=dC hr;have nd:=eC.nd;exact(aq (dc (kE (cf TKeeper.cl M_Keeper_is_barred hr (TKeeper.nm (by decide +kernel)) (ae (wpv 0)) (ah (ae (wpv 1)) (ah (fO (ah (ae (wpv 2)) aF)) aF)))) (aM (aV (xG i7))) bL)
   (aq (dc (bN Fy Hd (dR hu (a9 TKeeper.cl (TKeeper.na 1 rfl) (TKeeper.ix rfl) (ae (wpv 0))) (ae (wpv 2)) (fun _ _=>rfl) (fun _ _=>rfl)) (a9 TAttempt.cl (TAttempt.na 0 rfl) (TAttempt.ix rfl) (dR hu (a9 TKeeper.cl (TKeeper.na 5 rfl) (TKeeper.ix rfl) (ae (wpv 0))) (ae (wpv 1)) (fun _ _=>rfl) (fun _ _=>rfl))) (bC _)) (aM (aV (xG i7))) bL)
   (aM (aV (Fc (cf TKeeper.cl M_Keeper_is_barred hr (TKeeper.nm (by decide +kernel)) (ae (wpv 0)) (ah (ae (wpv 1)) (ah (a9 TAttempt.cl (TAttempt.na 1 rfl) (TAttempt.ix rfl) (dR hu (a9 TKeeper.cl (TKeeper.na 5 rfl) (TKeeper.ix rfl) (ae (wpv 0))) (ae (wpv 1)) (fun _ _=>rfl) (fun _ _=>rfl))) aF))) (Fd (cf TKeeper.cl M_Keeper_has_changed hr (TKeeper.nm (by decide +kernel)) (ae (wpv 0)) (ah (ae (wpv 1)) aF)))))))))
theorem eL:aQ ["self","attempt","b"] ["self","attempt","b"] (aw cZ):=⟨rfl,rfl,rfl,by decide +kernel,rfl,by decide +kernel,by decide +kernel⟩
theorem iF{k:Nat}{cKeeper cAttempt:Cl}(d:MtD K cKeeper.C "look_anew" "Keeper.look_anew" cZ ["self","attempt","b"])(B:Blt mg)(TKeeper:TC K cKeeper ["boxes","marks","holders","ticks","events","known"])(TAttempt:TC K cAttempt ["glance","looked","puts","stamp","unwritten","is_open"]):dS P w K mg base cKeeper "look_anew" (k+1) ["self","attempt","b"] (fnU 3 3 (bc cKeeper cAttempt)):=
 d.pure eL fun f cdv A outer s H E hr=>(by
  have hu:=dC hr;have nd:=eL.nd;exact(aq (dc (bN zS Fv (dR hu (a9 TKeeper.cl (TKeeper.na 1 rfl) (TKeeper.ix rfl) (ae (wpv 0))) (ae (wpv 2)) (fun _ _=>rfl) (fun _ _=>rfl)) (a9 TAttempt.cl (TAttempt.na 0 rfl) (TAttempt.ix rfl) (ae (wpv 1))) (bC _)) (aM (b8 TAttempt.cl (TAttempt.na 0 rfl) (TAttempt.ix rfl) (ae (wpv 1)) (a9 TKeeper.cl (TKeeper.na 3 rfl) (TKeeper.ix rfl) (ae (wpv 0))))) bL)
   (aq (dF hu (a9 TAttempt.cl (TAttempt.na 1 rfl) (TAttempt.ix rfl) (ae (wpv 1))) (ae (wpv 2)) (xG i7))
   (aM (aV (dR hu (a9 TKeeper.cl (TKeeper.na 0 rfl) (TKeeper.ix rfl) (ae (wpv 0))) (ae (wpv 2)) (fun _ _=>rfl) (fun _ _=>rfl)))))))
theorem fV:aQ ["self","a"] ["self","a"] (aw fg):=⟨rfl,rfl,rfl,by decide +kernel,rfl,by decide +kernel,by decide +kernel⟩
theorem j9{k:Nat}{bJ:Fn}{cKeeper cAttempt:Cl}(d:MtD K cKeeper.C "begin" "Keeper.begin" fg ["self","a"])(B:Blt mg)(TKeeper:TC K cKeeper ["boxes","marks","holders","ticks","events","known"])(TAttempt:TC K cAttempt ["glance","looked","puts","stamp","unwritten","is_open"])(M_Attempt:CMk P w K mg base cAttempt "Attempt" k ["self","glance"] bJ):dS P w K mg base cKeeper "begin" (k+1+1) ["self","a"] (fnU 2 2 (cQ bJ cKeeper cAttempt)):=
 d.pure fV fun f cdv A outer s H E hr=>(by
  have hu:=dC hr;have nd:=fV.nd;exact(aq (dc (BR hu (ae (wpv 1)) (a9 TKeeper.cl (TKeeper.na 5 rfl) (TKeeper.ix rfl) (ae (wpv 0))) (by with_unfolding_all rfl)) (aM jq) bL)
   (aq (dF hu (a9 TKeeper.cl (TKeeper.na 5 rfl) (TKeeper.ix rfl) (ae (wpv 0))) (ae (wpv 1)) (sH M_Attempt hr rfl (ah (a9 TKeeper.cl (TKeeper.na 3 rfl) (TKeeper.ix rfl) (ae (wpv 0))) aF)))
   (aM (de (fG (a9 TKeeper.cl (TKeeper.na 4 rfl) (TKeeper.ix rfl) (ae (wpv 0))) (ah (fF (ah (cE aT) (ah (ae (wpv 1)) aF))) aF)))))))
theorem gJ:aQ ["self","a","b","attempt","number"] ["self","a","b"] (aw fD):=⟨rfl,rfl,rfl,by decide +kernel,rfl,by decide +kernel,by decide +kernel⟩
theorem lK{k:Nat}{av aU aC a6:Fn}{cKeeper cAttempt:Cl}(d:MtD K cKeeper.C "look" "Keeper.look" fD ["self","a","b"])(B:Blt mg)(TKeeper:TC K cKeeper ["boxes","marks","holders","ticks","events","known"])(TAttempt:TC K cAttempt ["glance","looked","puts","stamp","unwritten","is_open"])(M_Keeper_untaken:dS P w K mg base cKeeper "untaken" (k) ["self","a"] av)(M_Keeper_would_fall:dS P w K mg base cKeeper "would_fall" (k) ["self","a","b"] aU)(M_Keeper_end:dS P w K mg base cKeeper "end" (k) ["self","a","word"] aC)(M_Keeper_look_anew:dS P w K mg base cKeeper "look_anew" (k) ["self","attempt","b"] a6):dS P w K mg base cKeeper "look" (k+1) ["self","a","b"] (fnU 5 3 (bV av aU aC a6 cKeeper cAttempt)):=
 d.pure gJ fun f cdv A outer s H E hr=>(by
  have hu:=dC hr;have nd:=gJ.nd;exact(aq (bz (i:=3) nd rfl (by trivial) (cf TKeeper.cl M_Keeper_untaken hr (TKeeper.nm (by decide +kernel)) (ae (wpv 0)) (ah (ae (wpv 1)) aF)))
   (aq (dc (BR hu (ae (wpv 2)) (a9 TAttempt.cl (TAttempt.na 2 rfl) (TAttempt.ix rfl) (ae (wpv 3))) (by with_unfolding_all rfl)) (aM (bz (i:=4) nd rfl (by trivial) (dR hu (a9 TAttempt.cl (TAttempt.na 2 rfl) (TAttempt.ix rfl) (ae (wpv 3))) (ae (wpv 2)) (fun _ _=>rfl) (fun _ _=>rfl)))) (aM (dc (kE (cf TKeeper.cl M_Keeper_would_fall hr (TKeeper.nm (by decide +kernel)) (ae (wpv 0)) (ah (ae (wpv 1)) (ah (ae (wpv 2)) aF)))) (aq (de (cf TKeeper.cl M_Keeper_end hr (TKeeper.nm (by decide +kernel)) (ae (wpv 0)) (ah (ae (wpv 1)) (ah (cE aT) aF))))
   (aM (aV (fF (ah (cE aT) aF))))) (aM (bz (i:=4) nd rfl (by trivial) (cf TKeeper.cl M_Keeper_look_anew hr (TKeeper.nm (by decide +kernel)) (ae (wpv 0)) (ah (ae (wpv 3)) (ah (ae (wpv 2)) aF))))))))
   (aq (de (fG (a9 TKeeper.cl (TKeeper.na 4 rfl) (TKeeper.ix rfl) (ae (wpv 0))) (ah (fF (ah (cE aT) (ah (ae (wpv 1)) (ah (ae (wpv 2)) (ah (ae (wpv 4)) aF))))) aF)))
   (aM (aV (fF (ah (cE aT) (ah (ae (wpv 4)) aF)))))))))
theorem ig:aQ ["self","a","b","v","attempt"] ["self","a","b","v"] (aw fY):=⟨rfl,rfl,rfl,by decide +kernel,rfl,by decide +kernel,by decide +kernel⟩
theorem m9{k:Nat}{av:Fn}{cKeeper cAttempt:Cl}(d:MtD K cKeeper.C "put" "Keeper.put" fY ["self","a","b","v"])(B:Blt mg)(TKeeper:TC K cKeeper ["boxes","marks","holders","ticks","events","known"])(TAttempt:TC K cAttempt ["glance","looked","puts","stamp","unwritten","is_open"])(M_Keeper_untaken:dS P w K mg base cKeeper "untaken" (k) ["self","a"] av):dS P w K mg base cKeeper "put" (k+1) ["self","a","b","v"] (fnU 5 4 (dM av cKeeper cAttempt)):=
 d.pure ig fun f cdv A outer s H E hr=>(by
  have hu:=dC hr;have nd:=ig.nd;exact(aq (bz (i:=4) nd rfl (by trivial) (cf TKeeper.cl M_Keeper_untaken hr (TKeeper.nm (by decide +kernel)) (ae (wpv 0)) (ah (ae (wpv 1)) aF)))
   (aq (dF hu (a9 TAttempt.cl (TAttempt.na 2 rfl) (TAttempt.ix rfl) (ae (wpv 4))) (ae (wpv 2)) (ae (wpv 3)))
   (aM (de (fG (a9 TKeeper.cl (TKeeper.na 4 rfl) (TKeeper.ix rfl) (ae (wpv 0))) (ah (fF (ah (cE aT) (ah (ae (wpv 1)) (ah (ae (wpv 2)) (ah (ae (wpv 3)) aF))))) aF)))))))
theorem gH:aQ ["self","a","attempt","b"] ["self","a"] (aw fB):=⟨rfl,rfl,rfl,by decide +kernel,rfl,by decide +kernel,by decide +kernel⟩
theorem lI{k:Nat}{av aC aA ay:Fn}{cKeeper cAttempt:Cl}(d:MtD K cKeeper.C "take" "Keeper.take" fB ["self","a"])(B:Blt mg)(TKeeper:TC K cKeeper ["boxes","marks","holders","ticks","events","known"])(TAttempt:TC K cAttempt ["glance","looked","puts","stamp","unwritten","is_open"])(M_Keeper_untaken:dS P w K mg base cKeeper "untaken" (k) ["self","a"] av)(M_Keeper_end:dS P w K mg base cKeeper "end" (k) ["self","a","word"] aC)(M_Keeper_is_barred:dS P w K mg base cKeeper "is_barred" (k) ["self","a","boxes"] aA)(M_Keeper_has_changed:dS P w K mg base cKeeper "has_changed" (k) ["self","a"] ay):dS P w K mg base cKeeper "take" (k+1) ["self","a"] (fnU 4 2 (dj av aC aA ay cKeeper cAttempt)):=
 d.pure gH fun f cdv A outer s H E hr=>(by
  have hu:=dC hr;have nd:=gH.nd;exact(aq (bz (i:=2) nd rfl (by trivial) (cf TKeeper.cl M_Keeper_untaken hr (TKeeper.nm (by decide +kernel)) (ae (wpv 0)) (ah (ae (wpv 1)) aF)))
   (aq (dc (bN mP xN (eN mQ mM rfl B.len PySem.boot_len (ah (a9 TAttempt.cl (TAttempt.na 2 rfl) (TAttempt.ix rfl) (ae (wpv 2))) aF)) (aS aB) (bC _)) (aq (de (cf TKeeper.cl M_Keeper_end hr (TKeeper.nm (by decide +kernel)) (ae (wpv 0)) (ah (ae (wpv 1)) (ah (cE aT) aF))))
   (aM (aV (cE aT)))) bL)
   (aq (dc (BP (BS (kE (cf TKeeper.cl M_Keeper_is_barred hr (TKeeper.nm (by decide +kernel)) (ae (wpv 0)) (ah (ae (wpv 1)) (ah (a9 TAttempt.cl (TAttempt.na 1 rfl) (TAttempt.ix rfl) (ae (wpv 2))) aF)))) (BS (kE (cf TKeeper.cl M_Keeper_is_barred hr (TKeeper.nm (by decide +kernel)) (ae (wpv 0)) (ah (ae (wpv 1)) (ah (a9 TAttempt.cl (TAttempt.na 2 rfl) (TAttempt.ix rfl) (ae (wpv 2))) aF)))) (vC (kE (cf TKeeper.cl M_Keeper_has_changed hr (TKeeper.nm (by decide +kernel)) (ae (wpv 0)) (ah (ae (wpv 1)) aF))))))) (aq (de (cf TKeeper.cl M_Keeper_end hr (TKeeper.nm (by decide +kernel)) (ae (wpv 0)) (ah (ae (wpv 1)) (ah (cE aT) aF))))
   (aM (aV (cE aT)))) bL)
   (aq (b8 TKeeper.cl (TKeeper.na 3 rfl) (TKeeper.ix rfl) (ae (wpv 0)) (iM j1 j0 (a9 TKeeper.cl (TKeeper.na 3 rfl) (TKeeper.ix rfl) (ae (wpv 0))) (aS aB)))
   (aq (b8 TAttempt.cl (TAttempt.na 3 rfl) (TAttempt.ix rfl) (ae (wpv 2)) (a9 TKeeper.cl (TKeeper.na 3 rfl) (TKeeper.ix rfl) (ae (wpv 0))))
   (aq (b8 TAttempt.cl (TAttempt.na 4 rfl) (TAttempt.ix rfl) (ae (wpv 2)) (eN (wb rfl) vV rfl B.sorted OG.jV (ah (a9 TAttempt.cl (TAttempt.na 2 rfl) (TAttempt.ix rfl) (ae (wpv 2))) aF)))
   (aq (mI PassesOwn.never rfl (pH (a9 TAttempt.cl (TAttempt.na 4 rfl) (TAttempt.ix rfl) (ae (wpv 2)))) (dB (bA (i:=3) nd rfl (by trivial))) (aM (dF hu (a9 TKeeper.cl (TKeeper.na 2 rfl) (TKeeper.ix rfl) (ae (wpv 0))) (ae (wpv 3)) (ae (wpv 1)))))
   (aM (aV (cE aT)))))))))))
theorem fS:aQ ["self","a","attempt","b","held"] ["self","a"] (aw e9):=⟨rfl,rfl,rfl,by decide +kernel,rfl,by decide +kernel,by decide +kernel⟩
theorem j5{k:Nat}{aL aC:Fn}{cKeeper cAttempt:Cl}(d:MtD K cKeeper.C "write" "Keeper.write" e9 ["self","a"])(B:Blt mg)(TKeeper:TC K cKeeper ["boxes","marks","holders","ticks","events","known"])(TAttempt:TC K cAttempt ["glance","looked","puts","stamp","unwritten","is_open"])(M_Keeper_found:dS P w K mg base cKeeper "found" (k) ["self","a"] aL)(M_Keeper_end:dS P w K mg base cKeeper "end" (k) ["self","a","word"] aC):dS P w K mg base cKeeper "write" (k+1) ["self","a"] (fnU 5 2 (cL aL aC cKeeper cAttempt)):=
 d.pure fS fun f cdv A outer s H E hr=>(by
  have hu:=dC hr;have nd:=fS.nd;exact(aq (bz (i:=2) nd rfl (by trivial) (cf TKeeper.cl M_Keeper_found hr (TKeeper.nm (by decide +kernel)) (ae (wpv 0)) (ah (ae (wpv 1)) aF)))
   (aq (dc (bN xP Cp (a9 TAttempt.cl (TAttempt.na 3 rfl) (TAttempt.ix rfl) (ae (wpv 2))) (qJ iN) (bC _)) (aM jq) bL)
   (aq (bz (i:=3) nd rfl (by trivial) (zi (a9 TAttempt.cl (TAttempt.na 4 rfl) (TAttempt.ix rfl) (ae (wpv 2))) (ah (aS aB) aF)))
   (aq (dF hu (a9 TKeeper.cl (TKeeper.na 0 rfl) (TKeeper.ix rfl) (ae (wpv 0))) (ae (wpv 3)) (dR hu (a9 TAttempt.cl (TAttempt.na 2 rfl) (TAttempt.ix rfl) (ae (wpv 2))) (ae (wpv 3)) (fun _ _=>rfl) (fun _ _=>rfl)))
   (aq (dF hu (a9 TKeeper.cl (TKeeper.na 1 rfl) (TKeeper.ix rfl) (ae (wpv 0))) (ae (wpv 3)) (a9 TAttempt.cl (TAttempt.na 3 rfl) (TAttempt.ix rfl) (ae (wpv 2))))
   (aq (dc (bN zS Fv (eN mQ mM rfl B.len PySem.boot_len (ah (a9 TAttempt.cl (TAttempt.na 4 rfl) (TAttempt.ix rfl) (ae (wpv 2))) aF)) (aS aB) (bC _)) (aM (aV (cE aT))) bL)
   (aq (ze PassesOwn.never rfl (a9 TAttempt.cl (TAttempt.na 2 rfl) (TAttempt.ix rfl) (ae (wpv 2))) (dB (bA (i:=4) nd rfl (by trivial))) (aM (de (BU (a9 TKeeper.cl (TKeeper.na 2 rfl) (TKeeper.ix rfl) (ae (wpv 0))) (ae (wpv 4)) ⟨rfl,rfl,rfl,rfl⟩))))
   (aq (de (cf TKeeper.cl M_Keeper_end hr (TKeeper.nm (by decide +kernel)) (ae (wpv 0)) (ah (ae (wpv 1)) (ah (cE aT) aF))))
   (aM (aV (cE aT))))))))))))
def iq:aQ ["self"] ["self"] (aw f6):=⟨rfl,rfl,rfl,by decide +kernel,rfl,by decide +kernel,by decide +kernel⟩
theorem nh{k:Nat}{cKeeper:Cl}(d:MtD K cKeeper.C "log" "Keeper.log" f6 ["self"])(B:Blt mg)(TKeeper:TC K cKeeper ["boxes","marks","holders","ticks","events","known"]):dS P w K mg base cKeeper "log" (k+1) ["self"] (fnU 1 1 (dP cKeeper)):=
 d.pure iq fun f cdv A outer s H E hr=>(by
  have hu:=dC hr;have nd:=iq.nd;exact(aM (aV (js jd xM rfl B.list OG.nL (ah (a9 TKeeper.cl (TKeeper.na 4 rfl) (TKeeper.ix rfl) (ae (wpv 0))) aF)))))
def jB:aQ ["self"] ["self"] (aw fb):=⟨rfl,rfl,rfl,by decide +kernel,rfl,by decide +kernel,by decide +kernel⟩
abbrev zOf(p:Addr):O:=.cod p ⟨135,38,135,71⟩ ("Keeper.order"++".<locals>."++"<lambda>")
theorem j6{k:Nat}{ba:Fn}{cKeeper cAttempt:Cl}{cO pO:Addr}(d:MtD K cKeeper.C "order" "Keeper.order" fb ["self"])(cd:AJ K cKeeper.C "order" cO pO)(bm:uS mg base)(B:Blt mg)(TKeeper:TC K cKeeper ["boxes","marks","holders","ticks","events","known"])(TAttempt:TC K cAttempt ["glance","looked","puts","stamp","unwritten","is_open"])(M_Attempt_instant:dS P w K mg base cAttempt "instant" k ["self"] ba):dS P w K mg base cKeeper "order" (k+3+1) ["self"] (fnU 1 1 (cM ba cKeeper cAttempt (zOf pO))):=by
 have hC:=cd;obtain⟨_,_,_,_,_,_,_,hC⟩:=hC;exact d.pureC cd jB fun f A outer s H E hr=>aM (aV (zh (x:="self") (pa:="a") (k:=0) (kr:=k) (cx:=s.heap.objs.size+1) ⟨rfl,rfl,rfl,rfl,rfl,rfl,rfl,by decide,fun _ _ _ _ _=>rfl,fun f' cd' A' s' H' hr'=>gW TAttempt.cl M_Attempt_instant hr' (TAttempt.nm (by decide +kernel)) (dR (dC hr') (a9 TKeeper.cl (TKeeper.na 5 rfl) (TKeeper.ix rfl) (ae (wpv 1))) (ae (wpv 0)) (fun _ _=>rfl) (fun _ _=>rfl))⟩ hr rfl rfl B.sorted OG.jV (a9 TKeeper.cl (TKeeper.na 5 rfl) (TKeeper.ix rfl) (ae (wpv 0))) rfl hC bm rfl rfl))
def ik:aQ ["self"] ["self"] (aw fZ):=⟨rfl,rfl,rfl,by decide +kernel,rfl,by decide +kernel,by decide +kernel⟩
theorem ng{k:Nat}{cKeeper:Cl}(d:MtD K cKeeper.C "now" "Keeper.now" fZ ["self"])(B:Blt mg)(TKeeper:TC K cKeeper ["boxes","marks","holders","ticks","events","known"]):dS P w K mg base cKeeper "now" (k+1) ["self"] (fnU 1 1 (dN cKeeper)):=
 d.pure ik fun f cdv A outer s H E hr=>(by
  have hu:=dC hr;have nd:=ik.nd;exact(aM (aV (js iI sS rfl B.tuple OG.kO (ah (a9 TKeeper.cl (TKeeper.na 0 rfl) (TKeeper.ix rfl) (ae (wpv 0))) aF)))))
def fU:aQ ["self"] ["self"] (aw fe):=⟨rfl,rfl,rfl,by decide +kernel,rfl,by decide +kernel,by decide +kernel⟩
theorem j8{k:Nat}{cKeeper:Cl}(d:MtD K cKeeper.C "clock" "Keeper.clock" fe ["self"])(B:Blt mg)(TKeeper:TC K cKeeper ["boxes","marks","holders","ticks","events","known"]):dS P w K mg base cKeeper "clock" (k+1) ["self"] (fnU 1 1 (cP cKeeper)):=
 d.pure fU fun f cdv A outer s H E hr=>(by
  have hu:=dC hr;have nd:=fU.nd;exact(aM (aV (a9 TKeeper.cl (TKeeper.na 3 rfl) (TKeeper.ix rfl) (ae (wpv 0))))))
theorem gI:aQ ["self","b"] ["self","b"] (aw fC):=⟨rfl,rfl,rfl,by decide +kernel,rfl,by decide +kernel,by decide +kernel⟩
theorem lJ{k:Nat}{cKeeper:Cl}(d:MtD K cKeeper.C "mark" "Keeper.mark" fC ["self","b"])(B:Blt mg)(TKeeper:TC K cKeeper ["boxes","marks","holders","ticks","events","known"]):dS P w K mg base cKeeper "mark" (k+1) ["self","b"] (fnU 2 2 (dk cKeeper)):=
 d.pure gI fun f cdv A outer s H E hr=>(by
  have hu:=dC hr;have nd:=gI.nd;exact(aM (aV (dR hu (a9 TKeeper.cl (TKeeper.na 1 rfl) (TKeeper.ix rfl) (ae (wpv 0))) (ae (wpv 1)) (fun _ _=>rfl) (fun _ _=>rfl)))))
theorem i8:aQ ["script","k","number","stir","found","turn"] ["script","k"] (aw gT):=⟨rfl,rfl,rfl,by decide +kernel,rfl,by decide +kernel,by decide +kernel⟩
theorem oA{k:Nat}(d:Def K mg "_law_well" gT ["script","k"])(B:Blt mg):oV P w K mg base "_law_well" (k+1) ["script","k"] (fnU 6 2 (dD )):=
 d.pure i8 fun f cdv A outer s H E hr=>(by
  have hu:=dC hr;have nd:=i8.nd;exact(aq (bz (i:=2) nd rfl (by trivial) (iM j1 j0 (iM iB mL (aS aB) (ae (wpv 1))) (aS aB)))
   (aq (dc (bN wa DJ (ae (wpv 1)) (eN mQ mM rfl B.len PySem.boot_len (ah (ae (wpv 0)) aF)) (bC _)) (aM (bz (i:=2) nd rfl (by trivial) (dR hu (ae (wpv 0)) (ae (wpv 1)) (fun _ _=>rfl) (fun _ _=>rfl)))) bL)
   (aq (dc (bN mP xN (iM mO sT (ae (wpv 2)) (aS aB)) (aS aB) (bC _)) (aM (aV (fO (ah (iM lu zM (ae (wpv 2)) (aS aB)) aF)))) bL)
   (aq (bz (i:=3) nd rfl (by trivial) (iM mO sT (iM j1 j0 (iM j1 j0 (iM iB mL (ae (wpv 2)) (aS aB)) (iM iB mL (aS aB) (ae (wpv 1)))) (aS aB)) (aS aB)))
   (aq (bz (i:=4) nd rfl (by trivial) (aS aB))
   (aq (mI PassesOwn.never rfl (fq rfl B.range (ah (aS aB) aF)) (dB (bA (i:=5) nd rfl (by trivial))) (aq (bz (i:=3) nd rfl (by trivial) (iM mO sT (iM j1 j0 (iM j1 j0 (iM j1 j0 (iM iB mL (ae (wpv 3)) (ae (wpv 3))) (iM iB mL (aS aB) (ae (wpv 3)))) (iM iB mL (aS aB) (ae (wpv 5)))) (aS aB)) (aS aB)))
   (aM (bz (i:=4) nd rfl (by trivial) (iM j1 j0 (iM iB mL (ae (wpv 4)) (aS aB)) (ae (wpv 3)))))))
   (aM (aV (fO (ah (ae (wpv 4)) aF)))))))))))
theorem jy:aQ ["well","many","digit"] ["well","many"] (aw iQ):=⟨rfl,rfl,rfl,by decide +kernel,rfl,by decide +kernel,by decide +kernel⟩
theorem qU{k:Nat}(d:Def K mg "_law_sip" iQ ["well","many"])(B:Blt mg):oV P w K mg base "_law_sip" (k+1) ["well","many"] (fnU 3 2 (fu )):=
 d.pure jy fun f cdv A outer s H E hr=>(by
  have hu:=dC hr;have nd:=jy.nd;exact(aq (bz (i:=2) nd rfl (by trivial) (iM mO sT (dR hu (ae (wpv 0)) (aS aB) (fun _ _=>rfl) (fun _ _=>rfl)) (ae (wpv 1))))
   (aq (dF hu (ae (wpv 0)) (aS aB) (iM lu zM (dR hu (ae (wpv 0)) (aS aB) (fun _ _=>rfl) (fun _ _=>rfl)) (ae (wpv 1))))
   (aM (aV (ae (wpv 2)))))))
theorem ie:aQ ["well","n","w"] ["well"] (aw fX):=⟨rfl,rfl,rfl,by decide +kernel,rfl,by decide +kernel,by decide +kernel⟩
def dJ(aE:Fn):CS:=
 (aX (eR 1 (cOp oI (cC (.int 1)) (cCB aE (ag (ak 0) (ag (cOp fIx (fQ (ag (cC (.int 2)) (ag (cC (.int 3)) (ag (cC (.int 6)) aH)))) (cCB aE (ag (ak 0) (ag (cC (.int 3)) aH)))) aH)))))
  (aX (eR 2 (cOp fIx (fQ (ag (cC (.int 2)) (ag (cC (.int 3)) (ag (cC (.int 7)) (ag (cC (.int 1000)) aH))))) (cCB aE (ag (ak 0) (ag (cC (.int 4)) aH)))))
  (eJ (gi (ag (gi (ag (ak 1) (ag (ak 2) aH))) (ag (cCB jP (ag (dZ (bR (ag (ak 1) aH)) (gNm 0) (cCB aE (ag (ak 1) (ag (ak 2) aH))) 1 [0,2]) aH)) aH))))))
def nv{aE:Fn}{a0:U}{S:Sto}:fnU 3 1 (dJ aE) [a0] S=((dJ aE) [some a0,none,none] S).bind kFn:=i4 rfl
theorem m8{k:Nat}{aE:Fn}(d:Def K mg "_law_world" fX ["well"])(B:Blt mg)(aW:oV P w K mg base "_law_sip" (k) ["well","many"] aE):oV P w K mg base "_law_world" (k+1) ["well"] (fnU 3 1 (dJ aE)):=
 d.pure ie fun f cdv A outer s H E hr=>(by
  have hu:=dC hr;have nd:=ie.nd;exact(aq (bz (i:=1) nd rfl (by trivial) (iM j1 j0 (aS aB) (cH aW hr rfl (ah (ae (wpv 0)) (ah (dR hu (fO (ah (aS aB) (ah (aS aB) (ah (aS aB) aF)))) (cH aW hr rfl (ah (ae (wpv 0)) (ah (aS aB) aF))) (fun _ _=>rfl) (fun _ _=>rfl)) aF)))))
   (aq (bz (i:=2) nd rfl (by trivial) (dR hu (fO (ah (aS aB) (ah (aS aB) (ah (aS aB) (ah (aS aB) aF))))) (cH aW hr rfl (ah (ae (wpv 0)) (ah (aS aB) aF))) (fun _ _=>rfl) (fun _ _=>rfl)))
   (aM (aV (fF (ah (fF (ah (ae (wpv 1)) (ah (ae (wpv 2)) aF))) (ah (js iI sS rfl B.tuple OG.kO (ah (pI (Nc:=["box","well","w"]) (tn:=["box"]) (capN:=["well","w"]) (caps:=[0,2]) rfl (fq rfl B.range (ah (ae (wpv 1)) aF)) (fun _ _ _=>(dB (bA (i:=0) (show(["box","well","w"]:List Str).Nodup by decide +kernel) rfl (by trivial)))) (fun _ _ _=>(cH aW hr rfl (ah (ae (wpv 1)) (ah (ae (wpv 2)) aF)))) rfl rfl (by decide +kernel) (by decide +kernel) ⟨rfl,rfl,trivial⟩ rfl (.cons ⟨rfl,rfl,rfl,_,rfl⟩ (.cons ⟨rfl,rfl,rfl,_,rfl⟩ .nil)) rfl rfl) aF)) aF))))))))
theorem i9:aQ ["well","world","phase","going","a","box","way"] ["well","world","phase"] (aw gU):=⟨rfl,rfl,rfl,by decide +kernel,rfl,by decide +kernel,by decide +kernel⟩
def eQ(aE:Fn):CS:=
 (aX (eR 3 (iJ (ak 2) (gNm 0) (aP (cOp fNe (cOp fIx (ak 1) (ak 0)) (cC (.str "off")))) (ak 0) 1 [2]))
  (aX (fj (Dh (aP (cOp fLt (cCB nV (ag (ak 2) aH)) (cC (.int 6)))) (cOr (aP (cOp (hZ false) (ak 3) (fQ aH))) (aP (cOp fEq (cCB aE (ag (ak 0) (ag (cC (.int 5)) aH))) (cC (.int 0)))))) (aX (dr (ak 2) (cCB nV (ag (ak 2) aH)) (cC (.str "on")))
  (eJ (gi (ag (cC (.str "begin")) (ag (cOp FU (cCB nV (ag (ak 2) aH)) (cC (.int 1))) aH))))) bX)
  (aX (fj (aP (cOp (hZ false) (ak 3) (fQ aH))) (eJ (cC .non)) bX)
  (aX (eR 4 (cOp fIx (ak 3) (cCB aE (ag (ak 0) (ag (cCB nV (ag (ak 3) aH)) aH)))))
  (aX (eR 5 (cCB aE (ag (ak 0) (ag (cOp fIx (ak 1) (cC (.int 0))) aH))))
  (aX (fj (aP (cOp fEq (cOp fIx (ak 2) (ak 4)) (cC (.str "taken")))) (eJ (gi (ag (cC (.str "write")) (ag (ak 4) aH)))) bX)
  (aX (eR 6 (cCB aE (ag (ak 0) (ag (cC (.int 12)) aH))))
  (aX (fj (aP (cOp fLt (ak 6) (cC (.int 6)))) (eJ (gi (ag (cC (.str "look")) (ag (ak 4) (ag (ak 5) aH))))) bX)
  (aX (fj (aP (cOp fLt (ak 6) (cC (.int 9)))) (eJ (gi (ag (cC (.str "put")) (ag (ak 4) (ag (ak 5) (ag (cCB aE (ag (ak 0) (ag (cOp fIx (ak 1) (cC (.int 1))) aH))) aH)))))) bX)
  (eJ (gi (ag (cC (.str "take")) (ag (ak 4) aH)))))))))))))
theorem oK{aE:Fn}{a0 a1 a2:U}{S:Sto}:fnU 7 3 (eQ aE) [a0,a1,a2] S=((eQ aE) [some a0,some a1,some a2,none,none,none,none] S).bind kFn:=i4 rfl
theorem oB{k:Nat}{aE:Fn}(d:Def K mg "_law_next" gU ["well","world","phase"])(B:Blt mg)(aW:oV P w K mg base "_law_sip" (k) ["well","many"] aE):oV P w K mg base "_law_next" (k+1) ["well","world","phase"] (fnU 7 3 (eQ aE)):=
 d.pure i9 fun f cdv A outer s H E hr=>(by
  have hu:=dC hr;have nd:=i9.nd;exact(aq (k8 (Nc:=["a","phase"]) (tn:=["a"]) (capN:=["phase"]) (caps:=[2]) rfl (ae (wpv 2)) (fun _ _ _=>(dB (bA (i:=0) (show(["a","phase"]:List Str).Nodup by decide +kernel) rfl (by trivial)))) (fun _ _ _=>(bN zR Ft (dR hu (ae (wpv 1)) (ae (wpv 0)) (fun _ _=>rfl) (fun _ _=>rfl)) (cE aT) (bC _))) (fun _ _ _=>(ae (wpv 0))) rfl rfl (by decide +kernel) (by decide +kernel) ⟨rfl,trivial⟩ rfl (.cons ⟨rfl,rfl,rfl,_,rfl⟩ .nil) rfl rfl nd rfl rfl rfl)
   (aq (dc (BP (Fe (bN wa DJ (eN mQ mM rfl B.len PySem.boot_len (ah (ae (wpv 2)) aF)) (aS aB) (bC _)) (BV (BP (BS (bN (pN hr.units) qN (ae (wpv 3)) (fO aF) (bC _)) (vC (bN mP xN (cH aW hr rfl (ah (ae (wpv 0)) (ah (aS aB) aF))) (aS aB) (bC _)))))))) (aq (dF hu (ae (wpv 2)) (eN mQ mM rfl B.len PySem.boot_len (ah (ae (wpv 2)) aF)) (cE aT))
   (aM (aV (fF (ah (cE aT) (ah (iM Cr Fq (eN mQ mM rfl B.len PySem.boot_len (ah (ae (wpv 2)) aF)) (aS aB)) aF)))))) bL)
   (aq (dc (bN (pN hr.units) qN (ae (wpv 3)) (fO aF) (bC _)) (aM (aV (qJ iN))) bL)
   (aq (bz (i:=4) nd rfl (by trivial) (dR hu (ae (wpv 3)) (cH aW hr rfl (ah (ae (wpv 0)) (ah (eN mQ mM rfl B.len PySem.boot_len (ah (ae (wpv 3)) aF)) aF))) (fun _ _=>rfl) (fun _ _=>rfl)))
   (aq (bz (i:=5) nd rfl (by trivial) (cH aW hr rfl (ah (ae (wpv 0)) (ah (dR hu (ae (wpv 1)) (aS aB) (fun _ _=>rfl) (fun _ _=>rfl)) aF))))
   (aq (dc (bN mP xN (dR hu (ae (wpv 2)) (ae (wpv 4)) (fun _ _=>rfl) (fun _ _=>rfl)) (cE aT) (bC _)) (aM (aV (fF (ah (cE aT) (ah (ae (wpv 4)) aF))))) bL)
   (aq (bz (i:=6) nd rfl (by trivial) (cH aW hr rfl (ah (ae (wpv 0)) (ah (aS aB) aF))))
   (aq (dc (bN wa DJ (ae (wpv 6)) (aS aB) (bC _)) (aM (aV (fF (ah (cE aT) (ah (ae (wpv 4)) (ah (ae (wpv 5)) aF)))))) bL)
   (aq (dc (bN wa DJ (ae (wpv 6)) (aS aB) (bC _)) (aM (aV (fF (ah (cE aT) (ah (ae (wpv 4)) (ah (ae (wpv 5)) (ah (cH aW hr rfl (ah (ae (wpv 0)) (ah (dR hu (ae (wpv 1)) (aS aB) (fun _ _=>rfl) (fun _ _=>rfl)) aF))) aF))))))) bL)
   (aM (aV (fF (ah (cE aT) (ah (ae (wpv 4)) aF)))))))))))))))
theorem gG:aQ ["keeper","call","word","a"] ["keeper","call"] (aw fA):=⟨rfl,rfl,rfl,by decide +kernel,rfl,by decide +kernel,by decide +kernel⟩
def br(bI bU cg bS bF:Fn)(cKeeper:Cl):CS:=
 (aX (Df (DU (ak 1) none (some (cC (.int 2)))) (gTp [2,3]))
  (aX (fj (aP (cOp fEq (ak 2) (cC (.str "begin")))) (eJ (bt cKeeper bI (ak 0) (ag (ak 3) aH))) bX)
  (aX (fj (aP (cOp fEq (ak 2) (cC (.str "look")))) (eJ (bt cKeeper bU (ak 0) (ag (ak 3) (ag (cOp fIx (ak 1) (cC (.int 2))) aH)))) bX)
  (aX (fj (aP (cOp fEq (ak 2) (cC (.str "put")))) (eJ (bt cKeeper cg (ak 0) (ag (ak 3) (ag (cOp fIx (ak 1) (cC (.int 2))) (ag (cOp fIx (ak 1) (cC (.int 3))) aH))))) bX)
  (aX (fj (aP (cOp fEq (ak 2) (cC (.str "take")))) (eJ (bt cKeeper bS (ak 0) (ag (ak 3) aH))) bX)
  (eJ (bt cKeeper bF (ak 0) (ag (ak 3) aH))))))))
theorem di{bI bU cg bS bF:Fn}{cKeeper:Cl}{a0 a1:U}{S:Sto}:fnU 4 2 (br bI bU cg bS bF cKeeper) [a0,a1] S=((br bI bU cg bS bF cKeeper) [some a0,some a1,none,none] S).bind kFn:=i4 rfl
theorem lH{k:Nat}{bI bU cg bS bF:Fn}{cKeeper:Cl}(d:Def K mg "_law_put_to" fA ["keeper","call"])(B:Blt mg)(TKeeper:TC K cKeeper ["boxes","marks","holders","ticks","events","known"])(M_Keeper_begin:dS P w K mg base cKeeper "begin" (k) ["self","a"] bI)(M_Keeper_look:dS P w K mg base cKeeper "look" (k) ["self","a","b"] bU)(M_Keeper_put:dS P w K mg base cKeeper "put" (k) ["self","a","b","v"] cg)(M_Keeper_take:dS P w K mg base cKeeper "take" (k) ["self","a"] bS)(M_Keeper_write:dS P w K mg base cKeeper "write" (k) ["self","a"] bF):oV P w K mg base "_law_put_to" (k+1) ["keeper","call"] (fnU 4 2 (br bI bU cg bS bF cKeeper)):=
 d.pure gG fun f cdv A outer s H E hr=>(by
  have hu:=dC hr;have nd:=gG.nd;exact(aq (BO (Fb (ae (wpv 1)) zg (zf (aS aB))) (xE rfl (jr (bA (i:=2) nd rfl (by trivial)) (jr (bA (i:=3) nd rfl (by trivial)) sG))))
   (aq (dc (bN mP xN (ae (wpv 2)) (cE aT) (bC _)) (aM (aV (cf TKeeper.cl M_Keeper_begin hr (TKeeper.nm (by decide +kernel)) (ae (wpv 0)) (ah (ae (wpv 3)) aF)))) bL)
   (aq (dc (bN mP xN (ae (wpv 2)) (cE aT) (bC _)) (aM (aV (cf TKeeper.cl M_Keeper_look hr (TKeeper.nm (by decide +kernel)) (ae (wpv 0)) (ah (ae (wpv 3)) (ah (dR hu (ae (wpv 1)) (aS aB) (fun _ _=>rfl) (fun _ _=>rfl)) aF))))) bL)
   (aq (dc (bN mP xN (ae (wpv 2)) (cE aT) (bC _)) (aM (aV (cf TKeeper.cl M_Keeper_put hr (TKeeper.nm (by decide +kernel)) (ae (wpv 0)) (ah (ae (wpv 3)) (ah (dR hu (ae (wpv 1)) (aS aB) (fun _ _=>rfl) (fun _ _=>rfl)) (ah (dR hu (ae (wpv 1)) (aS aB) (fun _ _=>rfl) (fun _ _=>rfl)) aF)))))) bL)
   (aq (dc (bN mP xN (ae (wpv 2)) (cE aT) (bC _)) (aM (aV (cf TKeeper.cl M_Keeper_take hr (TKeeper.nm (by decide +kernel)) (ae (wpv 0)) (ah (ae (wpv 3)) aF)))) bL)
   (aM (aV (cf TKeeper.cl M_Keeper_write hr (TKeeper.nm (by decide +kernel)) (ae (wpv 0)) (ah (ae (wpv 3)) aF))))))))))
theorem jA:aQ ["keeper","n"] ["keeper","n"] (aw iR):=⟨rfl,rfl,rfl,by decide +kernel,rfl,by decide +kernel,by decide +kernel⟩
def fz(aJ aN bT bH cm:Fn)(cKeeper:Cl):CS:=
 (eJ (gi (ag (bt cKeeper cm (ak 0) aH) (ag (bt cKeeper bH (ak 0) aH) (ag (dZ (bR (ag (ak 1) aH)) (gNm 0) (bt cKeeper bT (ak 1) (ag (ak 0) aH)) 1 [0]) (ag (bt cKeeper aN (ak 0) aH) (ag (bt cKeeper aJ (ak 0) aH) aH)))))))
theorem q5{aJ aN bT bH cm:Fn}{cKeeper:Cl}{a0 a1:U}{S:Sto}:fnU 2 2 (fz aJ aN bT bH cm cKeeper) [a0,a1] S=((fz aJ aN bT bH cm cKeeper) [some a0,some a1] S).bind kFn:=i4 rfl
theorem qV{k:Nat}{aJ aN bT bH cm:Fn}{cKeeper:Cl}(d:Def K mg "_law_all" iR ["keeper","n"])(B:Blt mg)(TKeeper:TC K cKeeper ["boxes","marks","holders","ticks","events","known"])(M_Keeper_order:dS P w K mg base cKeeper "order" (k) ["self"] aJ)(M_Keeper_log:dS P w K mg base cKeeper "log" (k) ["self"] aN)(M_Keeper_mark:dS P w K mg base cKeeper "mark" (k) ["self","b"] bT)(M_Keeper_clock:dS P w K mg base cKeeper "clock" (k) ["self"] bH)(M_Keeper_now:dS P w K mg base cKeeper "now" (k) ["self"] cm):oV P w K mg base "_law_all" (k+1) ["keeper","n"] (fnU 2 2 (fz aJ aN bT bH cm cKeeper)):=
 d.pure jA fun f cdv A outer s H E hr=>(by
  have hu:=dC hr;have nd:=jA.nd;exact(aM (aV (fF (ah (gW TKeeper.cl M_Keeper_now hr (TKeeper.nm (by decide +kernel)) (ae (wpv 0))) (ah (gW TKeeper.cl M_Keeper_clock hr (TKeeper.nm (by decide +kernel)) (ae (wpv 0))) (ah (pI (Nc:=["box","keeper"]) (tn:=["box"]) (capN:=["keeper"]) (caps:=[0]) rfl (fq rfl B.range (ah (ae (wpv 1)) aF)) (fun _ _ _=>(dB (bA (i:=0) (show(["box","keeper"]:List Str).Nodup by decide +kernel) rfl (by trivial)))) (fun _ _ _=>(cf TKeeper.cl M_Keeper_mark hr (TKeeper.nm (by decide +kernel)) (ae (wpv 1)) (ah (ae (wpv 0)) aF))) rfl rfl (by decide +kernel) (by decide +kernel) ⟨rfl,trivial⟩ rfl (.cons ⟨rfl,rfl,rfl,_,rfl⟩ .nil) rfl rfl) (ah (gW TKeeper.cl M_Keeper_log hr (TKeeper.nm (by decide +kernel)) (ae (wpv 0))) (ah (gW TKeeper.cl M_Keeper_order hr (TKeeper.nm (by decide +kernel)) (ae (wpv 0))) aF)))))))))
theorem xB:aQ ["script","worlds","keepers","phases","calls","told","turn","well","skip","j","call","answer","third"] ["script"] (aw zc):=⟨rfl,rfl,rfl,by decide +kernel,rfl,by decide +kernel,by decide +kernel⟩
def lZ(bb bp aE bE aZ bP aN aJ a8:Fn)(cKeeper:Cl):CS:=
 (dY (cCB aE (ag (ak 7) (ag (cC (.int 2)) aH))))
def jW(bb bp aE bE aZ bP aN aJ a8:Fn)(cKeeper:Cl):CS:=
 (aX (eR 7 (cCB bp (ag (ak 0) (ag (cOp oI (cC (.int 4)) (cOp oF (ak 6) (cC (.int 20)))) aH))))
  (aX (nK (bR (ag (cOp jS (cOp rA (ak 6) (cC (.int 20))) (cC (.int 7))) aH)) (gNm 8) (lZ bb bp aE bE aZ bP aN aJ a8 cKeeper))
  (aX (eR 9 (cCB aE (ag (ak 7) (ag (cC (.int 2)) aH))))
  (aX (eR 10 (cCB bE (ag (ak 7) (ag (cOp fIx (cOp fIx (ak 1) (ak 9)) (cC (.int 0))) (ag (cOp fIx (ak 3) (ak 9)) aH)))))
  (fj (aP (cOp nr (ak 10) (cC .non))) (aX (eR 11 (cCB aZ (ag (cOp fIx (ak 2) (ak 9)) (ag (ak 10) aH))))
  (aX (dY (cBM bZ (cOp fIx (ak 4) (ak 9)) (ag (ak 10) aH)))
  (aX (dY (cBM bZ (cOp fIx (ak 5) (ak 9)) (ag (ak 11) aH)))
  (aX (fj (cOr (aP (cOp (hZ false) (ak 11) (gi (ag (cC (.str "falls")) aH)))) (aP (cOp (qY false) (ak 11) (gi (ag (cC (.str "falls")) (ag (cC (.str "done")) aH)))))) (dr (cOp fIx (ak 3) (ak 9)) (cOp fIx (ak 10) (cC (.int 1))) (cC (.str "off"))) bX)
  (aX (fj (aP (cOp (hZ false) (ak 11) (cC (.str "taken")))) (dr (cOp fIx (ak 3) (ak 9)) (cOp fIx (ak 10) (cC (.int 1))) (cC (.str "taken"))) bX)
  (aX (dY (cBM bZ (bt cKeeper aN (cOp fIx (ak 2) (ak 9)) aH) (ag (gi (ag (cC (.str "fall")) (ag (cC (.int 0)) aH))) aH)))
  (dY (cBM jc (bt cKeeper aJ (cOp fIx (ak 2) (ak 9)) aH) aH)))))))) bX)))))
def lY(bb bp aE bE aZ bP aN aJ a8:Fn)(cKeeper:Cl):CS:=
 (aX (eR 12 (cCB (iT cKeeper a8) (ag (cOp fIx (cOp fIx (ak 1) (ak 9)) (cC (.int 0))) (ag (cOp fIx (cOp fIx (ak 1) (ak 9)) (cC (.int 1))) aH))))
  (aX (fj (aP (cOp (hZ true) (dZ (iTp (cOp fIx (ak 4) (ak 9))) (gNm 0) (cCB aZ (ag (ak 1) (ag (ak 0) aH))) 1 [12]) (cOp fIx (ak 5) (ak 9)))) (eJ (cC (.bl false))) bX)
  (fj (aP (cOp (hZ true) (cCB bP (ag (ak 12) (ag (cOp fIx (cOp fIx (cOp fIx (ak 1) (ak 9)) (cC (.int 0))) (cC (.int 0))) aH))) (cCB bP (ag (cOp fIx (ak 2) (ak 9)) (ag (cOp fIx (cOp fIx (cOp fIx (ak 1) (ak 9)) (cC (.int 0))) (cC (.int 0))) aH))))) (eJ (cC (.bl false))) bX)))
def Ay(bb bp aE bE aZ bP aN aJ a8:Fn)(cKeeper:Cl):CS:=
 (aX (eR 1 (fQ (ag (cCB bb (ag (cCB bp (ag (ak 0) (ag (cC (.int 0)) aH))) aH)) (ag (cCB bb (ag (cCB bp (ag (ak 0) (ag (cC (.int 2)) aH))) aH)) aH))))
  (aX (eR 2 (dZ (iTp (ak 1)) (gTp [0,1]) (cCB (iT cKeeper a8) (ag (ak 0) (ag (ak 1) aH))) 2 []))
  (aX (eR 3 (fQ (ag jl (ag jl aH))))
  (aX (eR 4 (fQ (ag (fQ aH) (ag (fQ aH) aH))))
  (aX (eR 5 (fQ (ag (fQ aH) (ag (fQ aH) aH))))
  (aX (nK (bR (ag (cC (.int 40)) aH)) (gNm 6) (jW bb bp aE bE aZ bP aN aJ a8 cKeeper))
  (aX (nK (bR (ag (cC (.int 2)) aH)) (gNm 9) (lY bb bp aE bE aZ bP aN aJ a8 cKeeper))
  (eJ (cC (.bl true))))))))))
theorem FT{k:Nat}{bb bp aE bE aZ bP aN aJ a8:Fn}{cKeeper:Cl}{fa pO:Addr}{fd:FuncData}(F:Fun K "law" "law" zc fa fd)(B:Blt mg)(TKeeper:TC K cKeeper ["boxes","marks","holders","ticks","events","known"])(e8:oV P w K mg base "_law_world" (k+1) ["well"] bb)(eV:oV P w K mg base "_law_well" (k+1) ["script","k"] bp)(aW:oV P w K mg base "_law_sip" (k+1) ["well","many"] aE)(hX:oV P w K mg base "_law_next" (k+1) ["well","world","phase"] bE)(eF:oV P w K mg base "_law_put_to" (k+1) ["keeper","call"] aZ)(gB:oV P w K mg base "_law_all" (k+1) ["keeper","n"] bP)(M_Keeper_log:dS P w K mg base cKeeper "log" (k+1) ["self"] aN)(M_Keeper_order:dS P w K mg base cKeeper "order" (k+1) ["self"] aJ)(M_Keeper:CMk P w K mg base cKeeper "Keeper" k ["self","world","state"] a8)
  (ok:∀(ns:List Int),ns.length<=63->∃ρ' S',Ay bb bp aE bE aZ bP aN aJ a8 cKeeper [some (.kl ns),none,none,none,none,none,none,none,none,none,none,none,none] [zOf pO]=some (.rt (.bl true),ρ',S')):je P w K mg base CX0 (k+1+1) fa fd ["script"] (pC pO K):=by
 refine Fun.okW F xB (fun vs H Q E h=>(by obtain⟨a,ns,rfl,_⟩:=h;rfl)) fun cdv A outer s H vs Q E hr h=>?_;obtain⟨a,ns,rfl,hS,hlen,hpO,q⟩:=h;have hu:=dC hr;have nd:=xB.nd;exact⟨_,(aq (bz (i:=1) nd rfl (by trivial) (fO (ah (cH e8 hr rfl (ah (cH eV hr rfl (ah (ae (wpv 0)) (ah (aS aB) aF))) aF)) (ah (cH e8 hr rfl (ah (cH eV hr rfl (ah (ae (wpv 0)) (ah (aS aB) aF))) aF)) aF))))
   (aq (qI (Nc:=["world","state"]) (tn:=["world","state"]) (capN:=[]) (caps:=[]) rfl (pH (ae (wpv 1))) (fun _ _ _=>(xE rfl (jr (bA (i:=0) (show(["world","state"]:List Str).Nodup by decide +kernel) rfl (by trivial)) (jr (bA (i:=1) (show(["world","state"]:List Str).Nodup by decide +kernel) rfl (by trivial)) sG)))) (fun _ _ _=>(sH M_Keeper hr rfl (ah (ae (wpv 0)) (ah (ae (wpv 1)) aF)))) rfl rfl (by decide +kernel) (by decide +kernel) trivial rfl .nil rfl rfl nd rfl rfl rfl)
   (aq (bz (i:=3) nd rfl (by trivial) (fO (ah kF (ah kF aF))))
   (aq (bz (i:=4) nd rfl (by trivial) (fO (ah (fO aF) (ah (fO aF) aF))))
   (aq (bz (i:=5) nd rfl (by trivial) (fO (ah (fO aF) (ah (fO aF) aF))))
   (aq (mI PassesOwn.never rfl (fq rfl B.range (ah (aS aB) aF)) (dB (bA (i:=6) nd rfl (by trivial))) (aq (bz (i:=7) nd rfl (by trivial) (cH eV hr rfl (ah (ae (wpv 0)) (ah (iM j1 j0 (aS aB) (iM mO sT (ae (wpv 6)) (aS aB))) aF))))
   (aq (mI PassesOwn.never rfl (fq rfl B.range (ah (iM iB mL (iM lu zM (ae (wpv 6)) (aS aB)) (aS aB)) aF)) (dB (bA (i:=8) nd rfl (by trivial))) (aM (de (cH aW hr rfl (ah (ae (wpv 7)) (ah (aS aB) aF))))))
   (aq (bz (i:=9) nd rfl (by trivial) (cH aW hr rfl (ah (ae (wpv 7)) (ah (aS aB) aF))))
   (aq (bz (i:=10) nd rfl (by trivial) (cH hX hr rfl (ah (ae (wpv 7)) (ah (dR hu (dR hu (ae (wpv 1)) (ae (wpv 9)) (fun _ _=>rfl) (fun _ _=>rfl)) (aS aB) (fun _ _=>rfl) (fun _ _=>rfl)) (ah (dR hu (ae (wpv 3)) (ae (wpv 9)) (fun _ _=>rfl) (fun _ _=>rfl)) aF)))))
   (aM (dc (bN sU xK (ae (wpv 10)) (qJ iN) (bC _)) (aq (bz (i:=11) nd rfl (by trivial) (cH eF hr rfl (ah (dR hu (ae (wpv 2)) (ae (wpv 9)) (fun _ _=>rfl) (fun _ _=>rfl)) (ah (ae (wpv 10)) aF))))
   (aq (de (fG (dR hu (ae (wpv 4)) (ae (wpv 9)) (fun _ _=>rfl) (fun _ _=>rfl)) (ah (ae (wpv 10)) aF)))
   (aq (de (fG (dR hu (ae (wpv 5)) (ae (wpv 9)) (fun _ _=>rfl) (fun _ _=>rfl)) (ah (ae (wpv 11)) aF)))
   (aq (dc (BP (BS (bN (pN hr.units) qN (ae (wpv 11)) (fF (ah (cE aT) aF)) (bC _)) (vC (bN (Ct hr.units) Fu (ae (wpv 11)) (fF (ah (cE aT) (ah (cE aT) aF))) (by with_unfolding_all rfl))))) (aM (dF hu (dR hu (ae (wpv 3)) (ae (wpv 9)) (fun _ _=>rfl) (fun _ _=>rfl)) (dR hu (ae (wpv 10)) (aS aB) (fun _ _=>rfl) (fun _ _=>rfl)) (cE aT))) bL)
   (aq (dc (bN (pN hr.units) qN (ae (wpv 11)) (cE aT) (bC _)) (aM (dF hu (dR hu (ae (wpv 3)) (ae (wpv 9)) (fun _ _=>rfl) (fun _ _=>rfl)) (dR hu (ae (wpv 10)) (aS aB) (fun _ _=>rfl) (fun _ _=>rfl)) (cE aT))) bL)
   (aq (de (fG (gW TKeeper.cl M_Keeper_log hr (TKeeper.nm (by decide +kernel)) (dR hu (ae (wpv 2)) (ae (wpv 9)) (fun _ _=>rfl) (fun _ _=>rfl))) (ah (fF (ah (cE aT) (ah (aS aB) aF))) aF)))
   (aM (de (zm (gW TKeeper.cl M_Keeper_order hr (TKeeper.nm (by decide +kernel)) (dR hu (ae (wpv 2)) (ae (wpv 9)) (fun _ _=>rfl) (fun _ _=>rfl)))))))))))) bL)))))))
   (aq (mI PassesOwn.never rfl (fq rfl B.range (ah (aS aB) aF)) (dB (bA (i:=9) nd rfl (by trivial))) (aq (bz (i:=12) nd rfl (by trivial) (sH M_Keeper hr rfl (ah (dR hu (dR hu (ae (wpv 1)) (ae (wpv 9)) (fun _ _=>rfl) (fun _ _=>rfl)) (aS aB) (fun _ _=>rfl) (fun _ _=>rfl)) (ah (dR hu (dR hu (ae (wpv 1)) (ae (wpv 9)) (fun _ _=>rfl) (fun _ _=>rfl)) (aS aB) (fun _ _=>rfl) (fun _ _=>rfl)) aF))))
   (aq (dc (bN (xO hr.units) qN (pI (Nc:=["call","third"]) (tn:=["call"]) (capN:=["third"]) (caps:=[12]) rfl (pH (dR hu (ae (wpv 4)) (ae (wpv 9)) (fun _ _=>rfl) (fun _ _=>rfl))) (fun _ _ _=>(dB (bA (i:=0) (show(["call","third"]:List Str).Nodup by decide +kernel) rfl (by trivial)))) (fun _ _ _=>(cH eF hr rfl (ah (ae (wpv 1)) (ah (ae (wpv 0)) aF)))) rfl rfl (by decide +kernel) (by decide +kernel) ⟨rfl,trivial⟩ rfl (.cons ⟨rfl,rfl,rfl,_,rfl⟩ .nil) rfl rfl) (dR hu (ae (wpv 5)) (ae (wpv 9)) (fun _ _=>rfl) (fun _ _=>rfl)) (bC _)) (aM (aV (xG i7))) bL)
   (aM (dc (bN (xO hr.units) qN (cH gB hr rfl (ah (ae (wpv 12)) (ah (dR hu (dR hu (dR hu (ae (wpv 1)) (ae (wpv 9)) (fun _ _=>rfl) (fun _ _=>rfl)) (aS aB) (fun _ _=>rfl) (fun _ _=>rfl)) (aS aB) (fun _ _=>rfl) (fun _ _=>rfl)) aF))) (cH gB hr rfl (ah (dR hu (ae (wpv 2)) (ae (wpv 9)) (fun _ _=>rfl) (fun _ _=>rfl)) (ah (dR hu (dR hu (dR hu (ae (wpv 1)) (ae (wpv 9)) (fun _ _=>rfl) (fun _ _=>rfl)) (aS aB) (fun _ _=>rfl) (fun _ _=>rfl)) (aS aB) (fun _ _=>rfl) (fun _ _=>rfl)) aF))) (bC _)) (aM (aV (xG i7))) bL)))))
   (aM (aV (xG i7)))))))))),wx hS hpO (ok ns hlen) q⟩
end
end OL
local macro_rules
 | `(tactic| rwa $s:rwRuleSeq) => do
  let ts : Array (Lean.TSyntax `term) := s.raw[1].getSepArgs.map fun r => ⟨r[1]⟩
  let us : Array (Lean.TSyntax `term) := (("uX oX x_c El yl yk rB nX EY Bq Bp GY Ek Ej Em A5 Bo yD yC Ei A3 A2 A4 yn rD o7 jv ju D0 AV A9 A7 DB rF EA Bg xk qA oY A0 AZ AY Bi yx Eh A1 jf mj oZ G0 EE ED nY rC Bn Bm Bl EG EF Bs Br GR Ed Ec Eb Ea Et Eu Ew Ez D9 AW AX Bb Bc Be Ba yE D8 Er GZ G3 G4 EL Eo EK En EM Ep EI EH at0 at1 at2 at3 ix0 ix1 ix2 Option.bind_some List.getElem?_cons_zero List.getElem?_cons_succ List.set_cons_zero List.set_cons_succ List.length_cons List.length_nil List.map_cons List.map_nil decide_true decide_false Bool.not_true Bool.not_false EJ xo xn GS Eg Ef Ee A6 yq yp yo yr EB EC Es Bf G6 EW EV EU EX G5 ET ES ER EO EN Bj GX x_p GW GV GU Bk yB yA AR AS AU yt yu yv Bh ga ga0 gs gs0 Option.join_some Nat.add_zero List.cons_append List.nil_append List.append_assoc" : String).splitOn " ").toArray.map fun x => ⟨(Lean.mkIdent ((x.splitOn ".").foldl Lean.Name.str Lean.Name.anonymous)).raw⟩
  let vs:=ts++us
  `(tactic| simp only [$[$vs:term],*])
namespace OQ
open PySem PySem.Spec PyProof.Rows L2 OG OP
def l9{m:Int}(h0:0<=m)(h:m<2^60):m.natAbs.log2<9000:=tF h0 h
def rm(lk:List Int)(b:Int):List Int:=if b∈lk then lk else lk++[b]
def AL(lk:List Int):List (Key×U):=lk.map fun b=>(.inl b,.bl true)
theorem vE(b:Int)(lk:List Int):dW (AL lk) (.inl b) (.bl true)=AL (rm lk b):=by
 have ha:((AL lk).any fun kv=>decide (kv.1=Sum.inl b))=decide (b∈lk):=by
  unfold AL;induction lk with
  |nil=>rfl
  |cons k r ih=>
   simp only[QU,Z0,ih];by_cases e:k=b
   ·subst e;simp
   ·rw[decide_eq_false (fun z:(Sum.inl k:Key)=Sum.inl b=>e (Sum.inl.inj z))];simp[Ne.symm e]
 unfold dW rm;rw[ha];by_cases c:b∈lk
 ·rw[if_pos (decide_eq_true c),if_pos c];unfold AL;rw[Qr];refine Qg fun p _=>?_;simp only[Function.comp];split<;>rfl
 ·rw[if_neg (by simpa using c),if_neg c];simp[AL]
def tm{α:Type}{l:List α}{k:Nat}{x:α}(h:l[k]?=some x):k<l.length:=(Q4.mp h).1
def aY{α:Type}{l r:List α}{k:Nat}{x:α}(h:l[k]?=some x):(l++r)[k]?=some x:=by rw[Qk (tm h)];exact h
theorem yX(b v j:Int)(ps:List (Int×Int)):bB (dW ps b v) j=if j=b then some v else bB ps j:=by
 have e1:∀ps:List (Int×Int),bB ps j=(gC (ps.map fun p=>(p.1,V.int p.2)) j).map fun x=>match x with|.int i=>i|_=>0:=fun ps=>by
  unfold bB gC;induction ps with
  |nil=>rfl
  |cons p r ih=>
   simp only[QU,Qx];by_cases e:p.1=j
   ·simp[e]
   ·rw[decide_eq_false e];exact ih
 have e2:(dW ps b v).map (fun p=>(p.1,V.int p.2))=mh (ps.map fun p=>(p.1,V.int p.2)) b (.int v):=by
  unfold dW mh;have:(ps.map fun p=>(p.1,V.int p.2)).any (fun kv=>decide (kv.1=b))=ps.any fun kv=>decide (kv.1=b):=by rw[List.any_map];rfl
  rw[this];split
  ·rw[Qr,Qr];refine Qg fun p _=>?_;simp only[Function.comp];split<;>rfl
  ·simp
 rw[e1,e2,vt];split
 ·rfl
 ·exact(e1 ps).symm
def yw{x:U}{S:Sto}:C5 x .non S=some (.bl (mY x),S):=rfl
def ym{x:U}{S:Sto}:nr x .non S=some (.bl (!mY x),S):=rfl
def tZ:mY .non=true:=rfl
def xU{i:Int}:mY (.int i)=false:=rfl
theorem rb{ok:Sto->Prop}{g:CG}{ct:CT}{ce:CE}{l:Nat}{ρ:Rho}{S:Sto}(h:ok S):cq ok g ct ce l [] ρ S=some S:=by rw[cq,if_pos h]
theorem uu{ok:Sto->Prop}{g:CG}{ct:CT}{ce:CE}{l:Nat}{ρ ρ0:Rho}{S S0 S1:Sto}{u:U}{us:List U}(h:ok S)(hg:g u ρ S=some (ρ0,S0))(ht:ct ρ0 S0=some (false,S1)):cq ok g ct ce l (u::us) ρ S=cq ok g ct ce l us ρ0 S1:=by
 rw[cq,if_pos h,hg,Q6,ht,Q6,if_neg Q7]
theorem ra{ok:Sto->Prop}{g:CG}{ct:CT}{ce:CE}{l:Nat}{ρ ρ0:Rho}{S S0 S1 S2:Sto}{u x:U}{us ys:List U}(h:ok S)(hg:g u ρ S=some (ρ0,S0))(ht:ct ρ0 S0=some (true,S1))(he:ce ρ0 S1=some (x,S2))(hl:S2[l]?=some (.lst ys))(hn:ys.length<LIM) :
  cq ok g ct ce l (u::us) ρ S=cq ok g ct ce l us ρ0 (S2.set l (.lst (ys++[x]))):=by
 rw[cq,if_pos h,hg,Q6,ht,Q6,if_pos rfl,he,Q6];simp only[hl,hn,if_true]
def Lay(k:Nat)(S:Sto)(u:U):Prop:=∃d,Dt S u d/\d.canLay0=true/\d.depth<=k
def gm(k:Nat)(S:Sto)(u v:U):Prop:=∃d,Dt S u d/\Dt S v d/\d.canLay0=true/\d.depth<=k
def cW(k:Nat)(S:Sto)(us vs:List U):Prop:=∃ds,DtL S us ds/\DtL S vs ds/\PyData.canLayAll0 ds=true/\PyData.depthAll ds<=k
section
variable{k j:Nat}{S:Sto}{u v:U}{us vs:List U}
def Lay.mono(h:Lay k S u)(l:k<=j):Lay j S u:=by obtain⟨d,a,b,c⟩:=h;exact⟨d,a,b,QL c l⟩
def Lay.int{i:Int}:Lay k S (.int i):=⟨_,.int i,rfl,Qe _⟩
def gm.refl(h:Lay k S u):gm k S u u:=by obtain⟨d,a,b,c⟩:=h;exact⟨d,a,a,b,c⟩
def cW.nil:cW k S [] []:=⟨[],.nil,.nil,rfl,Qe _⟩
theorem cW.cons(h:gm k S u v)(t:cW k S us vs):cW k S (u::us) (v::vs):=by
 obtain⟨d,a,b,c,e⟩:=h;obtain⟨ds,a',b',c',e'⟩:=t;refine⟨d::ds,.cons a a',.cons b b',by unfold PyData.canLayAll0;rw[c,c'];rfl,?_⟩;unfold PyData.depthAll;exact Nat.max_le.mpr ⟨e,e'⟩
theorem cW.all:∀{us:List U},(∀u∈us,Lay k S u)->cW k S us us
 |[],_=>.nil
 |u::us,h=>.cons (.refl (h u QB)) (cW.all fun x hx=>h x (Q8 _ hx))
theorem gm.tup(h:cW k S us vs):gm (k+1) S (.tup us) (.tup vs):=by
 obtain⟨ds,a,b,c,e⟩:=h;refine⟨.tuple ds,.tup a,.tup b,by unfold PyData.canLay0;exact c,?_⟩;unfold PyData.depth;omega
theorem gm.lst{l l':Nat}(h1:S[l]?=some (.lst us))(h2:S[l']?=some (.lst vs))(h:cW k S us vs):gm (k+1) S (.ref l) (.ref l'):=by
 obtain⟨ds,a,b,c,e⟩:=h;refine⟨.list ds,.lst h1 a,.lst h2 b,by unfold PyData.canLay0;exact c,?_⟩;unfold PyData.depth;omega
theorem Lay.tup(h:∀u∈us,Lay k S u):Lay (k+1) S (.tup us):=by
 obtain⟨d,a,_,b,c⟩:=gm.tup (cW.all h);exact⟨d,a,b,c⟩
theorem gm.ne(h:gm k S u v)(hk:k<=60):hZ true u v S=some (.bl false,S):=by
 obtain⟨d,a,b,c,e⟩:=h;exact lP true (.inl ⟨d,d,a,b,⟨c,QL e hk⟩,⟨c,QL e hk⟩,(SeqAt.eqv_refl d c).symm⟩)
theorem Lay.ints{ns:List Int}:Lay 1 S (.tup (ns.map U.int)):=.tup fun u hu=>by
 obtain⟨i,_,rfl⟩:=Qw.mp hu;exact .int
end
section
variable{S:Sto}{l:Nat}{us:List U}{u:U}{i:Int}
def p9(l:Nat)(i:Int)(S:Sto):Option O->Option (U×Sto)
 |some (.lst us)=>if 0<=i/\i<us.length/\us.length<=LIM then(us[i.toNat]?).bind fun u=>some (u,S.set l (.lst (us.eraseIdx i.toNat)))else none
 |_=>none
theorem yj:kN (.ref l) [.int i] S=p9 l i S S[l]?:=by
 unfold kN p9;rfl
theorem uY(h0:0<=i)(h1:i<us.length)(hL:us.length<=LIM)(hu:us[i.toNat]?=some u):p9 l i S (some (.lst us))=some (u,S.set l (.lst (us.eraseIdx i.toNat))):=by
 simp only[p9];rw[if_pos ⟨h0,h1,hL⟩,hu,Q6]
end
theorem mH(n:Nat):gM 0 n=((QF n).map fun i:Nat=>(i:Int)).map U.int:=by
 unfold gM;rw[Qr];refine Qg fun i _=>?_;simp
inductive Ev where
 |beg (a:Int)|look (a b x:Int)|put (a b x:Int)|fin (d:Bool) (a:Int)
structure Att where
 en:Option Bool
 lk:List (Int×Int)
 nd:List (Int×Int)
 ps:List (Int×Int)
 bf:List Int
abbrev St:=List (Int×Att)
theorem rY{κ α:Type}[DecidableEq κ]{ps:List (κ×α)}{k:κ}:bB ps k=none↔k∉ps.map (·.1):=by
 unfold bB;rw[Option.map_eq_none_iff,List.find?_eq_none];simp only[decide_eq_true_eq,Qw,not_exists,not_and]
theorem pK{κ α:Type}[DecidableEq κ]{ps:List (κ×α)}{k:κ}{v:α}(h:k∉ps.map (·.1)):dW ps k v=ps++[(k,v)]:=by
 unfold dW;rw[if_neg];simp only[List.any_eq_true,decide_eq_true_eq,not_exists,not_and];intro p hp e;exact h (Qw.mpr ⟨p,hp,e⟩)
section
variable{c:Cl}
theorem xp{i:Nat}{u:U}{fus:List (Option U)}{Z:Sto}{l:Nat}(h:Z[l]?=some (.ins c fus))(hu:fus[i]?=some (some u)):AK c i (.ref l,Z)=some (u,Z):=by
 rw[xo,h,xn,hu];rfl
end
theorem ql{α:Type}{ok:Sto->Prop}{gg:CG}{ce:CE}{S:Sto}{f:α->U}{v:α->U}{Rel:Rho->Prop}(hok:∀ys G,ok (S++(.lst ys::G))) :
  ∀(xs:List α) (ys:List U) (G:Sto) (ρ:Rho),Rel ρ->ys.length+xs.length<=9999->
  (∀x∈xs,∀ys G ρ,Rel ρ->∃ρ0 G1,Rel ρ0/\gg (f x) ρ (S++(.lst ys::G))=some (ρ0,S++(.lst ys::G))/\ce ρ0 (S++(.lst ys::G))=some (v x,S++(.lst ys::(G++G1))))->
  ∃G',fi ok gg ce S.length (xs.map f) ρ (S++(.lst ys::G))=some (S++(.lst (ys++xs.map v)::(G++G')))
 |[],ys,G,ρ,_,_,_=>⟨[],by simp only[Qs,List.append_nil];exact gy (hok ys G)⟩
 |x::xs,ys,G,ρ,hr,hl,hb=>by
  rw[QJ]at hl;obtain⟨ρ0,G1,r0,h1,h2⟩:=hb x QB ys G ρ hr;obtain⟨G',h⟩:=ql hok xs (ys++[v x]) (G++G1) ρ0 r0 (by simp;omega) (fun x hx=>hb x (Q8 _ hx));refine⟨G1++G',?_⟩;rw[QU];refine(eP (hok ys G) h1 h2 (by rw[ga0];rfl) (by unfold LIM;omega)).trans ?_;rw[gs0];simp only[List.set_cons_zero];rw[h];simp only[QU,Qy,Qa,Qu]
theorem pE{Z:Sto}{r:Nat}{o o':O}(h:Z[r]?=some o):(Z.set r o').set r o=Z:=by
 rw[List.set_set];refine List.ext_getElem? fun i=>?_;rw[Qd];split
 ·subst i;obtain⟨h1,h2⟩:=Q4.mp h;simp[h1,h2]
 ·rfl
theorem qh:∀ns ms:List Int,PyData.eqv (.list (ns.map PyData.int)) (.list (ms.map PyData.int))=decide (ns=ms)
 |[],[]=>rfl
 |[],_::_=>rfl
 |_::_,[]=>rfl
 |n::ns,m::ms=>by
  have e:PyData.eqv (.list ((n::ns).map PyData.int)) (.list ((m::ms).map PyData.int))=((n == m)&&PyData.eqv (.list (ns.map PyData.int)) (.list (ms.map PyData.int))):=rfl;rw[e,qh ns ms,Z7];simp
theorem lU{S:Sto}:∀ns:List Int,DtL S (ns.map U.int) (ns.map PyData.int)
 |[]=>.nil
 |n::ns=>.cons (.int n) (lU ns)
theorem pX(ns:List Int):iL (.list (ns.map PyData.int)):=by
 have h:∀ns:List Int,PyData.canLayAll0 (ns.map PyData.int)=true/\PyData.depthAll (ns.map PyData.int)<=0:=fun ns=>by
  induction ns with
  |nil=>exact⟨rfl,Q5 _⟩
  |cons n r ih=>
   refine⟨by unfold PyData.canLayAll0;rw[QU];exact ih.1,?_⟩;rw[QU];unfold PyData.depthAll;exact Nat.max_le.mpr ⟨Q5 _,ih.2⟩
 refine⟨by unfold PyData.canLay0;exact(h ns).1,?_⟩;unfold PyData.depth;have:=(h ns).2;omega
theorem wH(neg:Bool){S:Sto}{l l':Nat}{ns ms:List Int}(h:S[l]?=some (.lst (ns.map U.int)))(h':S[l']?=some (.lst (ms.map U.int))):hZ neg (.ref l) (.ref l') S=some (.bl (if neg then !decide (ns=ms)else decide (ns=ms)),S):=
 lP neg (.inl ⟨_,_,.lst h (lU ns),.lst h' (lU ms),pX ns,pX ms,(qh ns ms).symm⟩)
section
variable{j:Nat}{S:Sto}
def iY:Fn:=fnU 3 2 fu
def kQ:Fn:=fnU 6 2 dD
theorem mq{r0 r1 r2:Option U}:∀(ts:List Int) (a f:Int) (r5:Option U),0<=a->a<2147483563->∃a' f' r5',ft (fun _=>True) (gNm 5) eE (ts.map U.int) [r0,r1,r2,some (.int a),some (.int f),r5] S=some (.nx,[r0,r1,r2,some (.int a'),some (.int f'),r5'],S)
 |[],a,f,r5,_,_=>⟨a,f,r5,gx trivial⟩
 |t::ts,a,f,r5,h0,h1=>by
  obtain⟨a',f',r5',ih⟩:=mq (r0:=r0) (r1:=r1) (r2:=r2) ts ((a*a+50021*a+19*t+7) % 2147483563) (f*2147483563+(a*a+50021*a+19*t+7) % 2147483563) (some (.int t)) (Int.emod_nonneg _ (by decide)) (Int.emod_lt_of_pos _ (by decide));refine⟨a',f',r5',(gY trivial rfl ?_).trans ih⟩;have m1:jS (.int a) (.int a) S=some (.int (a*a),S):=mi (.inl ⟨by omega,by omega⟩);have m2:jS (.int 50021) (.int a) S=some (.int (50021*a),S):=mi (.inl (by decide));have m3:jS (.int 19) (.int t) S=some (.int (19*t),S):=mi (.inl (by decide));have m4:jS (.int f) (.int 2147483563) S=some (.int (f*2147483563),S):=mi (.inr (by decide));have m5:∀j:Int,oF (.int j) (.int 2147483563) S=some (.int (j % 2147483563),S):=fun j=>rE (by decide);rwa[eE,m1,m2,m3,m4,m5]
theorem n4(ns:List Int){k:Int}(k0:0<=k):∃z,kQ [.kl ns,.int k] S=some (.ref S.length,S++[.lst [.int z]]):=by
 unfold kQ;rw[oJ];have m1:jS (.int 5) (.int k) S=some (.int (5*k),S):=mi (.inl (by decide));have m2:∀j:Int,oF (.int j) (.int 2) S=some (.int (j % 2),S):=fun j=>rE (by decide);have m3:∀j:Int,rA (.int j) (.int 2) S=some (.int (j / 2),S):=fun j=>yz ⟨by decide,by decide +kernel⟩;have m4:∀j:Int,jS (.int j) (.int 30011) S=some (.int (j*30011),S):=fun j=>mi (.inr (by decide));have m5:jS (.int 977) (.int k) S=some (.int (977*k),S):=mi (.inl (by decide));have m6:∀j:Int,oF (.int j) (.int 2147483563) S=some (.int (j % 2147483563),S):=fun j=>rE (by decide);have r60:bR (ag (cC (.int 60)) aH)=fun ρ S=>some (gM 0 60,fun _=>True,S):=rfl;have er:gM 0 60=((QF 60).map fun i:Nat=>(i:Int)).map U.int:=by rw[mH,Qr]
 have key:∀num:Int,∃z,((aX (fj (aP (cOp fEq (cOp oF (ak 2) (cC (.int 2))) (cC (.int 0)))) (eJ (fQ (ag (cOp rA (ak 2) (cC (.int 2))) aH))) bX)
  (aX (eR 3 (cOp oF (cOp oI (cOp oI (cOp jS (ak 2) (cC (.int 30011))) (cOp jS (cC (.int 977)) (ak 1))) (cC (.int 41))) (cC (.int 2147483563))))
  (aX (eR 4 (cC (.int 0)))
  (aX (nK (bR (ag (cC (.int 60)) aH)) (gNm 5) eE)
  (eJ (fQ (ag (ak 4) aH))))))) [some (.kl ns),some (.int k),some (.int num),none,none,none] S).bind kFn=some (.ref S.length,S++[.lst [.int z]]):=fun num=>by
  by_cases e:num % 2=0
  ·refine⟨num / 2,?_⟩;have e':decide (num % 2=0)=true:=decide_eq_true e;rwa[m2,m3,e']
  ·have e':decide (num % 2=0)=false:=decide_eq_false e;obtain⟨a',f',r5',h⟩:=mq (S:=S) (r0:=some (.kl ns)) (r1:=some (.int k)) (r2:=some (.int num)) ((QF 60).map fun i:Nat=>(i:Int)) ((num*30011+977*k+41) % 2147483563) 0 none (Int.emod_nonneg _ (by decide)) (Int.emod_lt_of_pos _ (by decide));rw[<-er]at h;refine⟨f',?_⟩;rwa[m2,e',m4,m5,m6,nK,r60,h]
 by_cases hk:k<(ns.length:Int)
 ·have hk':decide (k<(ns.length:Int))=true:=decide_eq_true hk;have hi:k.toNat<ns.length:=by omega
  have ha:atI (ns.map U.int) k=some (.int ns[k.toNat]):=by
   have:=iW (xs:=ns.map U.int) (j:=k.toNat) (v:=.int ns[k.toNat]) (by rw[Qq,QV hi];rfl);rw[show((k.toNat:Nat):Int)=k from by omega]at this;exact this
  obtain⟨z,h⟩:=key ns[k.toNat];refine⟨z,?_⟩;rw[<-h];simp only[dD,m1,xm,Ex,hk',ha,qA,oY,nY,rC,El,yl,yk,uX,oX,x_c,yE,jf,mj,oZ,rB,nX,Er,DB,rF,o7,jv,ju,rD,Q6,Z8,Z9,List.set_cons_zero,List.set_cons_succ,Option.join_some]
 ·have hk':decide (k<(ns.length:Int))=false:=decide_eq_false hk;obtain⟨z,h⟩:=key (5*k+3);refine⟨z,?_⟩;rw[<-h];simp only[dD,m1,xm,hk',qA,oY,nY,rC,El,yl,yk,uX,oX,x_c,yE,jf,mj,oZ,rB,nX,Er,DB,rF,o7,jv,ju,rD,xk,Q6,Z8,Z9,List.set_cons_zero,List.set_cons_succ,Option.join_some]
end
section
variable{S G:Sto}{x:List Int}
theorem nE{α:Type}{ok:Sto->Prop}{gg:CG}{ce:CE}{S:Sto}{f:α->U}{v:α->U}{Rel:Rho->Prop}(hok:∀ys G,ok (S++(.lst ys::G))) :
  ∀(xs:List α) (ys:List U) (G:Sto) (ρ:Rho),Rel ρ->ys.length+xs.length<=9999->
  (∀x∈xs,∀ys G ρ,Rel ρ->∃ρ0,Rel ρ0/\gg (f x) ρ (S++(.lst ys::G))=some (ρ0,S++(.lst ys::G))/\ce ρ0 (S++(.lst ys::G))=some (v x,S++(.lst ys::G)))->
  fi ok gg ce S.length (xs.map f) ρ (S++(.lst ys::G))=some (S++(.lst (ys++xs.map v)::G))
 |[],ys,G,ρ,_,_,_=>by simp only[Qs,List.append_nil];exact gy (hok ys G)
 |x::xs,ys,G,ρ,hr,hl,hb=>by
  rw[QJ]at hl;obtain⟨ρ0,r0,h1,h2⟩:=hb x QB ys G ρ hr;have h:=nE hok xs (ys++[v x]) G ρ0 r0 (by simp;omega) (fun x hx=>hb x (Q8 _ hx));rw[QU];refine(eP (hok ys G) h1 h2 (by rw[ga0];rfl) (by unfold LIM;omega)).trans ?_;rw[gs0];simp only[List.set_cons_zero];rw[h];simp only[QU,Qy,Qa,Qu]
end
section
variable{κ κ' α β:Type}[DecidableEq κ][DecidableEq κ']
theorem vG(kf:κ->κ')(vf:α->β)(inj:∀a b,kf a=kf b->a=b)(ps:List (κ×α))(k:κ)(v:α):dW (ps.map fun p=>(kf p.1,vf p.2)) (kf k) (vf v)=(dW ps k v).map fun p=>(kf p.1,vf p.2):=by
 have hd:∀a,decide (kf a=kf k)=decide (a=k):=fun a=>by
  rw[Z7,decide_eq_true_eq,decide_eq_true_eq];exact⟨inj a k,fun h=>by rw[h]⟩
 have ha:((ps.map fun p=>(kf p.1,vf p.2)).any fun kv=>decide (kv.1=kf k))=ps.any fun kv=>decide (kv.1=k):=by
  rw[List.any_map];congr 1;funext p;exact hd p.1
 unfold dW;rw[ha];by_cases h:(ps.any fun kv=>decide (kv.1=k))=true
 ·rw[if_pos h,if_pos h,Qr,Qr];refine Qg fun p _=>?_;show(if kf p.1=kf k then(kf p.1,vf v)else(kf p.1,vf p.2))=_;by_cases e:p.1=k
  ·simp[e]
  ·have e':¬kf p.1=kf k:=fun z=>e (inj _ _ z);simp[e,e']
 ·rw[if_neg h,if_neg h,List.map_append];rfl
theorem zp{ps:List (κ×α)}{k:κ}{v:α}(h:(ps.map (·.1)).Nodup):((dW ps k v).map (·.1)).Nodup:=by
 unfold dW;by_cases e:(ps.any fun kv=>decide (kv.1=k))=true
 ·rw[if_pos e,Qr];have:((fun x:κ×α=>x.1) ∘ fun kv=>if kv.1=k then(kv.1,v)else kv)=fun x=>x.1:=by
   funext p;show(if p.1=k then(p.1,v)else p).1=p.1;split<;>rfl
  rw[this];exact h
 ·rw[if_neg e,List.map_append,List.nodup_append];refine⟨h,by simp,fun a ha b hb z=>?_⟩;rw[List.map_singleton,Qz]at hb;obtain⟨p,hp,hp2⟩:=Qw.mp ha;exact e (List.any_eq_true.mpr ⟨p,hp,decide_eq_true (by rw[hp2,z,hb])⟩)
theorem vF{ps:List (κ×α)}{k:κ}{v:α}{q:κ×α}(h:q∈dW ps k v):q.1=k\/∃p∈ps,p.1=q.1:=by
 unfold dW at h;split at h
 ·obtain⟨p,hp,e⟩:=Qw.mp h;by_cases z:p.1=k
  ·rw[if_pos z]at e;rw[<-e];exact .inl z
  ·rw[if_neg z]at e;rw[<-e];exact .inr ⟨p,hp,rfl⟩
 ·rcases Qb.mp h with z|z
  ·exact .inr ⟨q,z,rfl⟩
  ·rw[Qz.mp z];exact .inl rfl
end
def eG{ca cb:CS}{ρ ρ':Rho}{S S':Sto}(h:ca ρ S=some (.nx,ρ',S')):aX ca cb ρ S=cb ρ' S':=by rw[qA,h,Q6,oY]
def Wp{α:Type}(x:Option α)(Q:α->Prop):Prop:=∃r,x=some r/\Q r
section
variable{α:Type}{x:Option α}{Q:α->Prop}
def Wp.of{r:α}(h:x=some r)(q:Q r):Wp x Q:=⟨r,h,q⟩
end
section
variable{α:Type}{ci:CI}{ca:CE}{gg:CG}{t:CT}{ce:CE}{caps:List Nat}{ρ:Rho}{cs:Rho}{S S1:Sto}{ok:Sto->Prop}{xs:List α}{us:List U}{f v:α->U}{Q:U×Sto->Prop}{l:Nat}
theorem Ao(h:ca ρ S=some (.ref l,S1))(hl:S1[l]?=some (.lst us)):iTp ca ρ S=some (us,fun S=>S[l]?=some (.lst us),S1):=by
 unfold iTp;rw[h,Q6];simp only[hl]
theorem jN{cr:CA}{n:Int}(h:cr ρ S=some ([.int n],S1))(n0:0<=n)(n1:n<=1000):bR cr ρ S=some (gM 0 n.toNat,fun _=>True,S1):=by
 have hb:-(2^62)<=n/\n<2^62:=by omega
 unfold bR;rw[h,Q6];simp only[hb,and_self,if_true]
def pG(n:Nat):gM 0 n=(QF n).map fun i:Nat=>U.int (i:Int):=by rw[mH,Qr];rfl
theorem E1(hi:ci ρ S=some (xs.map f,ok,S1))(hok:∀G,ok (S1++G))(hn:xs.length<=9000)(hr:pF 1 caps ρ=none::cs)
  (hb:∀x∈xs,∀G,Wp (ce (some (f x)::cs) (S1++G)) fun t=>t.1=v x/\∃G2,t.2=S1++G++G2)
  (hQ:∀G,Q (.ref S1.length,S1++(.lst (xs.map v)::G))):Wp (dZ ci (gNm 0) ce 1 caps ρ S) Q:=by
 obtain⟨G,e⟩:=ql (S:=S1) (ok:=ok) (gg:=gNm 0) (ce:=ce) (f:=f) (v:=v) (Rel:=fun ρ=>∃r0,ρ=r0::cs) (fun ys G=>hok _) xs [] [] (none::cs) ⟨_,rfl⟩ (by simp;omega) (fun x hx ys G ρ hρ=>by
  obtain⟨r0,rfl⟩:=hρ;obtain⟨⟨b,S2⟩,e1,e2,G1,e3⟩:=hb x hx (.lst ys::G);dsimp only at e2 e3;subst e2 e3;exact⟨some (f x)::cs,G1,⟨_,rfl⟩,rfl,by rw[e1,Qy,Qa]⟩)
 refine⟨_,?_,hQ G⟩;unfold dZ;rw[hi,Q6,hr];dsimp only;rw[e];rfl
end
inductive Pl where
 |k (j f:Nat)|a (j:Nat) (a:Int) (f:Nat)|x (n i:Nat)
deriving DecidableEq
def aG(c:Pl->O)(s:Pl)(o:O):Pl->O:=fun s'=>if s'=s then o else c s'
def dg(pos:Pl->Option Nat)(s:Pl)(p:Nat):Pl->Option Nat:=fun s'=>if s'=s then some p else pos s'
structure Mm(pos:Pl->Option Nat)(c:Pl->O)(T:Sto):Prop where
 at_:∀s p,pos s=some p->T[p]?=some (c s)
 inj:∀s s' p,pos s=some p->pos s'=some p->s=s'
section
variable{pos:Pl->Option Nat}{c:Pl->O}{T:Sto}{s s':Pl}{p:Nat}{o:O}
def bh:aG c s o s=o:=if_pos rfl
def aD(h:s'≠s):aG c s o s'=c s':=if_neg h
def gX:dg pos s p s=some p:=if_pos rfl
def dX(h:s'≠s):dg pos s p s'=pos s':=if_neg h
def Mm.lt(M:Mm pos c T)(h:pos s=some p):p<T.length:=(Q4.mp (M.at_ s p h)).1
def Mm.get(M:Mm pos c T)(h:pos s=some p)(e:c s=o):T[p]?=some o:=by rw[M.at_ s p h,e]
theorem Mm.set(M:Mm pos c T)(h:pos s=some p)(o:O):Mm pos (aG c s o) (T.set p o):=by
 refine⟨fun s' q hq=>?_,M.inj⟩;by_cases e:s'=s
 ·subst e;rw[h]at hq;cases hq;rw[bh,Qd,if_pos rfl,if_pos (M.lt h)]
 ·rw[aD e,QM (fun z=>by subst z;exact e (M.inj _ _ _ hq h))];exact M.at_ s' q hq
def Mm.app(M:Mm pos c T)(X:Sto):Mm pos c (T++X):=⟨fun s p h=>aY (M.at_ s p h),M.inj⟩
theorem Mm.newP(M:Mm pos c T)(h:T[p]?=some o)(hp:∀s',pos s'≠some p)(s:Pl):Mm (dg pos s p) (aG c s o) T:=by
 refine⟨fun s' q hq=>?_,fun s1 s2 q h1 h2=>?_⟩
 ·by_cases e:s'=s
  ·subst e;rw[gX]at hq;cases hq;rw[bh];exact h
  ·rw[dX e]at hq;rw[aD e];exact M.at_ s' q hq
 ·by_cases e1:s1=s
  ·by_cases e2:s2=s
   ·rw[e1,e2]
   ·rw[e1,gX]at h1;rw[dX e2]at h2;cases h1;exact absurd h2 (hp s2)
  ·rw[dX e1]at h1;by_cases e2:s2=s
   ·rw[e2,gX]at h2;cases h2;exact absurd h1 (hp s1)
   ·rw[dX e2]at h2;exact M.inj s1 s2 q h1 h2
theorem Mm.new(M:Mm pos c T)(s:Pl)(o:O)(X:Sto):Mm (dg pos s T.length) (aG c s o) (T++(o::X)):=
 (M.app (o::X)).newP (by rw[ga0];rfl) (fun s' e=>absurd (M.lt e) (Qt _)) s
end
structure Ac where
 g:Int
 lk:List Int
 pu:List (Int×Int)
 st:Option Int
 un:List Int
 op:Bool
structure Kc where
 bx:List Int
 ma:List Int
 ho:List (Int×Int)
 tk:Int
 ev:List U
 ids:List Int
 A:Int->Ac
def dI(l:List (Int×Int)):List (Key×U):=l.map fun p=>(.inl p.1,.int p.2)
def dT(l:List Int):List (Key×U):=l.map fun b=>(.inl b,.bl true)
def stU:Option Int->U
 |none=>.non
 |some t=>.int t
def Kc.up(K:Kc)(a:Int)(v:Ac):Kc:={ K with A:=fun x=>if x=a then v else K.A x }
structure Kr(cK cA:Cl)(j:Nat)(pos:Pl->Option Nat)(c:Pl->O)(K:Kc)(p:Nat->Nat)(q:Int->Nat->Nat):Prop where
 pk:∀f,f<6->pos (.k j f)=some (p f)
 c0:c (.k j 0)=.ins cK [some (.ref (p 1)),some (.ref (p 2)),some (.ref (p 3)),some (.int K.tk),some (.ref (p 4)),some (.ref (p 5))]
 c1:c (.k j 1)=.lst (K.bx.map U.int)
 c2:c (.k j 2)=.lst (K.ma.map U.int)
 c3:c (.k j 3)=.dic (dI K.ho)
 c4:c (.k j 4)=.lst K.ev
 c5:c (.k j 5)=.dic (K.ids.map fun a=>(.inl a,.ref (q a 0)))
 pa:∀a∈K.ids,∀f,f<4->pos (.a j a f)=some (q a f)
 a0:∀a∈K.ids,c (.a j a 0)=.ins cA [some (.int (K.A a).g),some (.ref (q a 1)),some (.ref (q a 2)),some (stU (K.A a).st),some (.ref (q a 3)),some (.bl (K.A a).op)]
 a1:∀a∈K.ids,c (.a j a 1)=.dic (dT (K.A a).lk)
 a2:∀a∈K.ids,c (.a j a 2)=.dic (dI (K.A a).pu)
 a3:∀a∈K.ids,c (.a j a 3)=.lst ((K.A a).un.map U.int)
def own(j:Nat):Pl->Prop
 |.k i _=>i=j
 |.a i _ _=>i=j
 |.x _ _=>False
def Fm(j:Nat)(pos:Pl->Option Nat)(c:Pl->O)(pos':Pl->Option Nat)(c':Pl->O):Prop:=∀s,¬own j s->pos' s=pos s/\c' s=c s
section
variable{cK cA:Cl}{j:Nat}{pos pos' pos'':Pl->Option Nat}{c c' c'':Pl->O}{K:Kc}{p:Nat->Nat}{q:Int->Nat->Nat}{a b:Int}{o:O}{s:Pl}{n:Nat}
def Fm.refl:Fm j pos c pos c:=fun _ _=>⟨rfl,rfl⟩
theorem Fm.trans(h:Fm j pos c pos' c')(h':Fm j pos' c' pos'' c''):Fm j pos c pos'' c'':=fun s n=>⟨(h' s n).1.trans (h s n).1,(h' s n).2.trans (h s n).2⟩
theorem Fm.upd(h:Fm j pos c pos' c')(hs:own j s):Fm j pos c pos' (aG c' s o):=fun s' n'=>⟨(h s' n').1,by rw[aD (fun e=>n' (by rw[e];exact hs))];exact(h s' n').2⟩
theorem Fm.pn(h:Fm j pos c pos' c')(hs:own j s):Fm j pos c (dg pos' s n) c':=fun s' n'=>⟨by rw[dX (fun e=>n' (by rw[e];exact hs))];exact(h s' n').1,(h s' n').2⟩
def Fm.uk(h:Fm j pos c pos' c')(f:Nat):Fm j pos c pos' (aG c' (.k j f) o):=h.upd rfl
def Fm.ua(h:Fm j pos c pos' c')(a:Int)(f:Nat):Fm j pos c pos' (aG c' (.a j a f) o):=h.upd rfl
theorem Kr.ev(R:Kr cK cA j pos c K p q)(ev:List U):Kr cK cA j pos (aG c (.k j 4) (.lst ev)) { K with ev:=ev } p q:=
 ⟨R.pk,by simpa [aG,Kc.up] using R.c0,by simpa [aG,Kc.up] using R.c1,by simpa [aG,Kc.up] using R.c2,by simpa [aG,Kc.up] using R.c3,by simp[aG],by simpa [aG,Kc.up] using R.c5,R.pa,fun a h=>by simpa [aG] using R.a0 a h,fun a h=>by simpa [aG] using R.a1 a h,fun a h=>by simpa [aG] using R.a2 a h,fun a h=>by simpa [aG] using R.a3 a h⟩
theorem Kr.bx(R:Kr cK cA j pos c K p q)(bx:List Int):Kr cK cA j pos (aG c (.k j 1) (.lst (bx.map U.int))) { K with bx:=bx } p q:=
 ⟨R.pk,by simpa [aG,Kc.up] using R.c0,by simp[aG],by simpa [aG,Kc.up] using R.c2,by simpa [aG,Kc.up] using R.c3,by simpa [aG,Kc.up] using R.c4,by simpa [aG,Kc.up] using R.c5,R.pa,fun a h=>by simpa [aG] using R.a0 a h,fun a h=>by simpa [aG] using R.a1 a h,fun a h=>by simpa [aG] using R.a2 a h,fun a h=>by simpa [aG] using R.a3 a h⟩
theorem Kr.ma(R:Kr cK cA j pos c K p q)(ma:List Int):Kr cK cA j pos (aG c (.k j 2) (.lst (ma.map U.int))) { K with ma:=ma } p q:=
 ⟨R.pk,by simpa [aG,Kc.up] using R.c0,by simpa [aG,Kc.up] using R.c1,by simp[aG],by simpa [aG,Kc.up] using R.c3,by simpa [aG,Kc.up] using R.c4,by simpa [aG,Kc.up] using R.c5,R.pa,fun a h=>by simpa [aG] using R.a0 a h,fun a h=>by simpa [aG] using R.a1 a h,fun a h=>by simpa [aG] using R.a2 a h,fun a h=>by simpa [aG] using R.a3 a h⟩
theorem Kr.ho(R:Kr cK cA j pos c K p q)(ho:List (Int×Int)):Kr cK cA j pos (aG c (.k j 3) (.dic (dI ho))) { K with ho:=ho } p q:=
 ⟨R.pk,by simpa [aG,Kc.up] using R.c0,by simpa [aG,Kc.up] using R.c1,by simpa [aG,Kc.up] using R.c2,by simp[aG],by simpa [aG,Kc.up] using R.c4,by simpa [aG,Kc.up] using R.c5,R.pa,fun a h=>by simpa [aG] using R.a0 a h,fun a h=>by simpa [aG] using R.a1 a h,fun a h=>by simpa [aG] using R.a2 a h,fun a h=>by simpa [aG] using R.a3 a h⟩
theorem Kr.tk(R:Kr cK cA j pos c K p q)(tk:Int):Kr cK cA j pos (aG c (.k j 0) (.ins cK [some (.ref (p 1)),some (.ref (p 2)),some (.ref (p 3)),some (.int tk),some (.ref (p 4)),some (.ref (p 5))])) { K with tk:=tk } p q:=
 ⟨R.pk,by simp[aG],by simpa [aG,Kc.up] using R.c1,by simpa [aG,Kc.up] using R.c2,by simpa [aG,Kc.up] using R.c3,by simpa [aG,Kc.up] using R.c4,by simpa [aG,Kc.up] using R.c5,R.pa,fun a h=>by simpa [aG] using R.a0 a h,fun a h=>by simpa [aG] using R.a1 a h,fun a h=>by simpa [aG] using R.a2 a h,fun a h=>by simpa [aG] using R.a3 a h⟩
theorem Kr.ao(R:Kr cK cA j pos c K p q)(g:Int)(st:Option Int)(op:Bool) :
  Kr cK cA j pos (aG c (.a j a 0) (.ins cA [some (.int g),some (.ref (q a 1)),some (.ref (q a 2)),some (stU st),some (.ref (q a 3)),some (.bl op)])) (K.up a { K.A a with g:=g,st:=st,op:=op }) p q:=by
 refine⟨R.pk,by simpa [aG,Kc.up] using R.c0,by simpa [aG,Kc.up] using R.c1,by simpa [aG,Kc.up] using R.c2,by simpa [aG,Kc.up] using R.c3,by simpa [aG,Kc.up] using R.c4,by simpa [aG,Kc.up] using R.c5,R.pa,fun b h=>?_,fun b h=>?_,fun b h=>?_,fun b h=>?_⟩
 ·by_cases e:b=a
  ·subst e;simp[aG,Kc.up]
  ·have:=R.a0 b h;simpa [aG,Kc.up,e] using this
 ·have:=R.a1 b h;by_cases e:b=a
  ·subst e;simpa [aG,Kc.up] using this
  ·simpa [aG,Kc.up,e] using this
 ·have:=R.a2 b h;by_cases e:b=a
  ·subst e;simpa [aG,Kc.up] using this
  ·simpa [aG,Kc.up,e] using this
 ·have:=R.a3 b h;by_cases e:b=a
  ·subst e;simpa [aG,Kc.up] using this
  ·simpa [aG,Kc.up,e] using this
theorem Kr.al(R:Kr cK cA j pos c K p q)(lk:List Int):Kr cK cA j pos (aG c (.a j a 1) (.dic (dT lk))) (K.up a { K.A a with lk:=lk }) p q:=by
 refine⟨R.pk,by simpa [aG,Kc.up] using R.c0,by simpa [aG,Kc.up] using R.c1,by simpa [aG,Kc.up] using R.c2,by simpa [aG,Kc.up] using R.c3,by simpa [aG,Kc.up] using R.c4,by simpa [aG,Kc.up] using R.c5,R.pa,fun b h=>?_,fun b h=>?_,fun b h=>?_,fun b h=>?_⟩
 ·have:=R.a0 b h;by_cases e:b=a
  ·subst e;simpa [aG,Kc.up] using this
  ·simpa [aG,Kc.up,e] using this
 ·have:=R.a1 b h;by_cases e:b=a
  ·subst e;simp[aG,Kc.up]
  ·simpa [aG,Kc.up,e] using this
 ·have:=R.a2 b h;by_cases e:b=a
  ·subst e;simpa [aG,Kc.up] using this
  ·simpa [aG,Kc.up,e] using this
 ·have:=R.a3 b h;by_cases e:b=a
  ·subst e;simpa [aG,Kc.up] using this
  ·simpa [aG,Kc.up,e] using this
theorem Kr.ap(R:Kr cK cA j pos c K p q)(pu:List (Int×Int)):Kr cK cA j pos (aG c (.a j a 2) (.dic (dI pu))) (K.up a { K.A a with pu:=pu }) p q:=by
 refine⟨R.pk,by simpa [aG,Kc.up] using R.c0,by simpa [aG,Kc.up] using R.c1,by simpa [aG,Kc.up] using R.c2,by simpa [aG,Kc.up] using R.c3,by simpa [aG,Kc.up] using R.c4,by simpa [aG,Kc.up] using R.c5,R.pa,fun b h=>?_,fun b h=>?_,fun b h=>?_,fun b h=>?_⟩
 ·have:=R.a0 b h;by_cases e:b=a
  ·subst e;simpa [aG,Kc.up] using this
  ·simpa [aG,Kc.up,e] using this
 ·have:=R.a1 b h;by_cases e:b=a
  ·subst e;simpa [aG,Kc.up] using this
  ·simpa [aG,Kc.up,e] using this
 ·have:=R.a2 b h;by_cases e:b=a
  ·subst e;simp[aG,Kc.up]
  ·simpa [aG,Kc.up,e] using this
 ·have:=R.a3 b h;by_cases e:b=a
  ·subst e;simpa [aG,Kc.up] using this
  ·simpa [aG,Kc.up,e] using this
theorem Kr.au(R:Kr cK cA j pos c K p q)(un:List Int):Kr cK cA j pos (aG c (.a j a 3) (.lst (un.map U.int))) (K.up a { K.A a with un:=un }) p q:=by
 refine⟨R.pk,by simpa [aG,Kc.up] using R.c0,by simpa [aG,Kc.up] using R.c1,by simpa [aG,Kc.up] using R.c2,by simpa [aG,Kc.up] using R.c3,by simpa [aG,Kc.up] using R.c4,by simpa [aG,Kc.up] using R.c5,R.pa,fun b h=>?_,fun b h=>?_,fun b h=>?_,fun b h=>?_⟩
 ·have:=R.a0 b h;by_cases e:b=a
  ·subst e;simpa [aG,Kc.up] using this
  ·simpa [aG,Kc.up,e] using this
 ·have:=R.a1 b h;by_cases e:b=a
  ·subst e;simpa [aG,Kc.up] using this
  ·simpa [aG,Kc.up,e] using this
 ·have:=R.a2 b h;by_cases e:b=a
  ·subst e;simpa [aG,Kc.up] using this
  ·simpa [aG,Kc.up,e] using this
 ·have:=R.a3 b h;by_cases e:b=a
  ·subst e;simp[aG,Kc.up]
  ·simpa [aG,Kc.up,e] using this
end
theorem qp{S:Sto}{ci:CE}{el:CE}{n:Nat}{caps:List Nat}{ρ:Rho}{ld:Nat}{kus:List (Key×U)}{v:Key×U->U}{r:Rho}(hi:ci ρ S=some (.ref ld,S))(hd:S[ld]?=some (.dic kus))(hr:pF 1 caps ρ=none::r)(hl:kus.length<=900)
  (he:∀ep ys,∀p∈kus,el (some (kU p.1)::r) (S.set ld (.fdc ep kus)++[.lst ys])=some (v p,S.set ld (.fdc ep kus)++[.lst ys])) :
  gP ci (gNm 0) el 1 caps ρ S=some (.ref S.length,S++[.lst (kus.map v)]):=by
 have lk:ld<S.length:=(Q4.mp hd).1;unfold gP nI;rw[hi,Q6];simp only[hd];refine rZ fun ep=>?_;have ek:∀X:Sto,(S.set ld (.fdc ep kus)++X)[ld]?=some (.fdc ep kus):=fun X=>aY (by rw[Qd,if_pos rfl,if_pos lk]);have key:∀(ks:List (Key×U)) (ys:List U) (r0:Option U),(∀p∈ks,p∈kus)->ys.length+ks.length<=9999->fi (fun S'=>S'[ld]?=some (.fdc ep kus)) (gNm 0) el S.length (ks.map fun p=>kU p.1) (r0::r) (S.set ld (.fdc ep kus)++[.lst ys])=some (S.set ld (.fdc ep kus)++[.lst (ys++ks.map v)]):=by
  intro ks;induction ks with
  |nil=>intro ys r0 _ _;rw[Qs,Qs,List.append_nil];exact gy (ek _)
  |cons p ks ih=>
   intro ys r0 hm hn;rw[QJ]at hn;rw[QU,QU];refine(eP (ρ0:=some (kU p.1)::r) (S0:=S.set ld (.fdc ep kus)++[.lst ys]) (S1:=S.set ld (.fdc ep kus)++[.lst ys]) (x:=v p) (ys:=ys) (ek _) rfl (he ep ys p (hm p QB)) ?_ (by unfold LIM;omega)).trans ?_
   ·have:=ga0 (S:=S.set ld (.fdc ep kus)) (X:=[.lst ys]);rw[Qm]at this;rw[this];rfl
   ·have:=gs0 (S:=S.set ld (.fdc ep kus)) (X:=[.lst ys]) (o:=.lst (ys++[v p]));rw[Qm]at this;rw[this];show fi _ _ _ _ _ _ (S.set ld (.fdc ep kus)++[.lst (ys++[v p])])=_;rw[ih (ys++[v p]) _ (fun q hq=>hm q (Q8 _ hq)) (by simp;omega),Qy];rfl
 rw[hr,key kus [] none (fun p h=>h) (by simp;omega),Q6];have e2:(S.set ld (.fdc ep kus)++[O.lst ([]++kus.map v)]).set ld (.dic kus)=S++[.lst (kus.map v)]:=by
  rw[List.set_append_left _ _ (by rw[Qm];exact lk),pE hd,Qu]
 simp only[ek,e2]
section
variable{q:Int->Nat->Nat}{a b:Int}{ids:List Int}{l:List (Int×Int)}{xs:List Int}
theorem iO:∀{ids:List Int},a∈ids->bB (ids.map fun a=>((.inl a:Key),U.ref (q a 0))) (.inl a)=some (.ref (q a 0))
 |x::r,h=>by
  unfold bB;rw[QU,Qx];by_cases e:x=a
  ·subst e;simp
  ·have hd:decide ((.inl x:Key)=.inl a)=false:=decide_eq_false fun z=>e (Sum.inl.inj z);rw[hd];exact iO (ids:=r) ((QC.mp h).resolve_left fun z=>e z.symm)
theorem kx:∀{ids:List Int},a∉ids->bB (ids.map fun a=>((.inl a:Key),U.ref (q a 0))) (.inl a)=none
 |[],_=>rfl
 |x::r,h=>by
  unfold bB;rw[QU,Qx];have hd:decide ((.inl x:Key)=.inl a)=false:=decide_eq_false fun z=>h (by rw[<-Sum.inl.inj z];exact QB);rw[hd];exact kx (ids:=r) fun z=>h (Q8 _ z)
theorem jw(b:Int):∀(l:List (Int×Int)),bB (dI l) (.inl b)=(bB l b).map U.int
 |[]=>rfl
 |(x,v)::r=>by
  have ih:=jw b r;unfold bB dI at *;rw[QU,Qx,Qx];by_cases e:x=b
  ·subst e;simp
  ·have hd:decide ((.inl x:Key)=.inl b)=false:=decide_eq_false fun z=>e (Sum.inl.inj z);have hd':decide (x=b)=false:=decide_eq_false e;dsimp only;rw[hd,hd'];exact ih
theorem xJ(l:List (Int×Int))(b v:Int):dW (dI l) (.inl b) (.int v)=dI (dW l b v):=vG (κ':=Key) Sum.inl U.int (fun _ _ h=>Sum.inl.inj h) l b v
def xI(l:List Int)(b:Int):dW (dT l) (.inl b) (.bl true)=dT (rm l b):=vE b l
theorem Aw(l:List (Int×Int))(b:Int):hR (dI l) (.inl b)=dI (hR l b):=by
 unfold hR dI;rw[List.filter_map];congr 1;refine List.filter_congr fun p _=>?_;simp
theorem AO(b0:0<=b)(b1:b<xs.length):atI (xs.map U.int) b=some (.int (xs.getD b.toNat 0)):=by
 have hi:b.toNat<xs.length:=by omega
 have:=iW (xs:=xs.map U.int) (j:=b.toNat) (v:=.int xs[b.toNat]) (by rw[Qq,QV hi];rfl);rw[show((b.toNat:Nat):Int)=b from by omega]at this;rw[this,ZV,QV hi];rfl
theorem GG(b0:0<=b)(b1:b<xs.length):ixN (xs.map U.int).length b=some b.toNat:=by
 unfold ixN;rw[if_pos b0,if_pos (by rw[QZ];exact b1)]
end
def brd(K:Kc)(a:Int)(bs:List Int):Bool:=bs.any fun b=>!decide ((bB K.ho b).getD a=a)
def CL(K:Kc)(a:Int):Bool:=(K.A a).lk.any fun b=>decide ((K.A a).g<K.ma.getD b.toNat 0)
def DC(K:Kc)(a b:Int):Bool:=brd K a [b]||(!decide (K.ma.getD b.toNat 0<=(K.A a).g)&&(brd K a (K.A a).lk||CL K a))
structure Kw(K:Kc)(n:Nat):Prop where
 lb:K.bx.length=n
 lm:K.ma.length=n
 few:n<=900
 ids:K.ids.Nodup
 lk:∀a∈K.ids,(K.A a).lk.length<=900/\∀b∈(K.A a).lk,0<=b/\b<n
 pu:∀a∈K.ids,(K.A a).pu.length<64/\((K.A a).pu.map (·.1)).Nodup/\∀e∈(K.A a).pu,0<=e.1/\e.1<n
def Nx(cK cA:Cl)(j:Nat)(pos:Pl->Option Nat)(c:Pl->O)(p:Nat->Nat)(K':Kc)(T':Sto):Prop:=∃pos' c' q',Mm pos' c' T'/\Kr cK cA j pos' c' K' p q'/\Fm j pos c pos' c'
section
variable{cK cA:Cl}{j n:Nat}{pos:Pl->Option Nat}{c:Pl->O}{T:Sto}{K:Kc}{p:Nat->Nat}{q:Int->Nat->Nat}{a b:Int}
def Kc.end(K:Kc)(a:Int)(w:Str):Kc:={ K.up a { K.A a with op:=false } with ev:=K.ev++[.tup [.str w,.int a]] }
def iK(cK cA:Cl):Fn:=fnU 4 3 (dQ cK cA)
theorem lE{w:Str}(M:Mm pos c T)(R:Kr cK cA j pos c K p q)(ha:a∈K.ids)(hl:K.ev.length<=9000):Wp (iK cK cA [.ref (p 0),.int a,.str w] T) fun r=>r.1=.non/\Nx cK cA j pos c p (K.end a w) r.2:=by
 have t0:=M.get (R.pk 0 (by decide)) R.c0;have t5:=M.get (R.pk 5 (by decide)) R.c5;have tr:=M.get (R.pa a ha 0 (by decide)) (R.a0 a ha);have v:=iO (q:=q) ha;have M1:=M.set (R.pa a ha 0 (by decide)) (.ins cA [some (.int (K.A a).g),some (.ref (q a 1)),some (.ref (q a 2)),some (stU (K.A a).st),some (.ref (q a 3)),some (.bl false)]);have R1:=R.ao (a:=a) (K.A a).g (K.A a).st false;have s0:=M1.get (R1.pk 0 (by decide)) R1.c0;have s4:=M1.get (R1.pk 4 (by decide)) R1.c4;have hL:K.ev.length<LIM:=by unfold LIM;omega
 refine⟨(.non,_),?_,rfl,pos,_,q,M1.set (R1.pk 4 (by decide)) (.lst (K.ev++[.tup [.str w,.int a]])),R1.ev _,(Fm.refl.ua a 0).uk 4⟩;unfold iK;rw[nB];rwa[dQ,t0,t5,v,tr,s0,s4,Kc.up,i6 hL]
def iZ(cK cA:Cl):Fn:=fnU 2 2 (cN cK cA)
theorem qf(M:Mm pos c T)(R:Kr cK cA j pos c K p q)(ha:a∈K.ids)(op:(K.A a).op=true):iZ cK cA [.ref (p 0),.int a] T=some (.ref (q a 0),T):=by
 have t0:=M.get (R.pk 0 (by decide)) R.c0;have t5:=M.get (R.pk 5 (by decide)) R.c5;have tr:=M.get (R.pa a ha 0 (by decide)) (R.a0 a ha);have v:=iO (q:=q) ha;rw[op]at tr;unfold iZ;rw[kj];rwa[cN,t0,t5,v,tr,Option.isSome_some,if_true]
def gn(cK cA:Cl):Fn:=fnU 3 2 (bW (iZ cK cA) cK cA)
theorem kY(M:Mm pos c T)(R:Kr cK cA j pos c K p q)(ha:a∈K.ids)(op:(K.A a).op=true)(st:(K.A a).st=none):gn cK cA [.ref (p 0),.int a] T=some (.ref (q a 0),T):=by
 have t0:=M.get (R.pk 0 (by decide)) R.c0;have tr:=M.get (R.pa a ha 0 (by decide)) (R.a0 a ha);have f:=qf M R ha op;rw[st]at tr;unfold gn;rw[jk];rwa[bW,t0,f,tr,stU,ym,tZ]
def qw(cK:Cl):CE:=cOp fNe (rk (bQ cK 2 (ak 2)) (ak 0) (ak 1)) (ak 1)
theorem uD{S:Sto}{k0 k3:Nat}{fs:List (Option U)}{ho:List (Int×Int)}(h0:S[k0]?=some (.ins cK fs))(hf:fs[2]?=some (some (.ref k3)))(h3:S[k3]?=some (.dic (dI ho))):qw cK [some (.int b),some (.int a),some (.ref k0)] S=some (.bl (!decide ((bB ho b).getD a=a)),S):=by
 have F:AK cK 2 (.ref k0,S)=some (.ref k3,S):=xp h0 hf;have g:((bB ho b).map U.int).getD (.int a)=.int ((bB ho b).getD a):=by cases bB ho b<;>rfl
 unfold qw;rwa[F,h3,jw,g]
def cS(cK:Cl):Fn:=fnU 3 3 (b7 cK)
theorem any_map{α:Type}{l:Nat}{S:Sto}{xs:List α}{f:α->Bool}(h:S[l]?=some (.lst (xs.map fun x=>U.bl (f x)))):wN [.ref l] S=some (.bl (xs.any f),S):=by
 have em:(xs.map fun x=>U.bl (f x))=(xs.map f).map U.bl:=by rw[Qr];rfl
 simp only[wN,h,em,qv,Q6,List.any_map];rfl
theorem AA{lb:Nat}{bs:List Int}(M:Mm pos c T)(R:Kr cK cA j pos c K p q)(hb:T[lb]?=some (.lst (bs.map U.int)))(hl:bs.length<=900):∃X,cS cK [.ref (p 0),.int a,.ref lb] T=some (.bl (brd K a bs),T++X):=by
 have t0:=M.get (R.pk 0 (by decide)) R.c0;have t3:=M.get (R.pk 3 (by decide)) R.c3;have key:=nE (S:=T) (ok:=fun S=>S[lb]?=some (.lst (bs.map U.int))) (gg:=gNm 0) (ce:=qw cK) (f:=U.int) (v:=fun b=>.bl (!decide ((bB K.ho b).getD a=a))) (Rel:=fun ρ=>∃r0,ρ=[r0,some (.int a),some (.ref (p 0))]) (fun ys G=>aY hb) bs [] [] [none,some (.int a),some (.ref (p 0))] ⟨_,rfl⟩ (by simp;omega) (fun b hb' ys G ρ hρ=>by
  obtain⟨r0,rfl⟩:=hρ;exact⟨[some (.int b),some (.int a),some (.ref (p 0))],⟨_,rfl⟩,rfl,uD (aY t0) rfl (aY t3)⟩)
 simp only[Qu]at key;have hc:dZ (iTp (ak 2)) (gNm 0) (qw cK) 1 [1,0] [some (.ref (p 0)),some (.int a),some (.ref lb)] T=some (.ref T.length,T++[.lst (bs.map fun b=>.bl (!decide ((bB K.ho b).getD a=a)))]):=by
  have hv:ak 2 [some (.ref (p 0)),some (.int a),some (.ref lb)] T=some (.ref lb,T):=rfl;unfold dZ iTp;rw[hv,Q6];simp only[hb,Q6,pF,QQ,QU,Qs,Z8,Z9,Option.getD_some,Qa,Qu,key]
 have he:lX (dZ (iTp (ak 2)) (gNm 0) (qw cK) 1 [1,0]) (gP (ak 2) (gNm 0) (qw cK) 1 [1,0]) [some (.ref (p 0)),some (.int a),some (.ref lb)] T=some (.ref T.length,T++[.lst (bs.map fun b=>.bl (!decide ((bB K.ho b).getD a=a)))]):=by
  unfold lX;rw[hc]
 have ha:=any_map (S:=T++[.lst (bs.map fun b=>.bl (!decide ((bB K.ho b).getD a=a)))]) (l:=T.length) (xs:=bs) (by rw[ga0];rfl);refine⟨[.lst (bs.map fun b=>.bl (!decide ((bB K.ho b).getD a=a)))],?_⟩;unfold cS;rw[eZ];show((eJ (cCB wN (ag (lX (dZ (iTp (ak 2)) (gNm 0) (qw cK) 1 [1,0]) (gP (ak 2) (gNm 0) (qw cK) 1 [1,0])) aH))) _ T).bind kFn=_;rwa[he,ha];rfl
theorem oR{s:Pl}{ld:Nat}{α:Type}{xs:List α}{kf:α->Int}{vf:α->U}(M:Mm pos c T)(R:Kr cK cA j pos c K p q)(hs:pos s=some ld)(hc:c s=.dic (xs.map fun x=>(.inl (kf x),vf x)))(s1:s≠.k j 0)(s2:s≠.k j 3)(hl:xs.length<=900):∃X,cS cK [.ref (p 0),.int a,.ref ld] T=some (.bl (brd K a (xs.map kf)),T++X):=by
 have td:=M.get hs hc;have hcd:=qp (S:=T) (ci:=ak 2) (el:=qw cK) (n:=1) (caps:=[1,0]) (ρ:=[some (.ref (p 0)),some (.int a),some (.ref ld)]) (r:=[some (.int a),some (.ref (p 0))]) (v:=fun e=>match e.1 with|.inl b=>.bl (!decide ((bB K.ho b).getD a=a))|.inr _=>.non) rfl td rfl (by simpa using hl) (fun ep ys e he=>by
  obtain⟨x,hx,rfl⟩:=Qw.mp he;have M1:=M.set hs (.fdc ep (xs.map fun x=>(.inl (kf x),vf x)));have t0:=M1.get (R.pk 0 (by decide)) ((aD (Ne.symm s1)).trans R.c0);have t3:=M1.get (R.pk 3 (by decide)) ((aD (Ne.symm s2)).trans R.c3);exact uD (aY t0) rfl (aY t3))
 rw[Qr]at hcd;have he:lX (dZ (iTp (ak 2)) (gNm 0) (qw cK) 1 [1,0]) (gP (ak 2) (gNm 0) (qw cK) 1 [1,0]) [some (.ref (p 0)),some (.int a),some (.ref ld)] T=some (.ref T.length,T++[.lst (xs.map fun x=>.bl (!decide ((bB K.ho (kf x)).getD a=a)))]):=by
  have h1:dZ (iTp (ak 2)) (gNm 0) (qw cK) 1 [1,0] [some (.ref (p 0)),some (.int a),some (.ref ld)] T=none:=by
   have hv:ak 2 [some (.ref (p 0)),some (.int a),some (.ref ld)] T=some (.ref ld,T):=rfl;unfold dZ iTp;rw[hv,Q6];simp only[td];rfl
  unfold lX;rw[h1];exact hcd
 have ha:=any_map (S:=T++[.lst (xs.map fun x=>.bl (!decide ((bB K.ho (kf x)).getD a=a)))]) (l:=T.length) (xs:=xs) (by rw[ga0];rfl);refine⟨[.lst (xs.map fun x=>.bl (!decide ((bB K.ho (kf x)).getD a=a)))],?_⟩;have eb:brd K a (xs.map kf)=xs.any fun x=>!decide ((bB K.ho (kf x)).getD a=a):=by unfold brd;rw[List.any_map];rfl
 rw[eb];unfold cS;rw[eZ];show((eJ (cCB wN (ag (lX (dZ (iTp (ak 2)) (gNm 0) (qw cK) 1 [1,0]) (gP (ak 2) (gNm 0) (qw cK) 1 [1,0])) aH))) _ T).bind kFn=_;rwa[he,ha]
def DT(cK cA:Cl):CE:=cOp fGt (cOp fIx (bQ cK 1 (ak 2)) (ak 0)) (bQ cA 0 (ak 1))
def nT(cK cA:Cl):Fn:=fnU 3 2 (bq cK cA)
theorem yc(M:Mm pos c T)(R:Kr cK cA j pos c K p q)(W:Kw K n)(ha:a∈K.ids):∃X,nT cK cA [.ref (p 0),.int a] T=some (.bl (CL K a),T++X):=by
 have t0:=M.get (R.pk 0 (by decide)) R.c0;have t5:=M.get (R.pk 5 (by decide)) R.c5;have tr:=M.get (R.pa a ha 0 (by decide)) (R.a0 a ha);have tl:=M.get (R.pa a ha 1 (by decide)) (R.a1 a ha);have v:=iO (q:=q) ha;obtain⟨l1,l2⟩:=W.lk a ha;have hi:bQ cA 1 (ak 2) [some (.ref (p 0)),some (.int a),some (.ref (q a 0))] T=some (.ref (q a 1),T):=by
  rwa[tr]
 have hcd:=qp (S:=T) (ci:=bQ cA 1 (ak 2)) (el:=DT cK cA) (n:=1) (caps:=[2,0]) (ρ:=[some (.ref (p 0)),some (.int a),some (.ref (q a 0))]) (r:=[some (.ref (q a 0)),some (.ref (p 0))]) (v:=fun e=>match e.1 with|.inl b=>.bl (decide ((K.A a).g<K.ma.getD b.toNat 0))|.inr _=>.non) hi tl rfl (by unfold dT;simpa using l1) (fun ep ys e he=>by
  obtain⟨b,hb,rfl⟩:=Qw.mp he;obtain⟨b0,b1⟩:=l2 b hb;have M1:=M.set (R.pa a ha 1 (by decide)) (.fdc ep (dT (K.A a).lk));have s0:=aY (r:=[O.lst ys]) (M1.get (R.pk 0 (by decide)) ((aD (by simp)).trans R.c0));have s2:=aY (r:=[O.lst ys]) (M1.get (R.pk 2 (by decide)) ((aD (by simp)).trans R.c2));have sr:=aY (r:=[O.lst ys]) (M1.get (R.pa a ha 0 (by decide)) ((aD (by simp)).trans (R.a0 a ha)));have am:=AO (xs:=K.ma) b0 (by rw[W.lm];exact b1);show DT cK cA [some (.int b),some (.ref (q a 0)),some (.ref (p 0))] _=_;unfold DT;rwa[s0,s2,sr,am])
 have em:((dT (K.A a).lk).map fun e=>match e.1 with|.inl b=>U.bl (decide ((K.A a).g<K.ma.getD b.toNat 0))|.inr _=>.non)=(K.A a).lk.map fun b=>U.bl (decide ((K.A a).g<K.ma.getD b.toNat 0)):=by unfold dT;rw[Qr];rfl
 rw[em]at hcd;have hn:=any_map (S:=T++[.lst ((K.A a).lk.map fun b=>U.bl (decide ((K.A a).g<K.ma.getD b.toNat 0)))]) (l:=T.length) (xs:=(K.A a).lk) (by rw[ga0];rfl);refine⟨[.lst ((K.A a).lk.map fun b=>U.bl (decide ((K.A a).g<K.ma.getD b.toNat 0)))],?_⟩;unfold nT;rw[gE];unfold bq;rw[eG (ρ':=[some (.ref (p 0)),some (.int a),some (.ref (q a 0))]) (S':=T) (by rwa[t0,t5,v])];show((eJ (cCB wN (ag (gP (bQ cA 1 (ak 2)) (gNm 0) (DT cK cA) 1 [2,0]) aH))) _ T).bind kFn=_;rwa[hcd,hn];rfl
def F8(cK cA:Cl):Fn:=fnU 3 3 (aR (cS cK) (nT cK cA) cK cA)
theorem EZ(M:Mm pos c T)(R:Kr cK cA j pos c K p q)(W:Kw K n)(ha:a∈K.ids)(b0:0<=b)(b1:b<n):∃X,F8 cK cA [.ref (p 0),.int a,.int b] T=some (.bl (DC K a b),T++X):=by
 have t0:=M.get (R.pk 0 (by decide)) R.c0;have t2:=M.get (R.pk 2 (by decide)) R.c2;have t5:=M.get (R.pk 5 (by decide)) R.c5;have tr:=M.get (R.pa a ha 0 (by decide)) (R.a0 a ha);have v:=iO (q:=q) ha;have am:=AO (xs:=K.ma) b0 (by rw[W.lm];exact b1);have g0:∀Y,(T++Y)[p 0]?=_:=fun Y=>aY t0;have g2:∀Y,(T++Y)[p 2]?=_:=fun Y=>aY t2;have g5:∀Y,(T++Y)[p 5]?=_:=fun Y=>aY t5;have gr:∀Y,(T++Y)[q a 0]?=_:=fun Y=>aY tr;obtain⟨X1,e1⟩:=AA (a:=a) (lb:=T.length) (bs:=[b]) (M.app [.lst [.int b]]) R (by rw[ga0];rfl) (by simp);rw[Qy]at e1;have M1:=M.app ([.lst [.int b]]++X1);obtain⟨X2,e2⟩:=oR (a:=a) (xs:=(K.A a).lk) (kf:=fun b=>b) (vf:=fun _=>.bl true) M1 R (R.pa a ha 1 (by decide)) (R.a1 a ha) (by simp) (by simp) (W.lk a ha).1;obtain⟨X3,e3⟩:=yc (M1.app X2) R W ha;rw[List.map_id']at e2;simp only[Qy,Qa,Qu]at e1 e2 e3;unfold F8 DC;rw[hJ];cases h1:brd K a [b]with
 |true=>
  rw[h1]at e1;exact⟨.lst [.int b]::X1,by rwa[aR,t0,e1,Bool.true_or]⟩
 |false=>
  rw[h1]at e1;cases h2:decide (K.ma.getD b.toNat 0<=(K.A a).g)with
  |true=>exact⟨.lst [.int b]::X1,by rwa[aR,t0,e1,g0,g2,g5,v,gr,am,h2,Bool.not_true,Bool.false_and,Bool.or_false]⟩
  |false=>
   cases h3:brd K a (K.A a).lk with
   |true=>
    rw[h3]at e2;exact⟨.lst [.int b]::(X1++X2),by rwa[aR,t0,e1,g0,g2,g5,v,gr,am,h2,e2,Bool.not_false,Bool.true_and,Bool.true_or,Bool.false_or]⟩
   |false=>
    rw[h3]at e2;exact⟨.lst [.int b]::(X1++(X2++X3)),by rwa[aR,t0,e1,g0,g2,g5,v,gr,am,h2,e2,e3,Bool.not_false,Bool.true_and,Bool.false_or]⟩
def Kc.anew(K:Kc)(a b:Int):Kc:=K.up a { K.A a with g:=if (K.A a).g<K.ma.getD b.toNat 0 then K.tk else(K.A a).g,lk:=rm (K.A a).lk b }
def Kc.say(K:Kc)(e:U):Kc:={ K with ev:=K.ev++[e] }
theorem up2{v w:Ac}:(K.up a v).up a w=K.up a w:=by
 unfold Kc.up;congr 1;funext x;by_cases h:x=a<;>simp[h]
def gS{v:Ac}:(K.up a v).A a=v:=if_pos rfl
def uO(cK cA:Cl):Fn:=fnU 3 3 (bc cK cA)
theorem AE(M:Mm pos c T)(R:Kr cK cA j pos c K p q)(W:Kw K n)(ha:a∈K.ids)(b0:0<=b)(b1:b<n):Wp (uO cK cA [.ref (p 0),.ref (q a 0),.int b] T) fun r=>r.1=.int (K.bx.getD b.toNat 0)/\∃c',Mm pos c' r.2/\Kr cK cA j pos c' (K.anew a b) p q/\Fm j pos c pos c':=by
 have t0:=M.get (R.pk 0 (by decide)) R.c0;have t1:=M.get (R.pk 1 (by decide)) R.c1;have t2:=M.get (R.pk 2 (by decide)) R.c2;have tr:=M.get (R.pa a ha 0 (by decide)) (R.a0 a ha);have tl:=M.get (R.pa a ha 1 (by decide)) (R.a1 a ha);have am:=AO (xs:=K.ma) b0 (by rw[W.lm];exact b1);have ab:=AO (xs:=K.bx) b0 (by rw[W.lb];exact b1);have hL:(dT (K.A a).lk).length<LIM:=by unfold LIM dT;rw[QZ];have:=(W.lk a ha).1;omega
 unfold uO Kc.anew;rw[iH];by_cases h:(K.A a).g<K.ma.getD b.toNat 0
 ·have hd:decide ((K.A a).g<K.ma.getD b.toNat 0)=true:=decide_eq_true h;rw[if_pos h];have M1:=M.set (R.pa a ha 0 (by decide)) (.ins cA [some (.int K.tk),some (.ref (q a 1)),some (.ref (q a 2)),some (stU (K.A a).st),some (.ref (q a 3)),some (.bl (K.A a).op)]);have R1:=R.ao (a:=a) K.tk (K.A a).st (K.A a).op;have s0:=M1.get (R1.pk 0 (by decide)) R1.c0;have sr:=M1.get (R1.pa a ha 0 (by decide)) (R1.a0 a ha);have sl:=M1.get (R1.pa a ha 1 (by decide)) (R1.a1 a ha);rw[gS]at sr sl;have M2:=M1.set (R1.pa a ha 1 (by decide)) (.dic (dT (rm (K.A a).lk b)));have R2:=R1.al (a:=a) (rm (K.A a).lk b);have w0:=M2.get (R2.pk 0 (by decide)) R2.c0;have w1:=M2.get (R2.pk 1 (by decide)) R2.c1;rw[gS,up2]at R2;refine⟨(_,_),?_,rfl,_,M2,R2,(Fm.refl.ua a 0).ua a 1⟩;rwa[bc,t0,t2,am,tr,hd,s0,sr,sl,hL,if_true,xI,w0,w1,Kc.up,ab]
 ·have hd:decide ((K.A a).g<K.ma.getD b.toNat 0)=false:=decide_eq_false h;rw[if_neg h];have M2:=M.set (R.pa a ha 1 (by decide)) (.dic (dT (rm (K.A a).lk b)));have R2:=R.al (a:=a) (rm (K.A a).lk b);have w0:=M2.get (R2.pk 0 (by decide)) R2.c0;have w1:=M2.get (R2.pk 1 (by decide)) R2.c1;refine⟨(_,_),?_,rfl,_,M2,R2,Fm.refl.ua a 1⟩;rwa[bc,t0,t2,am,tr,hd,tl,hL,if_true,xI,w0,w1,Kc.up,ab]
def gh(K:Kc)(a b:Int):U×Kc:=match bB (K.A a).pu b with
 |some v=>(.tup [.str "number",.int v],K.say (.tup [.str "look",.int a,.int b,.int v]))
 |none=>if DC K a b=true then(.tup [.str "falls"],K.end a "fall")else(.tup [.str "number",.int (K.bx.getD b.toNat 0)],(K.anew a b).say (.tup [.str "look",.int a,.int b,.int (K.bx.getD b.toNat 0)]))
def uL(cK cA:Cl):Fn:=fnU 5 3 (bV (gn cK cA) (F8 cK cA) (iK cK cA) (uO cK cA) cK cA)
theorem zZ(M:Mm pos c T)(R:Kr cK cA j pos c K p q)(W:Kw K n)(ha:a∈K.ids)(op:(K.A a).op=true)(st:(K.A a).st=none)(b0:0<=b)(b1:b<n)(hl:K.ev.length<=9000):Wp (uL cK cA [.ref (p 0),.int a,.int b] T) fun r=>r.1=(gh K a b).1/\Nx cK cA j pos c p (gh K a b).2 r.2:=by
 have t0:=M.get (R.pk 0 (by decide)) R.c0;have t4:=M.get (R.pk 4 (by decide)) R.c4;have tr:=M.get (R.pa a ha 0 (by decide)) (R.a0 a ha);have tp:=M.get (R.pa a ha 2 (by decide)) (R.a2 a ha);have u:=kY M R ha op st;have hL:K.ev.length<LIM:=by unfold LIM;omega
 unfold uL gh;rw[lS];cases hv:bB (K.A a).pu b with
 |some v=>
  refine⟨(_,_),?_,rfl,pos,_,q,M.set (R.pk 4 (by decide)) (.lst (K.ev++[.tup [.str "look",.int a,.int b,.int v]])),R.ev _,Fm.refl.uk 4⟩;rwa[bV,t0,u,tr,tp,jw,hv,Z6,Option.isSome_some,ZQ,if_false,t4,i6 hL]
 |none=>
  obtain⟨X,e1⟩:=EZ M R W ha b0 b1;have M1:=M.app X;have g0:=M1.get (R.pk 0 (by decide)) R.c0;dsimp only;cases hw:DC K a b with
  |true=>
   rw[hw]at e1;rw[if_pos rfl];obtain⟨⟨u1,T1⟩,e2,rfl,pos',c',q',M2,R2,F2⟩:=lE (w:="fall") M1 R ha hl;refine⟨(_,_),?_,rfl,pos',c',q',M2,R2,F2⟩;rwa[bV,t0,u,tr,tp,jw,hv,Option.map_none,Option.isSome_none,ZQ,if_false,e1,g0,e2]
  |false=>
   rw[hw]at e1;rw[if_neg Q7];obtain⟨⟨u1,T1⟩,e2,rfl,c',M2,R2,F2⟩:=AE M1 R W ha b0 b1;have s0:=M2.get (R2.pk 0 (by decide)) R2.c0;have s4:=M2.get (R2.pk 4 (by decide)) R2.c4;refine⟨(_,_),?_,rfl,pos,_,q,M2.set (R2.pk 4 (by decide)) (.lst (K.ev++[.tup [.str "look",.int a,.int b,.int (K.bx.getD b.toNat 0)]])),R2.ev _,F2.uk 4⟩;rwa[bV,t0,u,tr,tp,jw,hv,Option.map_none,Option.isSome_none,ZQ,if_false,e1,g0,e2,s0,s4,Kc.anew,Kc.up,i6 hL]
def FF(K:Kc)(a b v:Int):Kc:=(K.up a { K.A a with pu:=dW (K.A a).pu b v }).say (.tup [.str "put",.int a,.int b,.int v])
def uM(cK cA:Cl):Fn:=fnU 5 4 (dM (gn cK cA) cK cA)
theorem Aa{v:Int}(M:Mm pos c T)(R:Kr cK cA j pos c K p q)(W:Kw K n)(ha:a∈K.ids)(op:(K.A a).op=true)(st:(K.A a).st=none)(hl:K.ev.length<=9000):Wp (uM cK cA [.ref (p 0),.int a,.int b,.int v] T) fun r=>r.1=.non/\Nx cK cA j pos c p (FF K a b v) r.2:=by
 have t0:=M.get (R.pk 0 (by decide)) R.c0;have tr:=M.get (R.pa a ha 0 (by decide)) (R.a0 a ha);have tp:=M.get (R.pa a ha 2 (by decide)) (R.a2 a ha);have u:=kY M R ha op st;have hL:K.ev.length<LIM:=by unfold LIM;omega
 have hP:(dI (K.A a).pu).length<LIM:=by unfold LIM dI;rw[QZ];have:=(W.pu a ha).1;omega
 have M1:=M.set (R.pa a ha 2 (by decide)) (.dic (dI (dW (K.A a).pu b v)));have R1:=R.ap (a:=a) (dW (K.A a).pu b v);have s0:=M1.get (R1.pk 0 (by decide)) R1.c0;have s4:=M1.get (R1.pk 4 (by decide)) R1.c4;refine⟨(_,_),?_,rfl,pos,_,q,M1.set (R1.pk 4 (by decide)) (.lst (K.ev++[.tup [.str "put",.int a,.int b,.int v]])),R1.ev _,(Fm.refl.ua a 2).uk 4⟩;unfold uM;rw[ny];rwa[dM,t0,u,tr,tp,hP,if_true,xJ,s0,s4,Kc.up,i6 hL]
end
theorem tL:∀l:List (Int×Int),lD (dI l)=some (l.map (·.1))
 |[]=>rfl
 |e::r=>by
  show(lD (dI r)).map (e.1::·)=_;rw[tL r];rfl
theorem o9{l:List (Int×Int)}{b d:Int}(h:d≠b):bB (hR l b) d=bB l d:=by
 unfold bB hR;induction l with
 |nil=>rfl
 |cons e r ih=>
  rw[List.filter_cons];by_cases z:e.1=b
  ·rw[if_neg (by simpa using z),Qx,show decide (e.1=d)=false from decide_eq_false (by rw[z];exact Ne.symm h)];exact ih
  ·rw[if_pos (by simpa using z),Qx,Qx];cases decide (e.1=d)
   ·exact ih
   ·rfl
section
variable{cK cA:Cl}{j:Nat}{pos:Pl->Option Nat}{c:Pl->O}{T:Sto}{K:Kc}{p:Nat->Nat}{q:Int->Nat->Nat}{a:Int}
def me(cA:Cl):Fn:=fnU 2 2 (cR cA)
theorem wo{S:Sto}{tk:Int}(hns:cA.ns.length=6):iT cA (me cA) [.int tk] S=some (.ref S.length,S++[.ins cA [some (.int tk),some (.ref (S.length+1)),some (.ref (S.length+2)),some .non,some (.ref (S.length+3)),some (.bl true)],.dic [],.dic [],.lst []]):=by
 rw[xl,hns];unfold me;rw[ko];have l1:∀o:O,(S++[o]).length=S.length+1:=fun o=>by rw[QH];rfl
 have l2:∀o o':O,(S++[o,o']).length=S.length+2:=fun o o'=>by rw[QH];rfl
 have l3:∀o o' o2:O,(S++[o,o',o2]).length=S.length+3:=fun o o' o2=>by rw[QH];rfl
 rwa[cR,QQ,l1,l2,l3]
def a0(g:Int):Ac:=⟨g,[],[],none,[],true⟩
def dH(K:Kc)(a:Int):Kc:={ K with ids:=K.ids++[a],A:=fun x=>if x=a then a0 K.tk else K.A x,ev:=K.ev++[.tup [.str "begin",.int a]] }
def oU(cK cA:Cl):Fn:=fnU 2 2 (cQ (me cA) cK cA)
theorem wY(hns:cA.ns.length=6)(M:Mm pos c T)(R:Kr cK cA j pos c K p q)(ha:a∉K.ids)(hi:K.ids.length<=9000)(hl:K.ev.length<=9000):Wp (oU cK cA [.ref (p 0),.int a] T) fun r=>r.1=.non/\Nx cK cA j pos c p (dH K a) r.2:=by
 have t0:=M.get (R.pk 0 (by decide)) R.c0;have t5:=M.get (R.pk 5 (by decide)) R.c5;have v:=kx (q:=q) ha;have mk:=wo (cA:=cA) (S:=T) (tk:=K.tk) hns;generalize ho0:O.ins cA [some (.int K.tk),some (.ref (T.length+1)),some (.ref (T.length+2)),some .non,some (.ref (T.length+3)),some (.bl true)]=o0 at mk;have N1:=M.new (.a j a 0) o0 [];have N2:=N1.new (.a j a 1) (.dic []) [];have N3:=N2.new (.a j a 2) (.dic []) [];have N4:=N3.new (.a j a 3) (.lst []) [];have z1:(T++[o0]).length=T.length+1:=by simp
 have z2:(T++[o0]++[O.dic []]).length=T.length+2:=by simp
 have z3:(T++[o0]++[O.dic []]++[O.dic []]).length=T.length+3:=by simp
 rw[z1,z2,z3]at N4;have eT:T++[o0]++[O.dic []]++[O.dic []]++[O.lst []]=T++[o0,.dic [],.dic [],.lst []]:=by simp
 rw[eT]at N4;generalize hpos:dg (dg (dg (dg pos (.a j a 0) T.length) (.a j a 1) (T.length+1)) (.a j a 2) (T.length+2)) (.a j a 3) (T.length+3)=pos4 at N4;generalize hcc:aG (aG (aG (aG c (.a j a 0) o0) (.a j a 1) (.dic [])) (.a j a 2) (.dic [])) (.a j a 3) (.lst [])=c4 at N4;have pk:∀f,pos4 (.k j f)=pos (.k j f):=fun f=>by rw[<-hpos];simp[dg]
 have pb:∀x,x≠a->∀f,pos4 (.a j x f)=pos (.a j x f):=fun x hx f=>by rw[<-hpos];simp[dg,hx]
 have ck:∀f,c4 (.k j f)=c (.k j f):=fun f=>by rw[<-hcc];simp[aG]
 have cb:∀x,x≠a->∀f,c4 (.a j x f)=c (.a j x f):=fun x hx f=>by rw[<-hcc];simp[aG,hx]
 have ne:∀x∈K.ids,x≠a:=fun x hx e=>ha (by rw[<-e];exact hx);have N5:=N4.set (s:=.k j 5) (p:=p 5) (by rw[pk];exact R.pk 5 (by decide)) (.dic (dW (K.ids.map fun a=>((.inl a:Key),U.ref (q a 0))) (.inl a) (.ref T.length)));have N6:=N5.set (s:=.k j 4) (p:=p 4) (by rw[pk];exact R.pk 4 (by decide)) (.lst (K.ev++[.tup [.str "begin",.int a]]));have ep:dW (K.ids.map fun a=>((.inl a:Key),U.ref (q a 0))) (.inl a) (.ref T.length)=K.ids.map (fun a=>((.inl a:Key),U.ref (q a 0)))++[(.inl a,.ref T.length)]:=pK fun h=>by
  rw[Qr]at h;obtain⟨x,hx,e⟩:=Qw.mp h;exact ne x hx (Sum.inl.inj e)
 have s0:=N4.get (s:=.k j 0) (p:=p 0) (by rw[pk];exact R.pk 0 (by decide)) ((ck 0).trans R.c0);have s5:=N4.get (s:=.k j 5) (p:=p 5) (by rw[pk];exact R.pk 5 (by decide)) ((ck 5).trans R.c5);have w0:=N5.get (s:=.k j 0) (p:=p 0) (by rw[pk];exact R.pk 0 (by decide)) (((aD (by simp)).trans (ck 0)).trans R.c0);have w4:=N5.get (s:=.k j 4) (p:=p 4) (by rw[pk];exact R.pk 4 (by decide)) (((aD (by simp)).trans (ck 4)).trans R.c4);have hL:K.ev.length<LIM:=by unfold LIM;omega
 have hK:(K.ids.map fun a=>((.inl a:Key),U.ref (q a 0))).length<LIM:=by unfold LIM;rw[QZ];omega
 refine⟨(.non,_),?_,rfl,pos4,_,fun x f=>if x=a then T.length+f else q x f,N6,⟨fun f hf=>by rw[pk];exact R.pk f hf,?_,?_,?_,?_,?_,?_,fun x hx f hf=>?_,fun x hx=>?_,fun x hx=>?_,fun x hx=>?_,fun x hx=>?_⟩,fun s hs=>?_⟩
 ·unfold oU;rw[kn];rwa[cQ,t0,t5,v,Option.isSome_none,ZQ,if_false,mk,s0,s5,hK,if_true,w0,w4,i6 hL]
 ·rw[aD (by simp),aD (by simp),ck];exact R.c0
 ·rw[aD (by simp),aD (by simp),ck];exact R.c1
 ·rw[aD (by simp),aD (by simp),ck];exact R.c2
 ·rw[aD (by simp),aD (by simp),ck];exact R.c3
 ·rw[bh];rfl
 ·rw[aD (by simp),bh,ep];show _=O.dic ((K.ids++[a]).map _);rw[List.map_append];congr 2
  ·exact Qg fun x hx=>by rw[if_neg (ne x hx)]
  ·simp
 ·rcases Qb.mp hx with hx|hx
  ·rw[pb x (ne x hx),if_neg (ne x hx)];exact R.pa x hx f hf
  ·rw[Qz.mp hx,if_pos rfl,<-hpos];match f,hf with
   |0,_=>simp[dg]
   |1,_=>simp[dg]
   |2,_=>simp[dg]
   |3,_=>simp[dg]
 ·rw[aD (by simp),aD (by simp)];rcases Qb.mp hx with hx|hx
  ·have:=R.a0 x hx;rw[cb x (ne x hx)];simpa [dH,ne x hx] using this
  ·rw[Qz.mp hx,<-hcc];simp[aG,dH,a0,stU,<-ho0]
 ·rw[aD (by simp),aD (by simp)];rcases Qb.mp hx with hx|hx
  ·have:=R.a1 x hx;rw[cb x (ne x hx)];simpa [dH,ne x hx] using this
  ·rw[Qz.mp hx,<-hcc];simp[aG,dH,a0,dT]
 ·rw[aD (by simp),aD (by simp)];rcases Qb.mp hx with hx|hx
  ·have:=R.a2 x hx;rw[cb x (ne x hx)];simpa [dH,ne x hx] using this
  ·rw[Qz.mp hx,<-hcc];simp[aG,dH,a0,dI]
 ·rw[aD (by simp),aD (by simp)];rcases Qb.mp hx with hx|hx
  ·have:=R.a3 x hx;rw[cb x (ne x hx)];simpa [dH,ne x hx] using this
  ·rw[Qz.mp hx,<-hcc];simp[aG,dH,a0]
 ·rw[<-hpos,<-hcc];cases s with
  |k i f=>have:i≠j:=hs;simp[dg,aG,this]
  |a i x f=>have:i≠j:=hs;simp[dg,aG,this]
  |x m i=>simp[dg,aG]
end
theorem pL{κ α:Type}[DecidableEq κ](l:List (κ×α))(k:κ)(v:α):(dW l k v).length<=l.length+1:=by
 unfold dW;split
 ·rw[QZ];omega
 ·simp
def rq(a:Int)(bs:List Int)(ho:List (Int×Int)):List (Int×Int):=bs.foldl (fun h b=>dW h b a) ho
def dw(bs:List Int)(ho:List (Int×Int)):List (Int×Int):=bs.foldl (fun h b=>hR h b) ho
section
variable{cK cA:Cl}{j n:Nat}{pos:Pl->Option Nat}{c:Pl->O}{T:Sto}{K:Kc}{p:Nat->Nat}{q:Int->Nat->Nat}{a b:Int}
def oT(cK cA:Cl):Fn:=fnU 4 2 (dj (gn cK cA) (iK cK cA) (cS cK) (nT cK cA) cK cA)
def tkB(cK cA:Cl):CS:=du (gn cK cA) (iK cK cA) (cS cK) (nT cK cA) cK cA
theorem m7(ha:a∈K.ids){r2:Option U}:∀(bs:List Int) (ho:List (Int×Int)) (c:Pl->O) (T:Sto) (r3:Option U),Mm pos c T->Kr cK cA j pos c { K with ho:=ho } p q->ho.length+bs.length<=90000->
  ∃r3' c' T',ft (fun S=>S[q a 3]?=some (.lst ((K.A a).un.map U.int))) (gNm 3) (tkB cK cA) (bs.map U.int) [some (.ref (p 0)),some (.int a),r2,r3] T=some (.nx,[some (.ref (p 0)),some (.int a),r2,r3'],T')/\Mm pos c' T'/\Kr cK cA j pos c' { K with ho:=rq a bs ho } p q/\Fm j pos c pos c'
 |[],ho,c,T,r3,M,R,_=>⟨r3,c,T,gx (M.get (R.pa a ha 3 (by decide)) (R.a3 a ha)),M,R,Fm.refl⟩
 |b::bs,ho,c,T,r3,M,R,hn=>by
  rw[QJ]at hn;have t0:=M.get (R.pk 0 (by decide)) R.c0;have t3:=M.get (R.pk 3 (by decide)) R.c3;have hL:(dI ho).length<LIM:=by unfold LIM dI;rw[QZ];omega
  have M1:=M.set (R.pk 3 (by decide)) (.dic (dI (dW ho b a)));have R1:=R.ho (dW ho b a);have:=pL ho b a;obtain⟨r3',c',T',e,M2,R2,F2⟩:=m7 ha bs (dW ho b a) _ _ (some (.int b)) M1 R1 (by omega);refine⟨r3',c',T',(gY (M.get (R.pa a ha 3 (by decide)) (R.a3 a ha)) rfl ?_).trans e,M2,R2,(Fm.refl.uk 3).trans F2⟩;rwa[tkB,du,t0,t3,hL,if_true,xJ]
def gb(K:Kc)(a:Int):Str×Kc:=
 if (K.A a).pu=[]then("done",K.end a "done")else
 if (brd K a (K.A a).lk||(brd K a ((K.A a).pu.map (·.1))||CL K a))=true then("falls",K.end a "fall")else
 ("taken",{ K.up a { K.A a with st:=some (K.tk+1),un:=cG ((K.A a).pu.map (·.1)) } with tk:=K.tk+1,ho:=rq a (cG ((K.A a).pu.map (·.1))) K.ho })
theorem wA(M:Mm pos c T)(R:Kr cK cA j pos c K p q)(W:Kw K n)(ha:a∈K.ids)(op:(K.A a).op=true)(st:(K.A a).st=none)(hl:K.ev.length<=9000)(hh:K.ho.length<=80000):Wp (oT cK cA [.ref (p 0),.int a] T) fun r=>r.1=.str (gb K a).1/\Nx cK cA j pos c p (gb K a).2 r.2:=by
 have t0:=M.get (R.pk 0 (by decide)) R.c0;have tr:=M.get (R.pa a ha 0 (by decide)) (R.a0 a ha);have tp:=M.get (R.pa a ha 2 (by decide)) (R.a2 a ha);have u:=kY M R ha op st;have pl:=(W.pu a ha).1;have ln:(dI (K.A a).pu).length=(K.A a).pu.length:=by unfold dI;rw[QZ]
 rw[st]at tr;have h1:∀{d:CS},aX (eR 2 (bt cK (gn cK cA) (ak 0) (ag (ak 1) aH))) d [some (.ref (p 0)),some (.int a),none,none] T=d [some (.ref (p 0)),some (.int a),some (.ref (q a 0)),none] T:=fun{d}=>eG (by rwa[t0,u]);unfold oT gb;rw[lQ];unfold dj;rw[h1];by_cases hp:(K.A a).pu=[]
 ·rw[if_pos hp];obtain⟨⟨u1,T1⟩,e2,rfl,N⟩:=lE (w:="done") M R ha hl;refine⟨(_,_),?_,rfl,N⟩;have z:decide ((((dI (K.A a).pu).length:Nat):Int)=0)=true:=by rw[ln,hp];rfl
  rwa[tr,tp,z,t0,e2]
 ·rw[if_neg hp];have z:decide ((((dI (K.A a).pu).length:Nat):Int)=0)=false:=decide_eq_false (by rw[ln];have:=List.length_pos_iff.mpr hp;omega);rw[eG (ρ':=[some (.ref (p 0)),some (.int a),some (.ref (q a 0)),none]) (S':=T) (by rwa[tr,tp,z])];obtain⟨X1,e1⟩:=oR (a:=a) (xs:=(K.A a).lk) (kf:=fun b=>b) (vf:=fun _=>.bl true) M R (R.pa a ha 1 (by decide)) (R.a1 a ha) (by simp) (by simp) (W.lk a ha).1;rw[List.map_id']at e1;obtain⟨X2,e2⟩:=oR (a:=a) (xs:=(K.A a).pu) (kf:=fun e=>e.1) (vf:=fun e=>.int e.2) (M.app X1) R (R.pa a ha 2 (by decide)) (R.a2 a ha) (by simp) (by simp) (by omega);obtain⟨X3,e3⟩:=yc ((M.app X1).app X2) R W ha;simp only[Qy]at e2 e3;have g0:∀Y,(T++Y)[p 0]?=_:=fun Y=>aY t0;have gr:∀Y,(T++Y)[q a 0]?=_:=fun Y=>aY tr;have tst:∃Y,(cOr (aP (bt cK (cS cK) (ak 0) (ag (ak 1) (ag (bQ cA 1 (ak 2)) aH)))) (cOr (aP (bt cK (cS cK) (ak 0) (ag (ak 1) (ag (bQ cA 2 (ak 2)) aH)))) (aP (bt cK (nT cK cA) (ak 0) (ag (ak 1) aH))))) [some (.ref (p 0)),some (.int a),some (.ref (q a 0)),none] T=some ((brd K a (K.A a).lk||(brd K a ((K.A a).pu.map (·.1))||CL K a)),T++Y):=by
   cases b1:brd K a (K.A a).lk with
   |true=>rw[b1]at e1;exact⟨X1,by rwa[t0,tr,e1,Bool.true_or]⟩
   |false=>
    rw[b1]at e1;cases b2:brd K a ((K.A a).pu.map (·.1))with
    |true=>rw[b2]at e2;exact⟨X1++X2,by rwa[t0,tr,e1,g0,gr,e2,Bool.false_or,Bool.true_or]⟩
    |false=>rw[b2]at e2;exact⟨X1++(X2++X3),by rwa[t0,tr,e1,g0,gr,e2,e3,Bool.false_or]⟩
  obtain⟨Y,et⟩:=tst;have M1:=M.app Y;have s0:=M1.get (R.pk 0 (by decide)) R.c0;cases hb:(brd K a (K.A a).lk||(brd K a ((K.A a).pu.map (·.1))||CL K a))with
  |true=>
   rw[if_pos rfl];rw[hb]at et;obtain⟨⟨u1,T1⟩,e4,rfl,N⟩:=lE (w:="fall") M1 R ha hl;refine⟨(_,_),?_,rfl,N⟩;have ei:∀{c1 c2:CS},fj (cOr (aP (bt cK (cS cK) (ak 0) (ag (ak 1) (ag (bQ cA 1 (ak 2)) aH)))) (cOr (aP (bt cK (cS cK) (ak 0) (ag (ak 1) (ag (bQ cA 2 (ak 2)) aH)))) (aP (bt cK (nT cK cA) (ak 0) (ag (ak 1) aH))))) c1 c2 [some (.ref (p 0)),some (.int a),some (.ref (q a 0)),none] T=c1 [some (.ref (p 0)),some (.int a),some (.ref (q a 0)),none] (T++Y):=fun{c1 c2}=>by rw[jf,et];rfl
   rw[qA,ei];rwa[s0,e4]
  |false=>
   rw[if_neg Q7];rw[hb]at et;rw[eG (ρ':=[some (.ref (p 0)),some (.int a),some (.ref (q a 0)),none]) (S':=T++Y) (by rw[jf,et];rfl)];have M2:=M1.set (R.pk 0 (by decide)) (.ins cK [some (.ref (p 1)),some (.ref (p 2)),some (.ref (p 3)),some (.int (K.tk+1)),some (.ref (p 4)),some (.ref (p 5))]);have R2:=R.tk (K.tk+1);have s1:=M2.get (R2.pk 0 (by decide)) R2.c0;have s2:=M2.get (R2.pa a ha 0 (by decide)) (R2.a0 a ha);have M3:=M2.set (R2.pa a ha 0 (by decide)) (.ins cA [some (.int (K.A a).g),some (.ref (q a 1)),some (.ref (q a 2)),some (stU (some (K.tk+1))),some (.ref (q a 3)),some (.bl (K.A a).op)]);have R3:=R2.ao (a:=a) (K.A a).g (some (K.tk+1)) (K.A a).op;have w2:=M3.get (R3.pa a ha 0 (by decide)) (R3.a0 a ha);have wp:=M3.get (R3.pa a ha 2 (by decide)) (R3.a2 a ha);rw[gS]at w2 wp;generalize hT3:((T++Y).set (p 0) (O.ins cK [some (.ref (p 1)),some (.ref (p 2)),some (.ref (p 3)),some (.int (K.tk+1)),some (.ref (p 4)),some (.ref (p 5))])).set (q a 0) (O.ins cA [some (.int (K.A a).g),some (.ref (q a 1)),some (.ref (q a 2)),some (stU (some (K.tk+1))),some (.ref (q a 3)),some (.bl (K.A a).op)])=T3 at M3 w2 wp;have st':stU (K.A a).st=.non:=by rw[st];rfl
   rw[eG (ρ':=[some (.ref (p 0)),some (.int a),some (.ref (q a 0)),none]) (S':=(T++Y).set (p 0) (O.ins cK [some (.ref (p 1)),some (.ref (p 2)),some (.ref (p 3)),some (.int (K.tk+1)),some (.ref (p 4)),some (.ref (p 5))])) (by rwa[s0])];rw[eG (ρ':=[some (.ref (p 0)),some (.int a),some (.ref (q a 0)),none]) (S':=T3) (by rw[<-hT3];rwa[s1,s2,stU])];have es:jQ [.ref (q a 2)] T3=some (.ref T3.length,T3++[.lst ((cG ((K.A a).pu.map (·.1))).map U.int)]):=by
    have hlt:((K.A a).pu.map (·.1)).length<64:=by rw[QZ];exact pl
    simp only[jQ,wp,tL,Q6,hlt,if_true]
   have M4:=M3.new (.a j a 3) (.lst ((cG ((K.A a).pu.map (·.1))).map U.int)) [];have R4:Kr cK cA j (dg pos (.a j a 3) T3.length) (aG (aG (aG c (.k j 0) (O.ins cK [some (.ref (p 1)),some (.ref (p 2)),some (.ref (p 3)),some (.int (K.tk+1)),some (.ref (p 4)),some (.ref (p 5))])) (.a j a 3) (.lst ((cG ((K.A a).pu.map (·.1))).map U.int))) (.a j a 0) (.ins cA [some (.int (K.A a).g),some (.ref (q a 1)),some (.ref (q a 2)),some (stU (some (K.tk+1))),some (.ref T3.length),some (.bl (K.A a).op)])) { K.up a { K.A a with st:=some (K.tk+1),un:=cG ((K.A a).pu.map (·.1)) } with tk:=K.tk+1 } p (fun x f=>if x=a/\f=3 then T3.length else q x f):=by
    refine⟨fun f hf=>by simpa [dg] using R.pk f hf,by simp[aG,Kc.up],by simpa [aG,Kc.up] using R.c1,by simpa [aG,Kc.up] using R.c2,by simpa [aG,Kc.up] using R.c3,by simpa [aG,Kc.up] using R.c4,by simpa [aG,Kc.up] using R.c5,fun x hx f hf=>?_,fun x hx=>?_,fun x hx=>?_,fun x hx=>?_,fun x hx=>?_⟩
    ·by_cases e:x=a/\f=3
     ·obtain⟨rfl,rfl⟩:=e;simp[dg]
     ·have:=R.pa x hx f hf;rw[dX (fun z=>by cases z;exact e ⟨rfl,rfl⟩),if_neg e];exact this
    ·by_cases e:x=a
     ·subst e;simp[aG,Kc.up]
     ·have:=R.a0 x hx;simpa [aG,Kc.up,e] using this
    ·have:=R.a1 x hx;by_cases e:x=a
     ·subst e;simpa [aG,Kc.up] using this
     ·simpa [aG,Kc.up,e] using this
    ·have:=R.a2 x hx;by_cases e:x=a
     ·subst e;simpa [aG,Kc.up] using this
     ·simpa [aG,Kc.up,e] using this
    ·have:=R.a3 x hx;by_cases e:x=a
     ·subst e;simp[aG,Kc.up]
     ·simpa [aG,Kc.up,e] using this
   have w4:=M4.get (s:=.a j a 0) (p:=q a 0) (by rw[dX (by simp)];exact R.pa a ha 0 (by decide)) ((aD (by simp)).trans bh);have M5:=M4.set (s:=.a j a 0) (p:=q a 0) (by rw[dX (by simp)];exact R.pa a ha 0 (by decide)) (.ins cA [some (.int (K.A a).g),some (.ref (q a 1)),some (.ref (q a 2)),some (stU (some (K.tk+1))),some (.ref T3.length),some (.bl (K.A a).op)]);have ec:aG (aG (aG (aG c (.k j 0) (O.ins cK [some (.ref (p 1)),some (.ref (p 2)),some (.ref (p 3)),some (.int (K.tk+1)),some (.ref (p 4)),some (.ref (p 5))])) (.a j a 0) (.ins cA [some (.int (K.A a).g),some (.ref (q a 1)),some (.ref (q a 2)),some (stU (some (K.tk+1))),some (.ref (q a 3)),some (.bl (K.A a).op)])) (.a j a 3) (.lst ((cG ((K.A a).pu.map (·.1))).map U.int))) (.a j a 0) (.ins cA [some (.int (K.A a).g),some (.ref (q a 1)),some (.ref (q a 2)),some (stU (some (K.tk+1))),some (.ref T3.length),some (.bl (K.A a).op)])=aG (aG (aG c (.k j 0) (O.ins cK [some (.ref (p 1)),some (.ref (p 2)),some (.ref (p 3)),some (.int (K.tk+1)),some (.ref (p 4)),some (.ref (p 5))])) (.a j a 3) (.lst ((cG ((K.A a).pu.map (·.1))).map U.int))) (.a j a 0) (.ins cA [some (.int (K.A a).g),some (.ref (q a 1)),some (.ref (q a 2)),some (stU (some (K.tk+1))),some (.ref T3.length),some (.bl (K.A a).op)]):=by
    funext s;by_cases e:s=.a j a 0
    ·subst e;rw[bh,bh]
    ·rw[aD e,aD e];by_cases e2:s=.a j a 3
     ·subst e2;rw[bh,bh]
     ·rw[aD e2,aD e2,aD e]
   rw[ec]at M5;rw[eG (ρ':=[some (.ref (p 0)),some (.int a),some (.ref (q a 0)),none]) (S':=(T3++[O.lst ((cG ((K.A a).pu.map (·.1))).map U.int)]).set (q a 0) (.ins cA [some (.int (K.A a).g),some (.ref (q a 1)),some (.ref (q a 2)),some (stU (some (K.tk+1))),some (.ref T3.length),some (.bl (K.A a).op)])) (by rwa[w2,es,w4])];generalize hT5:(T3++[O.lst ((cG ((K.A a).pu.map (·.1))).map U.int)]).set (q a 0) (.ins cA [some (.int (K.A a).g),some (.ref (q a 1)),some (.ref (q a 2)),some (stU (some (K.tk+1))),some (.ref T3.length),some (.bl (K.A a).op)])=T5 at M5;obtain⟨r3',c',T',el,M6,R6,F6⟩:=m7 (K:={ K.up a { K.A a with st:=some (K.tk+1),un:=cG ((K.A a).pu.map (·.1)) } with tk:=K.tk+1 }) (a:=a) (r2:=some (.ref (q a 0))) ha (cG ((K.A a).pu.map (·.1))) K.ho _ T5 none M5 R4 (by rw[(iP _).length_eq,QZ];omega);have v0:=M5.get (R4.pa a ha 0 (by decide)) (R4.a0 a ha);have v3:=M5.get (R4.pa a ha 3 (by decide)) (R4.a3 a ha);have eA:({ K.up a { K.A a with st:=some (K.tk+1),un:=cG ((K.A a).pu.map (·.1)) } with tk:=K.tk+1 }:Kc).A a={ K.A a with st:=some (K.tk+1),un:=cG ((K.A a).pu.map (·.1)) }:=if_pos rfl;rw[eA]at v0 v3 el;have q3:(if a=a/\3=3 then T3.length else q a 3)=T3.length:=if_pos ⟨rfl,rfl⟩;have q0:(if a=a/\0=3 then T3.length else q a 0)=q a 0:=if_neg (by simp);have q1:(if a=a/\1=3 then T3.length else q a 1)=q a 1:=if_neg (by simp);have q2:(if a=a/\2=3 then T3.length else q a 2)=q a 2:=if_neg (by simp);dsimp only at v0 v3 el;rw[q3]at v0 v3 el;rw[q0,q1,q2]at v0;have hit:iTp (bQ cA 4 (ak 2)) [some (.ref (p 0)),some (.int a),some (.ref (q a 0)),none] T5=some ((cG ((K.A a).pu.map (·.1))).map U.int,fun S=>S[T3.length]?=some (.lst ((cG ((K.A a).pu.map (·.1))).map U.int)),T5):=Ao (by rwa[v0]) v3;refine⟨(_,T'),?_,rfl,_,_,_,M6,R6,?_⟩
   ·have ef:nK (iTp (bQ cA 4 (ak 2))) (gNm 3) (du (gn cK cA) (iK cK cA) (cS cK) (nT cK cA) cK cA) [some (.ref (p 0)),some (.int a),some (.ref (q a 0)),none] T5=some (.nx,[some (.ref (p 0)),some (.int a),some (.ref (q a 0)),r3'],T'):=by
     unfold nK;rw[hit];exact el
    rw[eG ef];rfl
   ·exact(((((Fm.refl (j:=j) (pos:=pos) (c:=c)).uk 0).ua a 3).ua a 0).pn (s:=.a j a 3) rfl).trans F6
end
theorem mD{T:Sto}{p:Nat}{o:O}(h:T[p]?=some o):T.set p o=T:=by
 refine List.ext_getElem? fun i=>?_;rw[Qd];split
 ·rename_i e;subst e;rw[if_pos (Q4.mp h).1,h]
 ·rfl
section
variable{cK cA:Cl}{j n:Nat}{pos:Pl->Option Nat}{c:Pl->O}{T:Sto}{K:Kc}{p:Nat->Nat}{q:Int->Nat->Nat}{a b:Int}
def l7(cK cA:Cl):Fn:=fnU 5 2 (cL (iZ cK cA) (iK cK cA) cK cA)
def wrB(cK cA:Cl):CS:=ed (iZ cK cA) (iK cK cA) cK cA
theorem yy{l:Nat}{S:Sto}{ho:List (Int×Int)}{v:Int}{co ck:CE}{ρ:Rho}(h1:co ρ S=some (.ref l,S))(h2:ck ρ S=some (.int b,S))(hl:S[l]?=some (.dic (dI ho)))(hv:bB ho b=some v):uz co ck ρ S=some (.int v,S.set l (.dic (dI (hR ho b)))):=by
 unfold uz;rw[h1,Q6];simp only[hl,h2,Q6,Au,jb,jw,hv,Z6,Aw]
def z8:List Int->Option U->Option U
 |[],r=>r
 |b::bs,_=>z8 bs (some (.int b))
theorem nC{k0 k3:Nat}{ok:Sto->Prop}{r1 r2 r3:Option U}{fs:List (Option U)}(hf:fs[2]?=some (some (.ref k3)))(n0:k0≠k3)(hok:∀Y x,ok Y->ok (Y.set k3 x)):∀(bs:List Int) (ho:List (Int×Int)) (Y:Sto) (r4:Option U),ok Y->Y[k0]?=some (.ins cK fs)->Y[k3]?=some (.dic (dI ho))->bs.Nodup->(∀b∈bs,(bB ho b).isSome=true)->
  ft ok (gNm 4) (wrB cK cA) (bs.map U.int) [some (.ref k0),r1,r2,r3,r4] Y=some (.nx,[some (.ref k0),r1,r2,r3,z8 bs r4],Y.set k3 (.dic (dI (dw bs ho))))
 |[],ho,Y,r4,hy,h0,h3,_,_=>by rw[show dw [] ho=ho from rfl,mD h3];exact gx hy
 |b::bs,ho,Y,r4,hy,h0,h3,nd,hv=>by
  obtain⟨v,ev⟩:=Qp.mp (hv b QB);have lt:=(Q4.mp h3).1;obtain⟨nb,nd'⟩:=ZZ.mp nd;have ih:=nC (r1:=r1) (r2:=r2) (r3:=r3) hf n0 hok bs (hR ho b) (Y.set k3 (.dic (dI (hR ho b)))) (some (.int b)) (hok _ _ hy) (by rw[QM n0.symm];exact h0) (by rw[Qd,if_pos rfl,if_pos lt]) nd' (fun d hd=>by rw[o9 (fun e=>nb (by rw[<-e];exact hd))];exact hv d (Q8 _ hd));rw[List.set_set]at ih;refine(gY hy rfl ?_).trans ih;have F:AK cK 2 (.ref k0,Y)=some (.ref k3,Y):=xp h0 hf;have e1:=yy (co:=bQ cK 2 (ak 0)) (ck:=ak 4) (ρ:=[some (.ref k0),r1,r2,r3,some (.int b)]) (S:=Y) (by rwa[F]) rfl h3 ev;show(dY (uz (bQ cK 2 (ak 0)) (ak 4))) [some (.ref k0),r1,r2,r3,some (.int b)] Y=_;rwa[e1]
def dz(K:Kc)(a:Int):Str×Kc:=match (K.A a).un with
 |[]=>("",K)
 |b::r=>
  let K':Kc:={ K.up a { K.A a with un:=r } with bx:=K.bx.set b.toNat ((bB (K.A a).pu b).getD 0),ma:=K.ma.set b.toNat ((K.A a).st.getD 0) }
  if r=[]then("done",Kc.end { K' with ho:=dw ((K.A a).pu.map (·.1)) K.ho } a "done")else("written",K')
theorem uZ{st:Int}{r:List Int}(M:Mm pos c T)(R:Kr cK cA j pos c K p q)(W:Kw K n)(ha:a∈K.ids)(op:(K.A a).op=true)(hst:(K.A a).st=some st)(hun:(K.A a).un=b::r)(b0:0<=b)(b1:b<n)(hb:(bB (K.A a).pu b).isSome=true)(hr:r.length<=900)
  (hh:r=[]->∀d∈(K.A a).pu.map (·.1),(bB K.ho d).isSome=true) (hl:K.ev.length<=9000):Wp (l7 cK cA [.ref (p 0),.int a] T) fun s=>s.1=.str (dz K a).1/\Nx cK cA j pos c p (dz K a).2 s.2:=by
 obtain⟨v,hv⟩:=Qp.mp hb;have t0:=M.get (R.pk 0 (by decide)) R.c0;have tr:=M.get (R.pa a ha 0 (by decide)) (R.a0 a ha);have tu:=M.get (R.pa a ha 3 (by decide)) (R.a3 a ha);have f:=qf M R ha op;rw[hst]at tr;rw[hun,QU]at tu;have M1:=M.set (R.pa a ha 3 (by decide)) (.lst (r.map U.int));have R1:=R.au (a:=a) r;have s0:=M1.get (R1.pk 0 (by decide)) R1.c0;have s1:=M1.get (R1.pk 1 (by decide)) R1.c1;have sr:=M1.get (R1.pa a ha 0 (by decide)) (R1.a0 a ha);have sp:=M1.get (R1.pa a ha 2 (by decide)) (R1.a2 a ha);rw[gS]at sr sp;dsimp only at sr;rw[hst]at sr;have M2:=M1.set (R1.pk 1 (by decide)) (.lst ((K.bx.set b.toNat v).map U.int));have R2:=R1.bx (K.bx.set b.toNat v);have u0:=M2.get (R2.pk 0 (by decide)) R2.c0;have u2:=M2.get (R2.pk 2 (by decide)) R2.c2;have ur:=M2.get (R2.pa a ha 0 (by decide)) (R2.a0 a ha);have e2:({ K.up a { K.A a with un:=r } with bx:=K.bx.set b.toNat v }:Kc).A a={ K.A a with un:=r }:=if_pos rfl;rw[e2]at ur;dsimp only at ur;rw[hst]at ur;have M3:=M2.set (R2.pk 2 (by decide)) (.lst ((K.ma.set b.toNat st).map U.int));have R3:=R2.ma (K.ma.set b.toNat st);have w0:=M3.get (R3.pk 0 (by decide)) R3.c0;have wr:=M3.get (R3.pa a ha 0 (by decide)) (R3.a0 a ha);have wu:=M3.get (R3.pa a ha 3 (by decide)) (R3.a3 a ha);have wq:=M3.get (R3.pa a ha 2 (by decide)) (R3.a2 a ha);have w3:=M3.get (R3.pk 3 (by decide)) R3.c3;have e3:({ K.up a { K.A a with un:=r } with bx:=K.bx.set b.toNat v,ma:=K.ma.set b.toNat st }:Kc).A a={ K.A a with un:=r }:=if_pos rfl;rw[e3]at wr wu wq;dsimp only at wr wu wq w3;have hL1:(U.int b::r.map U.int).length<=LIM:=by unfold LIM;simp;omega
 have er:(U.int b::r.map U.int).eraseIdx (Int.toNat 0)=r.map U.int:=rfl;have i1:=GG (xs:=K.bx) b0 (by rw[W.lb];exact b1);have i2:=GG (xs:=K.ma) b0 (by rw[W.lm];exact b1);have m1:∀(xs:List Int) (v:Int) (i:Nat),(xs.map U.int).set i (.int v)=(xs.set i v).map U.int:=fun xs v i=>by rw[List.map_set]
 have em:dz K a=if r=[]then(("done":Str),Kc.end { ({ K.up a { K.A a with un:=r } with bx:=K.bx.set b.toNat v,ma:=K.ma.set b.toNat st }:Kc)with ho:=dw ((K.A a).pu.map (·.1)) K.ho } a "done")else(("written":Str),({ K.up a { K.A a with un:=r } with bx:=K.bx.set b.toNat v,ma:=K.ma.set b.toNat st }:Kc)):=by
  unfold dz;rw[hun];dsimp only;rw[hv,hst];rfl
 rw[em];unfold l7;rw[kh];unfold cL;rw[eG (ρ':=[some (.ref (p 0)),some (.int a),some (.ref (q a 0)),none,none]) (S':=T) (by rwa[t0,f])];rw[eG (ρ':=[some (.ref (p 0)),some (.int a),some (.ref (q a 0)),none,none]) (S':=T) (by rwa[tr,stU,yw,xU])];rw[eG (ρ':=[some (.ref (p 0)),some (.int a),some (.ref (q a 0)),some (.int b),none]) (S':=T.set (q a 3) (.lst (r.map U.int))) (by rwa[tr,tu,yj,uY (Int.le_refl 0) (by simp) hL1 rfl,er])];rw[eG (ρ':=[some (.ref (p 0)),some (.int a),some (.ref (q a 0)),some (.int b),none]) (S':=(T.set (q a 3) (.lst (r.map U.int))).set (p 1) (.lst ((K.bx.set b.toNat v).map U.int))) (by rwa[sr,sp,jw,hv,Z6,s0,s1,Kc.up,i1,m1])];rw[eG (ρ':=[some (.ref (p 0)),some (.int a),some (.ref (q a 0)),some (.int b),none]) (S':=((T.set (q a 3) (.lst (r.map U.int))).set (p 1) (.lst ((K.bx.set b.toNat v).map U.int))).set (p 2) (.lst ((K.ma.set b.toNat st).map U.int))) (by rwa[ur,u0,u2,stU,Kc.up,i2,m1])];generalize hT3:((T.set (q a 3) (.lst (r.map U.int))).set (p 1) (.lst ((K.bx.set b.toNat v).map U.int))).set (p 2) (.lst ((K.ma.set b.toNat st).map U.int))=T3 at *;by_cases h:r=[]
 ·rw[if_pos h];subst h;have z:decide (0<((0:Nat):Int))=false:=rfl;rw[eG (ρ':=[some (.ref (p 0)),some (.int a),some (.ref (q a 0)),some (.int b),none]) (S':=T3) (by rwa[wr,wu,Qs,List.length_nil,z])];have M4:=M3.set (R3.pk 3 (by decide)) (.dic (dI (dw ((K.A a).pu.map (·.1)) K.ho)));have R4:=R3.ho (dw ((K.A a).pu.map (·.1)) K.ho);have n3:p 0≠p 3:=fun e=>by have:=M3.inj (.k j 0) (.k j 3) (p 0) (R3.pk 0 (by decide)) (by rw[e];exact R3.pk 3 (by decide));simp at this
  have n2:q a 2≠p 3:=fun e=>by have:=M3.inj (.a j a 2) (.k j 3) (q a 2) (R3.pa a ha 2 (by decide)) (by rw[e];exact R3.pk 3 (by decide));simp at this
  have n02:q a 2≠p 0:=fun e=>by have:=M3.inj (.a j a 2) (.k j 0) (q a 2) (R3.pa a ha 2 (by decide)) (by rw[e];exact R3.pk 0 (by decide));simp at this
  have lq:q a 2<T3.length:=(Q4.mp wq).1;have eh:uy (bQ cA 2 (ak 2)) (gNm 4) (ed (iZ cK cA) (iK cK cA) cK cA) [some (.ref (p 0)),some (.int a),some (.ref (q a 0)),some (.int b),none] T3=some (.nx,[some (.ref (p 0)),some (.int a),some (.ref (q a 0)),some (.int b),z8 ((K.A a).pu.map (·.1)) none],T3.set (p 3) (.dic (dI (dw ((K.A a).pu.map (·.1)) K.ho)))):=by
   have hi:bQ cA 2 (ak 2) [some (.ref (p 0)),some (.int a),some (.ref (q a 0)),some (.int b),none] T3=some (.ref (q a 2),T3):=by rwa[wr]
   have ek:((dI (K.A a).pu).map fun e=>kU e.1)=((K.A a).pu.map (·.1)).map U.int:=by unfold dI;rw[Qr,Qr];rfl
   unfold uy;rw[hi,Q6];simp only[wq];refine rZ fun ep=>?_;have key:=nC (cK:=cK) (cA:=cA) (k0:=p 0) (k3:=p 3) (r1:=some (.int a)) (r2:=some (.ref (q a 0))) (r3:=some (.int b)) (ok:=fun S'=>S'[q a 2]?=some (.fdc ep (dI (K.A a).pu))) (fs:=[some (.ref (p 1)),some (.ref (p 2)),some (.ref (p 3)),some (.int K.tk),some (.ref (p 4)),some (.ref (p 5))]) rfl n3 (fun Y x hy=>by rw[QM n2.symm];exact hy) ((K.A a).pu.map (·.1)) K.ho (T3.set (q a 2) (.fdc ep (dI (K.A a).pu))) none (by rw[Qd,if_pos rfl,if_pos lq]) (by rw[QM n02];exact w0) (by rw[QM n2];exact w3) (W.pu a ha).2.1 (hh rfl);rw[ek];show Option.bind (ft _ _ (wrB cK cA) _ _ _) _=_;rw[key,Q6];have e1:((T3.set (q a 2) (.fdc ep (dI (K.A a).pu))).set (p 3) (.dic (dI (dw ((K.A a).pu.map (·.1)) K.ho))))[q a 2]?=some (.fdc ep (dI (K.A a).pu)):=by rw[QM n2.symm,Qd,if_pos rfl,if_pos lq]
   have e2:((T3.set (q a 2) (.fdc ep (dI (K.A a).pu))).set (p 3) (.dic (dI (dw ((K.A a).pu.map (·.1)) K.ho)))).set (q a 2) (.dic (dI (K.A a).pu))=T3.set (p 3) (.dic (dI (dw ((K.A a).pu.map (·.1)) K.ho))):=by
    rw[List.set_comm _ _ n2,List.set_set];exact mD (by rw[QM n2.symm];exact wq)
   simp only[e1,e2]
  rw[eG eh];obtain⟨⟨u1,T4⟩,e4,rfl,pos',c',q',M5,R5,F5⟩:=lE (w:="done") M4 R4 ha hl;have x0:=M4.get (R4.pk 0 (by decide)) R4.c0;refine⟨(_,T4),?_,rfl,pos',c',q',M5,R5,(((((Fm.refl (j:=j) (pos:=pos) (c:=c)).ua a 3).uk 1).uk 2).uk 3).trans F5⟩;rwa[x0,e4]
 ·rw[if_neg h];have z:decide (0<((r.length:Nat):Int))=true:=decide_eq_true (by have:=List.length_pos_iff.mpr h;omega);refine⟨(_,T3),?_,rfl,pos,_,q,M3,R3,((Fm.refl.ua a 3).uk 1).uk 2⟩;rwa[wr,wu,QZ,z]
end
section
variable{cK cA:Cl}{j:Nat}{pos:Pl->Option Nat}{c:Pl->O}{T:Sto}{K:Kc}{p:Nat->Nat}{q:Int->Nat->Nat}{a b:Int}{st:List Int}
def gu(cK:Cl):Fn:=fnU 3 3 (dq cK)
def tY(cK:Cl)(k1 k2 k3:Nat)(tk:Int)(k4 k5:Nat):O:=.ins cK [some (.ref k1),some (.ref k2),some (.ref k3),some (.int tk),some (.ref k4),some (.ref k5)]
def wD(cK:Cl)(N:Nat)(st:List Int):Sto:=[tY cK (N+1) (N+3) (N+4) 0 (N+5) (N+6),.lst (st.map U.int),.lst [.int 0],.lst ((QQ st.length (0:Int)).map U.int),.dic [],.lst [],.dic []]
theorem zY(hns:cK.ns.length=6)(hl:st.length<=900){x:U}:iT cK (gu cK) [x,.tup (st.map U.int)] T=some (.ref T.length,T++wD cK T.length st):=by
 rw[xl,hns];unfold gu;rw[lT];obtain⟨us,hus⟩:∃us,us=st.map U.int:=⟨_,rfl⟩;have lus:us.length=st.length:=by rw[hus,QZ]
 obtain⟨rs,hrs⟩:∃rs,rs=(QQ st.length (0:Int)).map U.int:=⟨_,rfl⟩;unfold wD;rw[<-hus,<-hrs];have mul:∀o1 o2:O,ue (.ref (T.length+2)) (.int us.length) (T++[o1,o2,.lst [.int 0]])=some (.ref (T.length+3),T++[o1,o2,.lst [.int 0],.lst rs]):=fun o1 o2=>by
  have g1:(T++[o1,o2,O.lst [U.int 0]])[T.length+2]?=some (.lst [.int 0]):=by rw[ga];rfl
  have g2:(0:Int)<=us.length/\(us.length:Int)<=100000/\[U.int 0].length*(us.length:Int).toNat<=LIM:=by
   refine⟨by omega,by omega,?_⟩;unfold LIM;rw[List.length_singleton];omega
  simp only[ue,g1];rw[if_pos g2,hrs,List.map_replicate,lus];simp only[Int.toNat_natCast,List.flatten_replicate_singleton,QH,QJ,List.length_nil,Qy,Qa,Qu]
 have l1:∀o:O,(T++[o]).length=T.length+1:=fun o=>by rw[QH];rfl
 have l2:∀o o':O,(T++[o,o']).length=T.length+2:=fun o o'=>by rw[QH];rfl
 have l4:∀o1 o2 o3 o4:O,(T++[o1,o2,o3,o4]).length=T.length+4:=fun o1 o2 o3 o4=>by rw[QH];rfl
 have l5:∀o1 o2 o3 o4 o5:O,(T++[o1,o2,o3,o4,o5]).length=T.length+5:=fun o1 o2 o3 o4 o5=>by rw[QH];rfl
 have l6:∀o1 o2 o3 o4 o5 o6:O,(T++[o1,o2,o3,o4,o5,o6]).length=T.length+6:=fun o1 o2 o3 o4 o5 o6=>by rw[QH];rfl
 rwa[dq,QQ,l1,l2,l4,l5,l6,mul,tY]
def gN(st:List Int):Kc:=⟨st,QQ st.length 0,[],0,[],[],fun _=>a0 0⟩
def lj(N f:Nat):Nat:=if f<2 then N+f else N+f+1
theorem sZ(hns:cK.ns.length=6)(hl:st.length<=900){x:U}(M:Mm pos c T):Wp (iT cK (gu cK) [x,.tup (st.map U.int)] T) fun r=>r.1=.ref T.length/\∃pos' c',Mm pos' c' r.2/\Kr cK cA j pos' c' (gN st) (lj T.length) (fun _ _=>0)/\Fm j pos c pos' c':=by
 refine⟨(_,_),zY hns hl,rfl,?_⟩;have M1:=M.new (.k j 0) (tY cK (T.length+1) (T.length+3) (T.length+4) 0 (T.length+5) (T.length+6)) [];have M2:=M1.new (.k j 1) (.lst (st.map U.int)) [.lst [.int 0]];have M3:=M2.new (.k j 2) (.lst ((QQ st.length (0:Int)).map U.int)) [];have M4:=M3.new (.k j 3) (.dic []) [];have M5:=M4.new (.k j 4) (.lst []) [];have M6:=M5.new (.k j 5) (.dic []) [];have eT:T++[tY cK (T.length+1) (T.length+3) (T.length+4) 0 (T.length+5) (T.length+6)]++[O.lst (st.map U.int),O.lst [.int 0]]++[O.lst ((QQ st.length (0:Int)).map U.int)]++[O.dic []]++[O.lst []]++[O.dic []]=T++wD cK T.length st:=by simp[wD]
 rw[eT]at M6;refine⟨_,_,M6,⟨fun f hf=>?_,?_,?_,?_,?_,?_,?_,fun a h=>(nomatch h),fun a h=>(nomatch h),fun a h=>(nomatch h),fun a h=>(nomatch h),fun a h=>(nomatch h)⟩,fun s hs=>?_⟩
 ·match f,hf with
  |0,_=>simp[dg,lj]
  |1,_=>simp[dg,lj]
  |2,_=>simp[dg,lj]
  |3,_=>simp[dg,lj]
  |4,_=>simp[dg,lj]
  |5,_=>simp[dg,lj]
 ·simp[aG,tY,lj,gN]
 ·simp[aG,gN]
 ·simp[aG,gN]
 ·simp[aG,gN,dI]
 ·simp[aG,gN]
 ·simp[aG,gN]
 ·cases s with
  |k i f=>have:i≠j:=hs;simp[dg,aG,this]
  |a i x f=>simp[dg,aG]
  |x m i=>simp[dg,aG]
def jY(cK:Cl):Fn:=fnU 1 1 (dP cK)
theorem tK(M:Mm pos c T)(R:Kr cK cA j pos c K p q):jY cK [.ref (p 0)] T=some (.ref T.length,T++[.lst K.ev]):=by
 have t0:=M.get (R.pk 0 (by decide)) R.c0;have t4:=M.get (R.pk 4 (by decide)) R.c4;unfold jY;rw[nA];rwa[dP,t0,t4]
def uN(cK:Cl):Fn:=fnU 1 1 (dN cK)
theorem Ab(M:Mm pos c T)(R:Kr cK cA j pos c K p q):uN cK [.ref (p 0)] T=some (.tup (K.bx.map U.int),T):=by
 have t0:=M.get (R.pk 0 (by decide)) R.c0;have t1:=M.get (R.pk 1 (by decide)) R.c1;unfold uN;rw[nz];rwa[dN,t0,t1]
def mf(cK:Cl):Fn:=fnU 1 1 (cP cK)
theorem tP(M:Mm pos c T)(R:Kr cK cA j pos c K p q):mf cK [.ref (p 0)] T=some (.int K.tk,T):=by
 have t0:=M.get (R.pk 0 (by decide)) R.c0;unfold mf;rw[km];rwa[cP,t0]
def l8(cK:Cl):Fn:=fnU 2 2 (dk cK)
theorem wB(M:Mm pos c T)(R:Kr cK cA j pos c K p q)(b0:0<=b)(b1:b<K.ma.length):l8 cK [.ref (p 0),.int b] T=some (.int (K.ma.getD b.toNat 0),T):=by
 have t0:=M.get (R.pk 0 (by decide)) R.c0;have t2:=M.get (R.pk 2 (by decide)) R.c2;have am:=AO b0 b1;unfold l8;rw[lR];rwa[dk,t0,t2,am]
def Am(A:Ac):Int×Int:=match A.st with
 |none=>(A.g,1)
 |some t=>(t,0)
def kR(cA:Cl):Fn:=fnU 1 1 (bw cA)
theorem Ak(M:Mm pos c T)(R:Kr cK cA j pos c K p q)(ha:a∈K.ids):kR cA [.ref (q a 0)] T=some (.tup [.int (Am (K.A a)).1,.int (Am (K.A a)).2],T):=by
 have tr:=M.get (R.pa a ha 0 (by decide)) (R.a0 a ha);unfold kR Am;rw[iU];cases h:(K.A a).st with
 |none=>
  rw[h]at tr;rwa[bw,tr,stU,yw,tZ]
 |some t=>
  rw[h]at tr;rwa[bw,tr,stU,yw,xU]
def fN(K:Kc):List Int:=oi (K.ids.map fun a=>Am (K.A a)) K.ids
def fJ(cK cA:Cl)(z:O):Fn:=fnU 1 1 (cM (kR cA) cK cA z)
theorem mV{z:O}{l:Nat}(M:Mm pos c T)(R:Kr cK cA j pos c K p q)(hz:T[l]?=some z)(h64:K.ids.length<64):fJ cK cA z [.ref (p 0)] T=some (.ref T.length,T++[.lst ((fN K).map U.int)]):=by
 have t0:=M.get (R.pk 0 (by decide)) R.c0;have t5:=M.get (R.pk 5 (by decide)) R.c5;have run:∀ids:List Int,(∀a∈ids,a∈K.ids)->uT (bt cA (kR cA) (cOp fIx (bQ cK 5 (ak 1)) (ak 0)) aH) (.ref (p 0)) ids T=some (ids.map fun a=>Am (K.A a),T):=by
  intro ids;induction ids with
  |nil=>intro _;rfl
  |cons a r ih=>
   intro h;have ha:=h a QB;have v:=iO (q:=q) ha;have tr:=M.get (R.pa a ha 0 (by decide)) (R.a0 a ha);have e:=Ak M R ha;have ec:bt cA (kR cA) (cOp fIx (bQ cK 5 (ak 1)) (ak 0)) aH [some (.int a),some (.ref (p 0))] T=some (.tup [.int (Am (K.A a)).1,.int (Am (K.A a)).2],T):=by rwa[t0,t5,v,tr,e]
   unfold uT;rw[ec,Q6];simp only[ih fun x hx=>h x (Q8 _ hx),Q6,QU]
 have kk:∀ids:List Int,lD (ids.map fun a=>((.inl a:Key),U.ref (q a 0)))=some ids:=by
  intro ids;induction ids with
  |nil=>rfl
  |cons a r ih=>show(lD _).map (a::·)=_;rw[ih];rfl
 have ef:bQ cK 5 (ak 0) [some (.ref (p 0))] T=some (.ref (p 5),T):=by rwa[t0]
 have es:qt z 0 (bQ cK 5 (ak 0)) (bt cA (kR cA) (cOp fIx (bQ cK 5 (ak 1)) (ak 0)) aH) [some (.ref (p 0))] T=some (.ref T.length,T++[.lst ((fN K).map U.int)]):=by
  unfold qt;rw[ef,Q6];simp only[t5,kk,Q6];rw[if_pos ⟨h64,l,hz⟩];simp only[Z8,Option.join_some,Q6,run K.ids fun _ h=>h];rfl
 unfold fJ;rw[ki];unfold cM;rwa[es]
end
theorem qg{l:List Int}{n:Nat}(nd:l.Nodup)(h:∀b∈l,0<=b/\b<n):l.length<=n:=by
 have:=List.Nodup.length_le_of_subset nd (l₂:=(QF n).map fun i:Nat=>(i:Int)) fun b hb=>by
  obtain⟨h0,h1⟩:=h b hb;exact Qw.mpr ⟨b.toNat,Qc.mpr (by omega),by omega⟩
 simpa using this
theorem vq{l:List (Int×Int)}{b:Int}(h:b∈l.map (·.1)):(bB l b).isSome=true:=by
 cases e:bB l b with
 |some v=>rfl
 |none=>exact absurd h (rY.mp e)
theorem qK{l:List (Int×Int)}{b v d:Int}(h:d∈(dW l b v).map (·.1)):d=b\/d∈l.map (·.1):=by
 obtain⟨e,he,rfl⟩:=Qw.mp h;rcases vF he with z|⟨p,hp,z⟩
 ·exact .inl z
 ·exact .inr (Qw.mpr ⟨p,hp,z⟩)
theorem kX(a:Int):∀(bs:List Int) (ho:List (Int×Int)) (d:Int),bB (rq a bs ho) d=if d∈bs then some a else bB ho d
 |[],ho,d=>by simp[rq]
 |b::bs,ho,d=>by
  show bB (rq a bs (dW ho b a)) d=_;rw[kX a bs,yX];by_cases h1:d∈bs
  ·rw[if_pos h1,if_pos (Q8 _ h1)]
  ·rw[if_neg h1];by_cases h2:d=b
   ·rw[if_pos h2,if_pos (by rw[h2];exact QB)]
   ·rw[if_neg h2,if_neg (fun z=>(QC.mp z).elim h2 h1)]
theorem pV(a:Int):∀(bs:List Int) (ho:List (Int×Int)),(rq a bs ho).length<=ho.length+bs.length
 |[],ho=>Q5 _
 |b::bs,ho=>by
  show(rq a bs (dW ho b a)).length<=_;have:=pV a bs (dW ho b a);have:=pL ho b a;rw[QJ];omega
theorem mv:∀(bs:List Int) (ho:List (Int×Int)) (d:Int),d∉bs->bB (dw bs ho) d=bB ho d
 |[],ho,d,_=>rfl
 |b::bs,ho,d,h=>by
  show bB (dw bs (hR ho b)) d=_;rw[mv bs _ d (fun z=>h (Q8 _ z)),o9 (fun z=>h (by rw[z];exact QB))]
theorem mS:∀(bs:List Int) (ho:List (Int×Int)),(dw bs ho).length<=ho.length
 |[],ho=>Q5 _
 |b::bs,ho=>QL (mS bs (hR ho b)) (List.length_filter_le _ _)
structure Tkn(K:Kc)(a:Int):Prop where
 un:(K.A a).un≠[]
 few:(K.A a).un.length<64
 sub:∀b∈(K.A a).un,b∈(K.A a).pu.map (·.1)
 hld:∀d∈(K.A a).pu.map (·.1),bB K.ho d=some a
structure Ki(K:Kc)(n:Nat):Prop where
 lb:K.bx.length=n
 lm:K.ma.length=n
 few:n<64
 ids:K.ids.Nodup
 lkn:∀a∈K.ids,(K.A a).lk.Nodup
 lkb:∀a∈K.ids,∀b:Int,b∈(K.A a).lk->0<=b/\b<n
 pun:∀a∈K.ids,((K.A a).pu.map (·.1)).Nodup
 pub:∀a∈K.ids,∀b:Int,b∈(K.A a).pu.map (·.1)->0<=b/\b<n
 tak:∀a∈K.ids,(K.A a).op=true->(K.A a).st.isSome=true->Tkn K a
 hol:(K.ho.length:Int)<=64*K.tk
theorem CM{K K':Kc}(h1:K.bx=K'.bx)(h2:K.ma=K'.ma)(h3:K.ho=K'.ho)(h4:K.tk=K'.tk)(h5:K.ev=K'.ev)(h6:K.ids=K'.ids)(h7:∀x,K.A x=K'.A x):K=K':=by
 cases K;cases K';dsimp only at *;subst h1 h2 h3 h4 h5 h6;congr 1;exact funext h7
section
variable{K:Kc}{n:Nat}{a b v:Int}
theorem Ki.w(I:Ki K n):Kw K n where
 lb:=I.lb
 lm:=I.lm
 few:=by have:=I.few;omega
 ids:=I.ids
 lk:=fun a ha=>⟨by have:=qg (I.lkn a ha) (I.lkb a ha);have:=I.few;omega,I.lkb a ha⟩
 pu:=fun a ha=>⟨by have:=qg (I.pun a ha) (I.pub a ha);rw[QZ]at this;have:=I.few;omega,I.pun a ha,fun e he=>I.pub a ha e.1 (Qw.mpr ⟨e,he,rfl⟩)⟩
theorem Ki.ev(I:Ki K n)(ev:List U):Ki { K with ev:=ev } n:=⟨I.lb,I.lm,I.few,I.ids,I.lkn,I.lkb,I.pun,I.pub,fun a h1 h2 h3=>let t:=I.tak a h1 h2 h3;⟨t.un,t.few,t.sub,t.hld⟩,I.hol⟩
theorem Ki.up(I:Ki K n)(x:Ac)(h1:x.lk.Nodup)(h2:∀b:Int,b∈x.lk->0<=b/\b<n)(h3:(x.pu.map (·.1)).Nodup)(h4:∀b:Int,b∈x.pu.map (·.1)->0<=b/\b<n)
  (h5:x.op=true->x.st.isSome=true->x.un≠[]/\x.un.length<64/\(∀b∈x.un,b∈x.pu.map (·.1))/\∀d∈x.pu.map (·.1),bB K.ho d=some a):Ki (K.up a x) n:=by
 have at_:∀y,y≠a->(K.up a x).A y=K.A y:=fun y hy=>if_neg hy;refine⟨I.lb,I.lm,I.few,I.ids,fun y hy=>?_,fun y hy=>?_,fun y hy=>?_,fun y hy=>?_,fun y hy o s=>?_,I.hol⟩
 ·by_cases e:y=a
  ·subst e;rw[gS];exact h1
  ·rw[at_ y e];exact I.lkn y hy
 ·by_cases e:y=a
  ·subst e;rw[gS];exact h2
  ·rw[at_ y e];exact I.lkb y hy
 ·by_cases e:y=a
  ·subst e;rw[gS];exact h3
  ·rw[at_ y e];exact I.pun y hy
 ·by_cases e:y=a
  ·subst e;rw[gS];exact h4
  ·rw[at_ y e];exact I.pub y hy
 ·by_cases e:y=a
  ·subst e;rw[gS]at o s;obtain⟨z1,z2,z3,z4⟩:=h5 o s;exact⟨by rw[gS];exact z1,by rw[gS];exact z2,by rw[gS];exact z3,by rw[gS];exact z4⟩
  ·rw[at_ y e]at o s;have t:=I.tak y hy o s;exact⟨by rw[at_ y e];exact t.un,by rw[at_ y e];exact t.few,by rw[at_ y e];exact t.sub,by rw[at_ y e];exact t.hld⟩
theorem Ki.end(I:Ki K n)(ha:a∈K.ids)(w:Str):Ki (K.end a w) n:=(I.up { K.A a with op:=false } (I.lkn a ha) (I.lkb a ha) (I.pun a ha) (I.pub a ha) fun z=>nomatch z).ev _
theorem Ki.begin(I:Ki K n)(ha:a∉K.ids):Ki (dH K a) n:=by
 have ne:∀y∈K.ids,y≠a:=fun y hy e=>ha (by rw[<-e];exact hy);have at_:∀y,y≠a->(dH K a).A y=K.A y:=fun y hy=>if_neg hy;have ata:(dH K a).A a=a0 K.tk:=if_pos rfl;have sp:∀y∈(dH K a).ids,y∈K.ids\/y=a:=fun y hy=>(Qb.mp hy).imp id Qz.mp;refine⟨I.lb,I.lm,I.few,?_,fun y hy=>?_,fun y hy=>?_,fun y hy=>?_,fun y hy=>?_,fun y hy o s=>?_,I.hol⟩
 ·show(K.ids++[a]).Nodup;rw[List.nodup_append];exact⟨I.ids,by simp,fun x hx y hy z=>by rw[Qz.mp hy]at z;exact ne x hx z⟩
 ·rcases sp y hy with h|rfl
  ·rw[at_ y (ne y h)];exact I.lkn y h
  ·rw[ata];exact List.nodup_nil
 ·rcases sp y hy with h|rfl
  ·rw[at_ y (ne y h)];exact I.lkb y h
  ·rw[ata];exact fun b hb=>nomatch hb
 ·rcases sp y hy with h|rfl
  ·rw[at_ y (ne y h)];exact I.pun y h
  ·rw[ata];exact List.nodup_nil
 ·rcases sp y hy with h|rfl
  ·rw[at_ y (ne y h)];exact I.pub y h
  ·rw[ata];exact fun b hb=>nomatch hb
 ·rcases sp y hy with h|rfl
  ·rw[at_ y (ne y h)]at o s;have t:=I.tak y h o s;exact⟨by rw[at_ y (ne y h)];exact t.un,by rw[at_ y (ne y h)];exact t.few,by rw[at_ y (ne y h)];exact t.sub,by rw[at_ y (ne y h)];exact t.hld⟩
  ·rw[ata]at s;cases s
theorem w9{l:List Int}{b:Int}(h:l.Nodup):(rm l b).Nodup:=by
 unfold rm;split
 ·exact h
 ·rename_i hb;rw[List.nodup_append];exact⟨h,by simp,fun x hx y hy z=>by rw[Qz.mp hy]at z;exact hb (by rw[<-z];exact hx)⟩
theorem uJ{l:List Int}{b x:Int}(h:x∈rm l b):x=b\/x∈l:=by
 unfold rm at h;split at h
 ·exact .inr h
 ·rcases Qb.mp h with z|z
  ·exact .inr z
  ·exact .inl (Qz.mp z)
theorem Ki.look(I:Ki K n)(ha:a∈K.ids)(st:(K.A a).st=none)(b0:0<=b)(b1:b<n):Ki (gh K a b).2 n:=by
 unfold gh;split
 ·exact I.ev _
 ·split
  ·exact I.end ha _
  ·refine(I.up { K.A a with g:=if (K.A a).g<K.ma.getD b.toNat 0 then K.tk else(K.A a).g,lk:=rm (K.A a).lk b } (w9 (I.lkn a ha)) (fun x hx=>?_) (I.pun a ha) (I.pub a ha) fun _ s=>?_).ev _
   ·rcases uJ hx with z|z
    ·subst z;exact⟨b0,b1⟩
    ·exact I.lkb a ha x z
   ·have s':(K.A a).st.isSome=true:=s;rw[st]at s';cases s'
theorem Ki.put(I:Ki K n)(ha:a∈K.ids)(st:(K.A a).st=none)(b0:0<=b)(b1:b<n):Ki (FF K a b v) n:=by
 refine(I.up { K.A a with pu:=dW (K.A a).pu b v } (I.lkn a ha) (I.lkb a ha) (zp (I.pun a ha)) (fun x hx=>?_) fun _ s=>?_).ev _
 ·rcases qK hx with z|z
  ·subst z;exact⟨b0,b1⟩
  ·exact I.pub a ha x z
 ·have s':(K.A a).st.isSome=true:=s;rw[st]at s';cases s'
theorem Ki.take(I:Ki K n)(ha:a∈K.ids)(st:(K.A a).st=none):Ki (gb K a).2 n:=by
 unfold gb;split
 ·exact I.end ha _
 ·rename_i hp;split
  ·exact I.end ha _
  ·rename_i hb;have hb2:brd K a ((K.A a).pu.map (·.1))=false:=by
    cases z:brd K a ((K.A a).pu.map (·.1))with
    |false=>rfl
    |true=>rw[z]at hb;simp at hb
   have free:∀d∈(K.A a).pu.map (·.1),(bB K.ho d).getD a=a:=fun d hd=>by
    unfold brd at hb2;have:=List.any_eq_false.mp hb2 d hd;simpa using this
   have pm:=iP ((K.A a).pu.map (·.1));have pl:=(I.w.pu a ha).1;have at_:∀y,y≠a->({ K.up a { K.A a with st:=some (K.tk+1),un:=cG ((K.A a).pu.map (·.1)) } with tk:=K.tk+1,ho:=rq a (cG ((K.A a).pu.map (·.1))) K.ho }:Kc).A y=K.A y:=fun y hy=>if_neg hy;have ata:({ K.up a { K.A a with st:=some (K.tk+1),un:=cG ((K.A a).pu.map (·.1)) } with tk:=K.tk+1,ho:=rq a (cG ((K.A a).pu.map (·.1))) K.ho }:Kc).A a={ K.A a with st:=some (K.tk+1),un:=cG ((K.A a).pu.map (·.1)) }:=if_pos rfl;refine⟨I.lb,I.lm,I.few,I.ids,fun y hy=>?_,fun y hy=>?_,fun y hy=>?_,fun y hy=>?_,fun y hy o s=>?_,?_⟩
   ·by_cases e:y=a
    ·subst e;rw[ata];exact I.lkn y hy
    ·rw[at_ y e];exact I.lkn y hy
   ·by_cases e:y=a
    ·subst e;rw[ata];exact I.lkb y hy
    ·rw[at_ y e];exact I.lkb y hy
   ·by_cases e:y=a
    ·subst e;rw[ata];exact I.pun y hy
    ·rw[at_ y e];exact I.pun y hy
   ·by_cases e:y=a
    ·subst e;rw[ata];exact I.pub y hy
    ·rw[at_ y e];exact I.pub y hy
   ·by_cases e:y=a
    ·subst e;refine⟨?_,?_,?_,fun d hd=>?_⟩
     ·rw[ata];intro z;have z':cG ((K.A y).pu.map (·.1))=[]:=z;rw[z']at pm;have:=pm.length_eq;rw[List.length_nil,QZ]at this;exact hp (List.length_eq_zero_iff.mp this.symm)
     ·rw[ata];show(cG _).length<64;rw[pm.length_eq,QZ];exact pl
     ·rw[ata];exact fun b hb=>pm.mem_iff.mp hb
     ·rw[ata]at hd;show bB (rq y _ K.ho) d=some y;rw[kX,if_pos (pm.mem_iff.mpr hd)]
    ·rw[at_ y e]at o s;have t:=I.tak y hy o s;refine⟨by rw[at_ y e];exact t.un,by rw[at_ y e];exact t.few,by rw[at_ y e];exact t.sub,fun d hd=>?_⟩;rw[at_ y e]at hd;show bB (rq a _ K.ho) d=some y;have hv:=t.hld d hd;rw[kX,if_neg (fun z=>?_)]
     ·exact hv
     ·have:=free d (pm.mem_iff.mp z);rw[hv]at this;exact e this
   ·have l1:=pV a (cG ((K.A a).pu.map (·.1))) K.ho;have l2:=pm.length_eq;rw[QZ]at l2;have:=I.hol;show((rq a _ K.ho).length:Int)<=64*(K.tk+1);omega
theorem Ki.write(I:Ki K n)(ha:a∈K.ids)(op:(K.A a).op=true)(st:(K.A a).st.isSome=true):Ki (dz K a).2 n:=by
 have t:=I.tak a ha op st;unfold dz;cases hu:(K.A a).un with
 |nil=>exact absurd hu t.un
 |cons b r=>
  dsimp only;have J:∀(x y:List Int),x.length=n->y.length=n->Ki { K with bx:=x,ma:=y } n:=fun x y hx hy=>⟨hx,hy,I.few,I.ids,I.lkn,I.lkb,I.pun,I.pub,fun a h1 h2 h3=>let t:=I.tak a h1 h2 h3;⟨t.un,t.few,t.sub,t.hld⟩,I.hol⟩;have J1:=J (K.bx.set b.toNat ((bB (K.A a).pu b).getD 0)) (K.ma.set b.toNat ((K.A a).st.getD 0)) (by rw[Qm];exact I.lb) (by rw[Qm];exact I.lm);by_cases hr:r=[]
  ·rw[if_pos hr];have J2:=J1.up (a:=a) { K.A a with un:=r,op:=false } (I.lkn a ha) (I.lkb a ha) (I.pun a ha) (I.pub a ha) fun z=>nomatch z;have eq:Kc.end { ({ K.up a { K.A a with un:=r } with bx:=K.bx.set b.toNat ((bB (K.A a).pu b).getD 0),ma:=K.ma.set b.toNat ((K.A a).st.getD 0) }:Kc)with ho:=dw ((K.A a).pu.map (·.1)) K.ho } a "done"={ ({ (Kc.up { K with bx:=K.bx.set b.toNat ((bB (K.A a).pu b).getD 0),ma:=K.ma.set b.toNat ((K.A a).st.getD 0) } a { K.A a with un:=r,op:=false })with ho:=dw ((K.A a).pu.map (·.1)) K.ho }:Kc)with ev:=K.ev++[.tup [.str "done",.int a]] }:=by
    refine CM rfl rfl rfl rfl rfl rfl fun x=>?_;by_cases h:x=a<;>simp[Kc.end,Kc.up,h]
   rw[eq];refine Ki.ev (K:={ (Kc.up { K with bx:=K.bx.set b.toNat ((bB (K.A a).pu b).getD 0),ma:=K.ma.set b.toNat ((K.A a).st.getD 0) } a { K.A a with un:=r,op:=false })with ho:=dw ((K.A a).pu.map (·.1)) K.ho }) ⟨J2.lb,J2.lm,J2.few,J2.ids,J2.lkn,J2.lkb,J2.pun,J2.pub,fun y hy o s=>?_,?_⟩ _
   ·have ya:y≠a:=fun e=>by
     subst e;have:(({ (Kc.up { K with bx:=K.bx.set b.toNat ((bB (K.A y).pu b).getD 0),ma:=K.ma.set b.toNat ((K.A y).st.getD 0) } y { K.A y with un:=r,op:=false })with ho:=dw ((K.A y).pu.map (·.1)) K.ho }:Kc).A y)={ K.A y with un:=r,op:=false }:=if_pos rfl;rw[this]at o;cases o
    have at_:({ (Kc.up { K with bx:=K.bx.set b.toNat ((bB (K.A a).pu b).getD 0),ma:=K.ma.set b.toNat ((K.A a).st.getD 0) } a { K.A a with un:=r,op:=false })with ho:=dw ((K.A a).pu.map (·.1)) K.ho }:Kc).A y=K.A y:=if_neg ya;rw[at_]at o s;have t':=I.tak y hy o s;refine⟨by rw[at_];exact t'.un,by rw[at_];exact t'.few,by rw[at_];exact t'.sub,fun d hd=>?_⟩;rw[at_]at hd;have hv:=t'.hld d hd;show bB (dw _ K.ho) d=some y;rw[mv _ _ _ fun z=>?_]
    ·exact hv
    ·have:=t.hld d z;rw[hv]at this;exact ya (Option.some.inj this)
   ·have:=mS ((K.A a).pu.map (·.1)) K.ho;have:=I.hol;show((dw _ K.ho).length:Int)<=64*K.tk;omega
  ·rw[if_neg hr];refine J1.up (a:=a) { K.A a with un:=r } (I.lkn a ha) (I.lkb a ha) (I.pun a ha) (I.pub a ha) fun _ _=>⟨hr,?_,fun x hx=>?_,t.hld⟩
   ·have:=t.few;rw[hu,QJ]at this;show r.length<64;omega
   ·exact t.sub x (by rw[hu];exact Q8 _ hx)
end
inductive Kl where
 |bg (a:Int)|lk (a b:Int)|pt (a b v:Int)|tk (a:Int)|wr (a:Int)
def Kl.u:Kl->U
 |.bg a=>.tup [.str "begin",.int a]
 |.lk a b=>.tup [.str "look",.int a,.int b]
 |.pt a b v=>.tup [.str "put",.int a,.int b,.int v]
 |.tk a=>.tup [.str "take",.int a]
 |.wr a=>.tup [.str "write",.int a]
def Kl.of:Kl->Int
 |.bg a=>a
 |.lk a _=>a
 |.pt a _ _=>a
 |.tk a=>a
 |.wr a=>a
def bD(K:Kc):Kl->U×Kc
 |.bg a=>(.non,dH K a)
 |.lk a b=>gh K a b
 |.pt a b v=>(.non,FF K a b v)
 |.tk a=>(.str (gb K a).1,(gb K a).2)
 |.wr a=>(.str (dz K a).1,(dz K a).2)
def yh(K:Kc)(n:Nat):Kl->Prop
 |.bg a=>a∉K.ids
 |.lk a b=>(a∈K.ids/\(K.A a).op=true/\(K.A a).st=none)/\0<=b/\b<n
 |.pt a b _=>(a∈K.ids/\(K.A a).op=true/\(K.A a).st=none)/\0<=b/\b<n
 |.tk a=>a∈K.ids/\(K.A a).op=true/\(K.A a).st=none
 |.wr a=>a∈K.ids/\(K.A a).op=true/\(K.A a).st.isSome=true
structure Kb(K:Kc)(m:Nat):Prop where
 ev:K.ev.length<=m
 tk:K.tk<=m
 ids:K.ids.length<=m
section
variable{K:Kc}{n m:Nat}{a b v:Int}{k:Kl}
theorem Ki.call(I:Ki K n)(h:yh K n k):Ki (bD K k).2 n:=by
 cases k with
 |bg a=>exact I.begin h
 |lk a b=>exact I.look h.1.1 h.1.2.2 h.2.1 h.2.2
 |pt a b v=>exact I.put h.1.1 h.1.2.2 h.2.1 h.2.2
 |tk a=>exact I.take h.1 h.2.2
 |wr a=>exact I.write h.1 h.2.1 h.2.2
theorem wO{w:Str}(B:Kb K m):Kb (K.end a w) (m+1):=⟨by show(K.ev++[_]).length<=_;have:=B.ev;simp;omega,by show K.tk<=_;have:=B.tk;omega,by show K.ids.length<=_;have:=B.ids;omega⟩
theorem Kb.call(B:Kb K m):Kb (bD K k).2 (m+1):=by
 have h1:=B.ev;have h2:=B.tk;have h3:=B.ids;cases k with
 |bg a=>exact⟨by show(K.ev++[_]).length<=_;simp;omega,by show K.tk<=_;omega,by show(K.ids++[_]).length<=_;simp;omega⟩
 |lk a b=>
  show Kb (gh K a b).2 _;unfold gh;split
  ·exact⟨by show(K.ev++[_]).length<=_;simp;omega,by show K.tk<=_;omega,by show K.ids.length<=_;omega⟩
  ·split
   ·exact wO B
   ·exact⟨by show(K.ev++[_]).length<=_;simp;omega,by show K.tk<=_;omega,by show K.ids.length<=_;omega⟩
 |pt a b v=>exact⟨by show(K.ev++[_]).length<=_;simp;omega,by show K.tk<=_;omega,by show K.ids.length<=_;omega⟩
 |tk a=>
  show Kb (gb K a).2 _;unfold gb;split
  ·exact wO B
  ·split
   ·exact wO B
   ·exact⟨by show K.ev.length<=_;omega,by show K.tk+1<=_;omega,by show K.ids.length<=_;omega⟩
 |wr a=>
  show Kb (dz K a).2 _;unfold dz;split
  ·exact⟨by show K.ev.length<=_;omega,by show K.tk<=_;omega,by show K.ids.length<=_;omega⟩
  ·dsimp only;split
   ·exact wO ⟨h1,h2,h3⟩
   ·exact⟨by show K.ev.length<=_;omega,by show K.tk<=_;omega,by show K.ids.length<=_;omega⟩
def wOf(A:Ac):Str:=if A.op=true then(if A.st=none then "on" else "taken")else "off"
theorem Bz{A:Ac}(h:wOf A="taken"):A.op=true/\A.st.isSome=true:=by
 unfold wOf at h;cases e:A.op with
 |false=>rw[e,if_neg Q7]at h;exact absurd h (by decide)
 |true=>
  rw[e,if_pos rfl]at h;split at h
  ·exact absurd h (by decide)
  ·rename_i z;exact⟨rfl,by cases y:A.st with
    |none=>exact absurd y z
    |some t=>rfl⟩
theorem BA{A:Ac}(h1:wOf A≠"off")(h2:wOf A≠"taken"):A.op=true/\A.st=none:=by
 unfold wOf at h1 h2;cases e:A.op with
 |false=>rw[e,if_neg Q7]at h1;exact absurd rfl h1
 |true=>
  rw[e,if_pos rfl]at h2;split at h2
  ·rename_i z;exact⟨rfl,z⟩
  ·exact absurd rfl h2
end
section
variable{cK cA:Cl}{i j:Nat}{pos pos':Pl->Option Nat}{c c':Pl->O}{T:Sto}{K:Kc}{p:Nat->Nat}{q:Int->Nat->Nat}
def Fx(pos:Pl->Option Nat)(c:Pl->O)(pos':Pl->Option Nat)(c':Pl->O):Prop:=∀s,(∀f i,s≠.x f i)->pos' s=pos s/\c' s=c s
theorem Kr.fx(R:Kr cK cA i pos c K p q)(F:Fx pos c pos' c'):Kr cK cA i pos' c' K p q:=by
 have k:∀f,pos' (.k i f)=pos (.k i f)/\c' (.k i f)=c (.k i f):=fun f=>F (.k i f) fun _ _=>by simp
 have a:∀x f,pos' (.a i x f)=pos (.a i x f)/\c' (.a i x f)=c (.a i x f):=fun x f=>F (.a i x f) fun _ _=>by simp
 exact⟨fun f hf=>by rw[(k f).1];exact R.pk f hf,by rw[(k 0).2];exact R.c0,by rw[(k 1).2];exact R.c1,by rw[(k 2).2];exact R.c2,by rw[(k 3).2];exact R.c3,by rw[(k 4).2];exact R.c4,by rw[(k 5).2];exact R.c5,fun x hx f hf=>by rw[(a x f).1];exact R.pa x hx f hf,fun x hx=>by rw[(a x 0).2];exact R.a0 x hx,fun x hx=>by rw[(a x 1).2];exact R.a1 x hx,fun x hx=>by rw[(a x 2).2];exact R.a2 x hx,fun x hx=>by rw[(a x 3).2];exact R.a3 x hx⟩
def Fx.upd{f i:Nat}{o:O}:Fx pos c pos (aG c (.x f i) o):=fun s hs=>⟨rfl,aD (hs f i)⟩
def Fx.new{f i p:Nat}{o:O}:Fx pos c (dg pos (.x f i) p) (aG c (.x f i) o):=fun s hs=>⟨dX (hs f i),aD (hs f i)⟩
theorem Gn{f i lw:Nat}{z m:Int}(M:Mm pos c T)(hp:pos (.x f i)=some lw)(hc:c (.x f i)=.lst [.int z])(hm:0<m)(hb:m<2^60):∃d z',iY [.ref lw,.int m] T=some (.int d,T.set lw (.lst [.int z']))/\Mm pos (aG c (.x f i) (.lst [.int z'])) (T.set lw (.lst [.int z']))/\0<=d/\d<m:=by
 have h:=M.get hp hc;refine⟨z % m,z / m,?_,M.set hp _,Int.emod_nonneg _ (by omega),Int.emod_lt_of_pos _ hm⟩;unfold iY;rw[q4];have dv:∀(j:Int) (S:Sto),rA (.int j) (.int m) S=some (.int (j / m),S):=fun j S=>yz ⟨hm,l9 (by omega) hb⟩;have md:∀(j:Int) (S:Sto),oF (.int j) (.int m) S=some (.int (j % m),S):=fun j S=>rE hm;rwa[fu,h,dv,md]
end
theorem rj{S:Sto}{ci el:CE}{ct:CT}{caps:List Nat}{ρ:Rho}{ld:Nat}{kus:List (Key×U)}{t:Key×U->Bool}{v:Key×U->U}{r:Rho}(hi:ci ρ S=some (.ref ld,S))(hd:S[ld]?=some (.dic kus))(hr:pF 1 caps ρ=none::r)(hl:kus.length<=900)
  (ht:∀ep ys,∀p∈kus,ct (some (kU p.1)::r) (S.set ld (.fdc ep kus)++[.lst ys])=some (t p,S.set ld (.fdc ep kus)++[.lst ys])) (he:∀p∈kus,∀Y,el (some (kU p.1)::r) Y=some (v p,Y)) :
  iJ ci (gNm 0) ct el 1 caps ρ S=some (.ref S.length,S++[.lst ((kus.filter t).map v)]):=by
 have lk:ld<S.length:=(Q4.mp hd).1;unfold iJ nI;rw[hi,Q6];simp only[hd];refine rZ fun ep=>?_;have ek:∀X:Sto,(S.set ld (.fdc ep kus)++X)[ld]?=some (.fdc ep kus):=fun X=>aY (by rw[Qd,if_pos rfl,if_pos lk]);have key:∀(ks:List (Key×U)) (ys:List U) (r0:Option U),(∀p∈ks,p∈kus)->ys.length+ks.length<=9999->cq (fun S'=>S'[ld]?=some (.fdc ep kus)) (gNm 0) ct el S.length (ks.map fun p=>kU p.1) (r0::r) (S.set ld (.fdc ep kus)++[.lst ys])=some (S.set ld (.fdc ep kus)++[.lst (ys++(ks.filter t).map v)]):=by
  intro ks;induction ks with
  |nil=>intro ys r0 _ _;rw[Qs,List.filter_nil,Qs,List.append_nil];exact rb (ek _)
  |cons p ks ih=>
   intro ys r0 hm hn;rw[QJ]at hn;have h1:=ht ep ys p (hm p QB);rw[QU];cases hp:t p with
   |false=>
    rw[hp]at h1;rw[List.filter_cons_of_neg (by rw[hp];exact Q7)];exact(uu (ρ0:=some (kU p.1)::r) (S0:=S.set ld (.fdc ep kus)++[.lst ys]) (ek _) rfl h1).trans (ih ys _ (fun q hq=>hm q (Q8 _ hq)) (by omega))
   |true=>
    rw[hp]at h1;rw[List.filter_cons_of_pos hp,QU];refine(ra (ρ0:=some (kU p.1)::r) (S0:=S.set ld (.fdc ep kus)++[.lst ys]) (S2:=S.set ld (.fdc ep kus)++[.lst ys]) (x:=v p) (ys:=ys) (ek _) rfl h1 (he p (hm p QB) _) ?_ (by unfold LIM;omega)).trans ?_
    ·have:=ga0 (S:=S.set ld (.fdc ep kus)) (X:=[.lst ys]);rw[Qm]at this;rw[this];rfl
    ·have:=gs0 (S:=S.set ld (.fdc ep kus)) (X:=[.lst ys]) (o:=.lst (ys++[v p]));rw[Qm]at this;rw[this];show cq _ _ _ _ _ _ _ (S.set ld (.fdc ep kus)++[.lst (ys++[v p])])=_;rw[ih (ys++[v p]) _ (fun q hq=>hm q (Q8 _ hq)) (by simp;omega),Qy];rfl
 rw[hr,key kus [] none (fun p h=>h) (by simp;omega),Q6];have e2:(S.set ld (.fdc ep kus)++[O.lst ([]++(kus.filter t).map v)]).set ld (.dic kus)=S++[.lst ((kus.filter t).map v)]:=by
  rw[List.set_append_left _ _ (by rw[Qm];exact lk),pE hd,Qu]
 simp only[ek,e2]
def phU(K:Kc):List (Key×U):=K.ids.map fun x=>(.inl x,.str (wOf (K.A x)))
theorem rX{f:Int->U}{a:Int}:∀{ids:List Int},a∈ids->bB (ids.map fun x=>((.inl x:Key),f x)) (.inl a)=some (f a)
 |x::r,h=>by
  unfold bB;rw[QU,Qx];by_cases e:x=a
  ·subst e;simp
  ·have hd:decide ((.inl x:Key)=.inl a)=false:=decide_eq_false fun z=>e (Sum.inl.inj z);rw[hd];exact rX (ids:=r) ((QC.mp h).resolve_left fun z=>e z.symm)
theorem xH{f:Int->U}{a:Int}{u:U}{ids:List Int}(h:a∈ids):dW (ids.map fun x=>((.inl x:Key),f x)) (.inl a) u=ids.map fun x=>(.inl x,if x=a then u else f x):=by
 have ha:((ids.map fun x=>((.inl x:Key),f x)).any fun kv=>decide (kv.1=.inl a))=true:=List.any_eq_true.mpr ⟨(.inl a,f a),Qw.mpr ⟨a,h,rfl⟩,by simp⟩;unfold dW;rw[if_pos ha,Qr];refine Qg fun x _=>?_;show(if (.inl x:Key)=.inl a then((.inl x:Key),u)else(.inl x,f x))=_;by_cases e:x=a
 ·subst e;simp
 ·rw[if_neg (fun z=>e (Sum.inl.inj z)),if_neg e]
def lF:U->Bool
 |.tup [.str w]=>decide (w="falls")
 |.str w=>decide (w="falls")||decide (w="done")
 |_=>false
def jh:U->Bool
 |.str w=>decide (w="taken")
 |_=>false
inductive AnU:U->Prop where
 |no:AnU .non
 |nu (v:Int):AnU (.tup [.str "number",.int v])
 |fa:AnU (.tup [.str "falls"])
 |wd (w:Str) (h:w∈(["done","falls","taken","written",""]:List Str)):AnU (.str w)
section
variable{K:Kc}{k:Kl}{u:U}{S:Sto}
theorem Di:AnU (bD K k).1:=by
 cases k with
 |bg a=>exact .no
 |lk a b=>
  show AnU (gh K a b).1;unfold gh;split
  ·exact .nu _
  ·split
   ·exact .fa
   ·exact .nu _
 |pt a b v=>exact .no
 |tk a=>
  refine .wd _ ?_;unfold gb;repeat' split
  all_goals (dsimp only;decide)
 |wr a=>
  refine .wd _ ?_;unfold dz;split
  ·dsimp only;decide
  ·dsimp only;split<;>(dsimp only;decide)
theorem jK{w:Str}(h:(PyData.str w).canLay0=true):iL (.tuple [.str w]):=⟨by simp[PyData.canLay0,PyData.canLayAll0]at h ⊢;exact h,by simp[PyData.depth,PyData.depthAll]⟩
theorem lB{w:Str}{v:Int}(h:(PyData.str w).canLay0=true):iL (.tuple [.str w,.int v]):=⟨by simp[PyData.canLay0,PyData.canLayAll0]at h ⊢;exact h,by simp[PyData.depth,PyData.depthAll]⟩
def ow:iL .none:=⟨by simp[PyData.canLay0],by simp[PyData.depth]⟩
def lA{w:Str}(h:(PyData.str w).canLay0=true):iL (.str w):=⟨h,by simp[PyData.depth]⟩
theorem ly{w:Str}(h:w∈(["done","falls","taken","written",""]:List Str)):(PyData.str w).canLay0=true:=by
 have:(["done","falls","taken","written",""]:List Str).all (fun w=>(PyData.str w).canLay0)=true:=by decide +kernel
 exact List.all_eq_true.mp this w h
def lyn:(PyData.str "number").canLay0=true:=by decide +kernel
theorem sk{x y:Str}:PyData.eqv (.str x) (.str y)=decide (x=y):=by
 show(x == y)=_;by_cases e:x=y
 ·subst e;simp
 ·rw[decide_eq_false e];simpa using e
theorem Cw(h:AnU u):∀ρ:Rho,ρ[11]?=some (some u)->(cOr (aP (cOp (hZ false) (ak 11) (gi (ag (cC (.str "falls")) aH)))) (aP (cOp (qY false) (ak 11) (gi (ag (cC (.str "falls")) (ag (cC (.str "done")) aH)))))) ρ S=some (lF u,S):=fun ρ hr=>by
 have e1:∀{d:PyData} {b:Bool},Dt S u d->iL d->b=d.eqv (.tuple [.str "falls"])->hZ false u (.tup [.str "falls"]) S=some (.bl b,S):=fun{d b} h1 h2 h3=>by
  have:=lP (x:=u) (y:=.tup [.str "falls"]) (S:=S) (b:=b) false (.inl ⟨d,.tuple [.str "falls"],h1,.tup (.cons (.str _) .nil),h2,jK (ly (by decide)),h3⟩);simpa using this
 have e2:∀{d:PyData} {b:Bool},Dt S u d->iL d->b=([.str "falls",.str "done"]:List PyData).any (fun z=>z.eqv d)->qY false u (.tup [.str "falls",.str "done"]) S=some (.bl b,S):=fun{d b} h1 h2 h3=>by
  have:=As (x:=u) (y:=.tup [.str "falls",.str "done"]) (S:=S) (b:=b) false ⟨d,[.str "falls",.str "done"],h1,.inr (.tup (.cons (.str _) (.cons (.str _) .nil))),h2,by have h1:=ly (w:="falls") (by decide);have h2:=ly (w:="done") (by decide);simp[PyData.canLayAll0,h1,h2],h3⟩;simpa using this
 have run:∀b1 b2,hZ false u (.tup [.str "falls"]) S=some (.bl b1,S)->qY false u (.tup [.str "falls",.str "done"]) S=some (.bl b2,S)->(cOr (aP (cOp (hZ false) (ak 11) (gi (ag (cC (.str "falls")) aH)))) (aP (cOp (qY false) (ak 11) (gi (ag (cC (.str "falls")) (ag (cC (.str "done")) aH)))))) ρ S=some ((b1||b2),S):=fun b1 b2 h1 h2=>by
  cases b1 with
  |true=>rwa[hr,h1,Bool.true_or]
  |false=>rwa[hr,h1,h2,Bool.false_or]
 cases h with
 |no=>exact run false false (e1 .non ow (by simp[PyData.eqv])) (e2 .non ow (by simp[PyData.eqv]))
 |nu v=>exact run false false (e1 (.tup (.cons (.str _) (.cons (.int _) .nil))) (lB lyn) (by simp[PyData.eqv,PyData.eqvAll])) (e2 (.tup (.cons (.str _) (.cons (.int _) .nil))) (lB lyn) (by simp[PyData.eqv]))
 |fa=>exact run true false (e1 (.tup (.cons (.str _) .nil)) (jK (ly (by decide))) (by simp[PyData.eqv,PyData.eqvAll])) (e2 (.tup (.cons (.str _) .nil)) (jK (ly (by decide))) (by simp[PyData.eqv]))
 |wd w hw=>
  refine run false (lF (.str w)) (e1 (.str _) (lA (ly hw)) (by simp[PyData.eqv])) (e2 (.str _) (lA (ly hw)) ?_);unfold lF;simp only[Z0,List.any_nil,Bool.or_false,sk];congr 1<;>(rw[Z7,decide_eq_true_eq,decide_eq_true_eq];exact eq_comm)
theorem sf(h:AnU u):hZ false u (.str "taken") S=some (.bl (jh u),S):=by
 have e1:∀{d:PyData} {b:Bool},Dt S u d->iL d->b=d.eqv (.str "taken")->hZ false u (.str "taken") S=some (.bl b,S):=fun{d b} h1 h2 h3=>by
  have:=lP (x:=u) (y:=.str "taken") (S:=S) (b:=b) false (.inl ⟨d,.str "taken",h1,.str _,h2,lA (ly (by decide)),h3⟩);simpa using this
 cases h with
 |no=>exact e1 .non ow (by simp[PyData.eqv,jh])
 |nu v=>exact e1 (.tup (.cons (.str _) (.cons (.int _) .nil))) (lB lyn) (by simp[PyData.eqv,jh])
 |fa=>exact e1 (.tup (.cons (.str _) .nil)) (jK (ly (by decide))) (by simp[PyData.eqv,jh])
 |wd w hw=>exact e1 (.str _) (lA (ly hw)) sk.symm
end
section
variable{K:Kc}{n:Nat}{k:Kl}{a:Int}
def phN(K:Kc)(k:Kl):List (Key×U):=if lF (bD K k).1=true then dW (phU K) (.inl k.of) (.str "off")else if jh (bD K k).1=true then dW (phU K) (.inl k.of) (.str "taken")else phU K
theorem Fh(ha:a∉K.ids):phU (dH K a)=phU K++[(.inl a,.str "on")]:=by
 unfold phU;show(K.ids++[a]).map _=_;rw[List.map_append];congr 1
 ·refine Qg fun x hx=>?_;have:(dH K a).A x=K.A x:=if_neg fun e=>ha (by rw[<-e];exact hx);rw[this]
 ·have:(dH K a).A a=a0 K.tk:=if_pos rfl;simp only[QU,Qs,this];rfl
theorem qi{w:Str}(ha:a∈K.ids):phU (K.end a w)=dW (phU K) (.inl a) (.str "off"):=by
 unfold phU;rw[xH (f:=fun x=>.str (wOf (K.A x))) ha];refine Qg fun x _=>?_;by_cases e:x=a
 ·subst e;have:(K.end x w).A x={ K.A x with op:=false }:=if_pos rfl;rw[this,if_pos rfl];rfl
 ·have:(K.end a w).A x=K.A x:=if_neg e;rw[this,if_neg e]
theorem jC{K':Kc}(h:K'.ids=K.ids)(hA:∀x∈K.ids,wOf (K'.A x)=wOf (K.A x)):phU K'=phU K:=by
 unfold phU;rw[h];exact Qg fun x hx=>by rw[hA x hx]
theorem sN(h:yh K n k)(hk:∀a,k≠.bg a):(bD K k).2.ids=K.ids/\phU (bD K k).2=phN K k/\k.of∈K.ids:=by
 have w0:∀{a x:Int} {v:Ac},v.op=(K.A a).op->v.st=(K.A a).st->wOf ((K.up a v).A x)=wOf (K.A x):=fun{a x v} h1 h2=>by
  by_cases e:x=a
  ·subst e;rw[gS];unfold wOf;rw[h1,h2]
  ·rw[show(K.up a v).A x=K.A x from if_neg e]
 cases k with
 |bg a=>exact absurd rfl (hk a)
 |lk a b=>
  obtain⟨⟨ha,_,_⟩,_⟩:=h;unfold phN;show(gh K a b).2.ids=K.ids/\phU (gh K a b).2=(if lF (gh K a b).1=true then _ else if jh (gh K a b).1=true then _ else _)/\a∈K.ids;unfold gh;split
  ·exact⟨rfl,jC rfl fun x _=>rfl,ha⟩
  ·split
   ·exact⟨rfl,qi ha,ha⟩
   ·exact⟨rfl,jC rfl fun x _=>w0 rfl rfl,ha⟩
 |pt a b v=>exact⟨rfl,jC rfl fun x _=>w0 rfl rfl,h.1.1⟩
 |tk a=>
  obtain⟨ha,op,st⟩:=h;unfold phN;show(gb K a).2.ids=K.ids/\phU (gb K a).2=(if lF (.str (gb K a).1)=true then _ else if jh (.str (gb K a).1)=true then _ else _)/\a∈K.ids;unfold gb;split
  ·exact⟨rfl,qi ha,ha⟩
  ·split
   ·exact⟨rfl,qi ha,ha⟩
   ·refine⟨rfl,?_,ha⟩;show _=dW (phU K) (.inl a) (.str "taken");unfold phU;rw[xH (f:=fun x=>.str (wOf (K.A x))) ha];refine Qg fun x _=>?_;by_cases e:x=a
    ·subst e;rw[if_pos rfl];show((.inl x:Key),U.str (wOf ((K.up x { K.A x with st:=some (K.tk+1),un:=cG ((K.A x).pu.map (·.1)) }).A x)))=_;rw[gS];unfold wOf;rw[if_pos op,if_neg (by simp)]
    ·rw[if_neg e];show((.inl x:Key),U.str (wOf ((K.up a { K.A a with st:=some (K.tk+1),un:=cG ((K.A a).pu.map (·.1)) }).A x)))=_;rw[show(K.up a { K.A a with st:=some (K.tk+1),un:=cG ((K.A a).pu.map (·.1)) }).A x=K.A x from if_neg e]
 |wr a=>
  obtain⟨ha,op,st⟩:=h;unfold phN;show(dz K a).2.ids=K.ids/\phU (dz K a).2=(if lF (.str (dz K a).1)=true then _ else if jh (.str (dz K a).1)=true then _ else _)/\a∈K.ids;unfold dz;split
  ·exact⟨rfl,rfl,ha⟩
  ·rename_i b r hu;dsimp only;split
   ·refine⟨rfl,?_,ha⟩;show _=dW (phU K) (.inl a) (.str "off");rw[qi (K:={ ({ K.up a { K.A a with un:=r } with bx:=K.bx.set b.toNat ((bB (K.A a).pu b).getD 0),ma:=K.ma.set b.toNat ((K.A a).st.getD 0) }:Kc)with ho:=dw ((K.A a).pu.map (·.1)) K.ho }) ha];congr 1;exact jC (K:=K) rfl fun x _=>w0 rfl rfl
   ·exact⟨rfl,jC rfl fun x _=>w0 rfl rfl,ha⟩
end
end OQ
namespace OL
open PySem PySem.Spec PyProof.Rows L2 OG OP OQ
section
variable{cK cA:Cl}{j n m:Nat}{pos:Pl->Option Nat}{c:Pl->O}{T:Sto}{K:Kc}{p:Nat->Nat}{q:Int->Nat->Nat}{k:Kl}
def gq(cK cA:Cl):Fn:=fnU 4 2 (br (oU cK cA) (uL cK cA) (uM cK cA) (oT cK cA) (l7 cK cA) cK)
theorem pJ(hns:cA.ns.length=6)(M:Mm pos c T)(R:Kr cK cA j pos c K p q)(I:Ki K n)(B:Kb K m)(hm:m<=1000)(h:yh K n k):Wp (gq cK cA [.ref (p 0),k.u] T) fun r=>r.1=(bD K k).1/\Nx cK cA j pos c p (bD K k).2 r.2:=by
 have t0:=M.get (R.pk 0 (by decide)) R.c0;have b1:=B.ev;have b2:=B.tk;have b3:=B.ids;have b4:=I.hol;have sw:∀(a0:Option U) (x y:U) (r:List U) (T:Sto),Df (DU (ak 1) none (some (cC (.int 2)))) (gTp [2,3]) [a0,some (.tup (x::y::r)),none,none] T=some (.nx,[a0,some (.tup (x::y::r)),some x,some y],T):=fun a0 x y r T=>by
  have e:wV (x::y::r) none (some 2)=[x,y]:=by
   have hs:HT.sIx (x::y::r).length (x::y::r).length (some ((2:Nat):Int))=2:=by rw[HT.sIx_nat,QJ,QJ];omega
   unfold wV;rw[show(2:Int)=((2:Nat):Int)from rfl,hs,HT.sIx_none];rfl
  have e2:DU (ak 1) none (some (cC (.int 2))) [a0,some (.tup (x::y::r)),none,none] T=some (.tup [x,y],T):=by
   show some (U.tup (wV (x::y::r) none (some 2)),T)=_;rw[e]
  rw[Bn,e2];rfl
 have d1:decide (("look":Str)="begin")=false:=by decide +kernel
 have d2:decide (("put":Str)="begin")=false:=by decide +kernel
 have d3:decide (("put":Str)="look")=false:=by decide +kernel
 have d4:decide (("take":Str)="begin")=false:=by decide +kernel
 have d5:decide (("take":Str)="look")=false:=by decide +kernel
 have d6:decide (("take":Str)="put")=false:=by decide +kernel
 have d7:decide (("write":Str)="begin")=false:=by decide +kernel
 have d8:decide (("write":Str)="look")=false:=by decide +kernel
 have d9:decide (("write":Str)="put")=false:=by decide +kernel
 have d0:decide (("write":Str)="take")=false:=by decide +kernel
 unfold gq;cases k with
 |bg a=>
  obtain⟨⟨u,T1⟩,e,rfl,N⟩:=wY hns M R h (by omega) (by omega);refine⟨(_,T1),?_,rfl,N⟩;rw[di];rwa[br,Kl.u,sw,t0,e];rfl
 |lk a b=>
  obtain⟨⟨ha,op,st⟩,b0,b1'⟩:=h;obtain⟨⟨u,T1⟩,e,rfl,N⟩:=zZ M R I.w ha op st b0 b1' (by omega);refine⟨(_,T1),?_,rfl,N⟩;rw[di];rwa[br,Kl.u,sw,t0,e,d1];rfl
 |pt a b v=>
  obtain⟨⟨ha,op,st⟩,b0,b1'⟩:=h;obtain⟨⟨u,T1⟩,e,rfl,N⟩:=Aa (b:=b) (v:=v) M R I.w ha op st (by omega);refine⟨(_,T1),?_,rfl,N⟩;rw[di];rwa[br,Kl.u,sw,t0,e,d2,d3];rfl
 |tk a=>
  obtain⟨ha,op,st⟩:=h;obtain⟨⟨u,T1⟩,e,rfl,N⟩:=wA M R I.w ha op st (by omega) (by omega);refine⟨(_,T1),?_,rfl,N⟩;rw[di];rwa[br,Kl.u,sw,t0,e,d4,d5,d6];rfl
 |wr a=>
  obtain⟨ha,op,st⟩:=h;have t:=I.tak a ha op st;obtain⟨tt,ht⟩:=Qp.mp st;cases hu:(K.A a).un with
  |nil=>exact absurd hu t.un
  |cons b r=>
   have hb:b∈(K.A a).pu.map (·.1):=t.sub b (by rw[hu];exact QB);obtain⟨b0,b1'⟩:=I.pub a ha b hb;have fw:=t.few;rw[hu,QJ]at fw;obtain⟨⟨u,T1⟩,e,rfl,N⟩:=uZ M R I.w ha op ht hu b0 b1' (vq hb) (by omega) (fun _ d hd=>by rw[t.hld d hd];rfl) (by omega);refine⟨(_,T1),?_,rfl,N⟩;rw[di];rwa[br,Kl.u,sw,t0,e,d7,d8,d9,d0];rfl
end
section
variable{cK cA:Cl}{i j n m:Nat}{pos:Pl->Option Nat}{c:Pl->O}{T:Sto}{K:Kc}{p:Nat->Nat}{q:Int->Nat->Nat}{k:Kl}{zO:O}
def xh(cK cA:Cl)(zO:O):Fn:=fnU 2 2 (fz (fJ cK cA zO) (jY cK) (l8 cK) (mf cK) (uN cK) cK)
theorem yf{l:Nat}(M:Mm pos c T)(R:Kr cK cA j pos c K p q)(hz:T[l]?=some zO)(ni:Int)(n0:0<=ni)(hni:ni.toNat=n)(lm:K.ma.length=n)(hn:n<=900)(h64:K.ids.length<64):∃G l1 l2 l3,xh cK cA zO [.ref (p 0),.int ni] T=some (.tup [.tup (K.bx.map U.int),.int K.tk,.ref l1,.ref l2,.ref l3],T++G)/\(T++G)[l1]?=some (.lst ((QF n).map fun i=>.int (K.ma.getD i 0)))/\(T++G)[l2]?=some (.lst K.ev)/\(T++G)[l3]?=some (.lst ((fN K).map U.int)):=by
 have t0:=M.get (R.pk 0 (by decide)) R.c0;have e1:=Ab M R;have e2:=tP M R;have hi:bR (ag (ak 1) aH) [some (.ref (p 0)),some (.int ni)] T=some ((QF n).map fun i:Nat=>U.int (i:Int),fun _=>True,T):=by
  rw[jN (n:=ni) (S1:=T) rfl n0 (by omega),hni,pG]
 obtain⟨⟨u,T1⟩,e3,e3'⟩:=E1 (ci:=bR (ag (ak 1) aH)) (ce:=bt cK (l8 cK) (ak 1) (ag (ak 0) aH)) (caps:=[0]) (ρ:=[some (.ref (p 0)),some (.int ni)]) (cs:=[some (.ref (p 0))]) (S:=T) (S1:=T) (xs:=QF n) (f:=fun i:Nat=>U.int (i:Int)) (v:=fun i=>.int (K.ma.getD i 0)) (ok:=fun _=>True) (Q:=fun r=>r.1=.ref T.length/\∃G,r.2=T++(.lst ((QF n).map fun i=>.int (K.ma.getD i 0))::G)) hi (fun _=>trivial) (by simp;omega) rfl (fun x hx G=>by
  have g0:=aY (r:=G) t0;have em:=wB (b:=(x:Int)) (M.app G) R (by omega) (by have:=Qc.mp hx;omega);rw[Int.toNat_natCast]at em;refine .of (r:=(.int (K.ma.getD x 0),T++G)) ?_ ⟨rfl,[],by simp⟩;rwa[g0,em]) (fun G=>⟨rfl,G,rfl⟩)
 obtain⟨rfl,G1,rfl⟩:=e3';have M1:=M.app (.lst ((QF n).map fun i=>.int (K.ma.getD i 0))::G1);have g1:=M1.get (R.pk 0 (by decide)) R.c0;have e4:=tK M1 R;have M2:=M1.app [.lst K.ev];have g2:=M2.get (R.pk 0 (by decide)) R.c0;have e5:=mV (z:=zO) (l:=l) M2 R (aY (aY hz)) h64;rw[Qy,Qa]at e4 e5 g2;rw[Qy]at e5;simp only[Qa]at e5;refine⟨.lst ((QF n).map fun i=>.int (K.ma.getD i 0))::(G1++[.lst K.ev,.lst ((fN K).map U.int)]),T.length,(T++(O.lst ((QF n).map fun i=>.int (K.ma.getD i 0))::G1)).length,(T++(O.lst ((QF n).map fun i=>.int (K.ma.getD i 0))::(G1++[.lst K.ev]))).length,?_,?_,?_,?_⟩
 ·unfold xh;rw[q5];unfold fz;rwa[t0,e1,e2,e3,g1,e4,g2,e5]
 ·rw[ga0];rfl
 ·have:T++(O.lst ((QF n).map fun i=>.int (K.ma.getD i 0))::(G1++[.lst K.ev,.lst ((fN K).map U.int)]))=(T++(O.lst ((QF n).map fun i=>.int (K.ma.getD i 0))::G1))++[.lst K.ev,.lst ((fN K).map U.int)]:=by simp
  rw[this,ga0];rfl
 ·have:T++(O.lst ((QF n).map fun i=>.int (K.ma.getD i 0))::(G1++[.lst K.ev,.lst ((fN K).map U.int)]))=(T++(O.lst ((QF n).map fun i=>.int (K.ma.getD i 0))::(G1++[.lst K.ev])))++[.lst ((fN K).map U.int)]:=by simp
  rw[this,ga0];rfl
def rng(m:Nat):List Int:=(QF m).map fun i:Nat=>(i:Int)
def qy:Fn:=fnU 7 3 (eQ iY)
def NxC(K:Kc)(n j m:Nat)(pos:Pl->Option Nat)(c:Pl->O)(r:U×Sto):Prop:=
 (r.1=.non/\∃z',Mm pos (aG c (.x 9 0) (.lst [.int z'])) r.2)\/
 ∃k:Kl,r.1=k.u/\yh K n k/\((k=.bg m/\m<6/\∃z',Mm pos (aG (aG c (.x 9 0) (.lst [.int z'])) (.x 6 j) (.dic (phU K++[(.inl m,.str "on")]))) r.2)\/((∀a,k≠.bg a)/\∃z',Mm pos (aG c (.x 9 0) (.lst [.int z'])) r.2))
theorem yY{s:Pl}{o:O}(h:c s=o):aG c s o=c:=by
 funext s';by_cases e:s'=s
 ·subst e;rw[bh,h]
 ·rw[aD e]
theorem ib{s:Pl}{o o':O}:aG (aG c s o) s o'=aG c s o':=by
 funext s';by_cases e:s'=s
 ·subst e;rw[bh,bh]
 ·rw[aD e,aD e,aD e]
structure Dw(K:Kc)(pos:Pl->Option Nat)(c:Pl->O)(j lw lp lg:Nat)(go:List Int)(S:Sto):Prop where
 m:∃z,Mm pos (aG c (.x 9 0) (.lst [.int z])) S
 g:S[lg]?=some (.lst (go.map U.int))
section
variable{lw lp lg:Nat}{go:List Int}{S:Sto}
theorem Dw.app(D:Dw K pos c j lw lp lg go S)(X:Sto):Dw K pos c j lw lp lg go (S++X):=⟨let ⟨z,M⟩:=D.m;⟨z,M.app X⟩,aY D.g⟩
theorem Dw.ph(D:Dw K pos c j lw lp lg go S)(hp:pos (.x 6 j)=some lp)(cp:c (.x 6 j)=.dic (phU K)):S[lp]?=some (.dic (phU K)):=let ⟨z,M⟩:=D.m;M.get hp ((aD (by simp)).trans cp)
theorem Dw.sip{mm:Int}(D:Dw K pos c j lw lp lg go S)(hw:pos (.x 9 0)=some lw)(hg:lg≠lw)(h0:0<mm)(h1:mm<2^60):∃d S',iY [.ref lw,.int mm] S=some (.int d,S')/\Dw K pos c j lw lp lg go S'/\0<=d/\d<mm:=by
 obtain⟨z,M⟩:=D.m;obtain⟨d,z',e,M',d0,d1⟩:=Gn M hw bh h0 h1;rw[ib]at M';exact⟨d,_,e,⟨⟨z',M'⟩,by rw[QM hg.symm];exact D.g⟩,d0,d1⟩
end
theorem zX{lw lp:Nat}{z w:Int}(M:Mm pos c T)(hw:pos (.x 9 0)=some lw)(cw:c (.x 9 0)=.lst [.int z])(hp:pos (.x 6 j)=some lp)(cp:c (.x 6 j)=.dic (phU K))(hids:K.ids=rng m)(hm:m<=6)(ni:Int)(hni:ni.toNat=n)(n0:1<=ni)(n1:ni<=60)(w0:1<=w)(w1:w<2^60) :
  Wp (qy [.ref lw,.tup [.int ni,.int w],.ref lp] T) (NxC K n j m pos c):=by
 have tp:=M.get hp cp;have lph:(phU K).length=m:=by unfold phU;rw[hids];simp[rng]
 obtain⟨go,ego⟩:∃go:List Int,go=K.ids.filter fun x=>!decide (wOf (K.A x)="off"):=⟨_,rfl⟩;have hgo:∀x∈go,x∈K.ids/\wOf (K.A x)≠"off":=fun x hx=>by
  rw[ego]at hx;obtain⟨h1,h2⟩:=List.mem_filter.mp hx;exact⟨h1,by simpa using h2⟩
 have ec:iJ (ak 2) (gNm 0) (aP (cOp fNe (cOp fIx (ak 1) (ak 0)) (cC (.str "off")))) (ak 0) 1 [2] [some (.ref lw),some (.tup [.int ni,.int w]),some (.ref lp),none,none,none,none] T=some (.ref T.length,T++[.lst (go.map U.int)]):=by
  have:=rj (S:=T) (ci:=ak 2) (el:=ak 0) (ct:=aP (cOp fNe (cOp fIx (ak 1) (ak 0)) (cC (.str "off")))) (caps:=[2]) (ρ:=[some (.ref lw),some (.tup [.int ni,.int w]),some (.ref lp),none,none,none,none]) (ld:=lp) (kus:=phU K) (t:=fun e=>match e.2 with|.str x=>!decide (x="off")|_=>false) (v:=fun e=>kU e.1) (r:=[some (.ref lp)]) rfl tp rfl (by omega) (fun ep ys e he=>by
   obtain⟨x,hx,rfl⟩:=Qw.mp he;have lt:=(Q4.mp tp).1;have g:(T.set lp (.fdc ep (phU K))++[O.lst ys])[lp]?=some (.fdc ep (phU K)):=aY (by rw[Qd,if_pos rfl,if_pos lt]);have v:=rX (f:=fun x=>U.str (wOf (K.A x))) hx;have v':bB (phU K) (.inl x)=some (.str (wOf (K.A x))):=v;show aP (cOp fNe (cOp fIx (ak 1) (ak 0)) (cC (.str "off"))) [some (.int x),some (.ref lp)] _=_;rwa[g,v',Ey]) (fun e he Y=>rfl)
  rw[this];have eg:((phU K).filter (fun e=>match e.2 with|.str x=>!decide (x="off")|_=>false)).map (fun e=>kU e.1)=go.map U.int:=by
   unfold phU;rw[List.filter_map,Qr,ego];rfl
  rw[eg]
 have hlw:=M.lt hw;have hlg:T.length≠lw:=Nat.ne_of_gt hlw;have D1:Dw K pos c j lw lp T.length go (T++[.lst (go.map U.int)]):=⟨⟨z,by rw[yY cw];exact M.app _⟩,by rw[ga0];rfl⟩;obtain⟨S1,eS1⟩:∃S1,S1=T++[O.lst (go.map U.int)]:=⟨_,rfl⟩;rw[<-eS1]at D1 ec;have eq0:∀S,Dw K pos c j lw lp T.length go S->hZ false (.ref T.length) (.ref S.length) (S++[.lst []])=some (.bl (decide (go=[])),S++[.lst []]):=fun S D=>by
  have:=wH false (S:=S++[.lst []]) (l:=T.length) (l':=S.length) (ns:=go) (ms:=[]) (aY D.g) (by rw[ga0];rfl);rw[if_neg Q7]at this;exact this
 have hmN:((m:Nat):Int)∉K.ids:=fun h=>by
  rw[hids]at h;obtain⟨i,hi,e⟩:=Qw.mp h;have:=Qc.mp hi;omega
 unfold qy;rw[oK];unfold eQ;rw[eG (ρ':=[some (.ref lw),some (.tup [.int ni,.int w]),some (.ref lp),some (.ref T.length),none,none,none]) (S':=S1) (by rwa[ec])];have tst:∃b S2,(Dh (aP (cOp fLt (cCB nV (ag (ak 2) aH)) (cC (.int 6)))) (cOr (aP (cOp (hZ false) (ak 3) (fQ aH))) (aP (cOp fEq (cCB iY (ag (ak 0) (ag (cC (.int 5)) aH))) (cC (.int 0)))))) [some (.ref lw),some (.tup [.int ni,.int w]),some (.ref lp),some (.ref T.length),none,none,none] S1=some (b,S2)/\Dw K pos c j lw lp T.length go S2/\(b=true->m<6):=by
  have l1:=D1.ph hp cp;by_cases h6:m<6
  ·have z6:decide (((m:Nat):Int)<6)=true:=decide_eq_true (by omega);have q:=eq0 _ D1;by_cases hg:go=[]
   ·rw[decide_eq_true hg]at q;exact⟨true,_,by rwa[l1,lph,z6,q],D1.app [.lst []],fun _=>h6⟩
   ·rw[decide_eq_false hg]at q;obtain⟨d,S',e,D',_,_⟩:=(D1.app [.lst []]).sip (mm:=5) hw hlg (by decide) (by decide);exact⟨decide (d=0),S',by rwa[l1,lph,z6,q,e],D',fun _=>h6⟩
  ·have z6:decide (((m:Nat):Int)<6)=false:=decide_eq_false (by omega);exact⟨false,_,by rwa[l1,lph,z6],D1,fun h=>nomatch h⟩
 obtain⟨b,S2,et,D2,hb⟩:=tst;cases b with
 |true=>
  have ei:∀{c1 c2:CS},fj (Dh (aP (cOp fLt (cCB nV (ag (ak 2) aH)) (cC (.int 6)))) (cOr (aP (cOp (hZ false) (ak 3) (fQ aH))) (aP (cOp fEq (cCB iY (ag (ak 0) (ag (cC (.int 5)) aH))) (cC (.int 0)))))) c1 c2 [some (.ref lw),some (.tup [.int ni,.int w]),some (.ref lp),some (.ref T.length),none,none,none] S1=c1 [some (.ref lw),some (.tup [.int ni,.int w]),some (.ref lp),some (.ref T.length),none,none,none] S2:=fun{c1 c2}=>by rw[jf,et];rfl
  obtain⟨z2,M2⟩:=D2.m;have l2:=D2.ph hp cp;have ep:dW (phU K) (.inl ((m:Nat):Int)) (.str "on")=phU K++[(.inl ((m:Nat):Int),.str "on")]:=pK fun h=>by
   unfold phU at h;rw[Qr]at h;obtain⟨x,hx,e⟩:=Qw.mp h;exact hmN (by rw[<-Sum.inl.inj e];exact hx)
  have M3:=M2.set hp (.dic (phU K++[(.inl ((m:Nat):Int),.str "on")]));have l3:=M3.get hp bh;have hK:m<LIM:=by unfold LIM;omega
  have ll:(phU K++[((.inl ((m:Nat):Int):Key),U.str "on")]).length=m+1:=by rw[QH,lph];rfl
  have em:(((m+1:Nat):Int)-1)=(m:Int):=by omega
  refine⟨((Kl.bg m).u,_),?_,.inr ⟨.bg m,rfl,hmN,.inl ⟨rfl,hb rfl,z2,M3⟩⟩⟩;rw[qA,ei];rwa[l2,lph,hK,if_true,ep,l3,ll,em,Kl.u]
 |false=>
  rw[eG (ρ':=[some (.ref lw),some (.tup [.int ni,.int w]),some (.ref lp),some (.ref T.length),none,none,none]) (S':=S2) (by rw[jf,et];rfl)];have q:=eq0 _ D2;by_cases hg:go=[]
  ·rw[decide_eq_true hg]at q;refine⟨(.non,S2++[.lst []]),?_,.inl ⟨rfl,(D2.app [.lst []]).m⟩⟩;rwa[q]
  ·rw[decide_eq_false hg]at q;rw[eG (ρ':=[some (.ref lw),some (.tup [.int ni,.int w]),some (.ref lp),some (.ref T.length),none,none,none]) (S':=S2++[.lst []]) (by rwa[q])];have D3:=D2.app [.lst []];have gl:=List.length_pos_iff.mpr hg;have gl6:go.length<=6:=by
    rw[ego];refine QL (List.length_filter_le _ _) ?_;rw[hids];simp[rng];exact hm
   obtain⟨d4,S4,e4,D4,d40,d41⟩:=D3.sip (mm:=(go.length:Nat)) hw hlg (by omega) (by omega);have a4:=AO (xs:=go) d40 d41;obtain⟨a,ea⟩:∃a,a=go.getD d4.toNat 0:=⟨_,rfl⟩;rw[<-ea]at a4;have ha:a∈go:=by
    have hi:d4.toNat<go.length:=by omega
    rw[ea,ZV,QV hi];exact List.getElem_mem hi
   obtain⟨hai,hao⟩:=hgo a ha;have g3:=D3.g;have g4:=D4.g;rw[eG (ρ':=[some (.ref lw),some (.tup [.int ni,.int w]),some (.ref lp),some (.ref T.length),some (.int a),none,none]) (S':=S4) (by rwa[g3,QZ,e4,g4,a4])];obtain⟨d5,S5,e5,D5,d50,d51⟩:=D4.sip (mm:=ni) hw hlg (by omega) (by omega);have i0:atI [U.int ni,.int w] 0=some (.int ni):=rfl;have i1:atI [U.int ni,.int w] 1=some (.int w):=rfl;rw[eG (ρ':=[some (.ref lw),some (.tup [.int ni,.int w]),some (.ref lp),some (.ref T.length),some (.int a),some (.int d5),none]) (S':=S5) (by rwa[i0,e5])];have l5:=D5.ph hp cp;have v5:bB (phU K) (.inl a)=some (.str (wOf (K.A a))):=rX (f:=fun x=>U.str (wOf (K.A x))) hai;by_cases ht:wOf (K.A a)="taken"
   ·have zt:decide (wOf (K.A a)="taken")=true:=decide_eq_true ht;refine⟨((Kl.wr a).u,S5),?_,.inr ⟨.wr a,rfl,⟨hai,Bz ht⟩,.inr ⟨(fun _ z=>nomatch z),D5.m⟩⟩⟩;rwa[l5,v5,zt,Kl.u]
   ·have zt:decide (wOf (K.A a)="taken")=false:=decide_eq_false ht;have on:=BA hao ht;rw[eG (ρ':=[some (.ref lw),some (.tup [.int ni,.int w]),some (.ref lp),some (.ref T.length),some (.int a),some (.int d5),none]) (S':=S5) (by rwa[l5,v5,zt])];obtain⟨d6,S6,e6,D6,d60,d61⟩:=D5.sip (mm:=12) hw hlg (by decide) (by decide);rw[eG (ρ':=[some (.ref lw),some (.tup [.int ni,.int w]),some (.ref lp),some (.ref T.length),some (.int a),some (.int d5),some (.int d6)]) (S':=S6) (by rwa[e6])];by_cases h1:d6<6
    ·have z1:decide (d6<6)=true:=decide_eq_true h1;refine⟨((Kl.lk a d5).u,S6),?_,.inr ⟨.lk a d5,rfl,⟨⟨hai,on⟩,d50,by omega⟩,.inr ⟨(fun _ z=>nomatch z),D6.m⟩⟩⟩;rwa[z1,Kl.u]
    ·have z1:decide (d6<6)=false:=decide_eq_false h1;by_cases h2:d6<9
     ·have z2:decide (d6<9)=true:=decide_eq_true h2;obtain⟨d7,S7,e7,D7,d70,d71⟩:=D6.sip (mm:=w) hw hlg (by omega) w1;refine⟨((Kl.pt a d5 d7).u,S7),?_,.inr ⟨.pt a d5 d7,rfl,⟨⟨hai,on⟩,d50,by omega⟩,.inr ⟨(fun _ z=>nomatch z),D7.m⟩⟩⟩;rwa[z1,z2,i1,e7,Kl.u]
     ·have z2:decide (d6<9)=false:=decide_eq_false h2;refine⟨((Kl.tk a).u,S6),?_,.inr ⟨.tk a,rfl,⟨hai,on⟩,.inr ⟨(fun _ z=>nomatch z),D6.m⟩⟩⟩;rwa[z1,z2,Kl.u]
end
end OL
namespace OQ
open PySem PySem.Spec PyProof.Rows L2 OG OP
def jL(K:Kc):List Kl->Kc
 |[]=>K
 |k::r=>jL (bD K k).2 r
def kL(K:Kc):List Kl->List U
 |[]=>[]
 |k::r=>(bD K k).1::kL (bD K k).2 r
def Ds(K:Kc)(n:Nat):List Kl->Prop
 |[]=>True
 |k::r=>yh K n k/\Ds (bD K k).2 n r
section
variable{n:Nat}{k:Kl}{u:U}
theorem mE:∀(ks:List Kl) (K:Kc),jL K (ks++[k])=(bD (jL K ks) k).2
 |[],K=>rfl
 |x::r,K=>mE r _
theorem qx:∀(ks:List Kl) (K:Kc),kL K (ks++[k])=kL K ks++[(bD (jL K ks) k).1]
 |[],K=>rfl
 |x::r,K=>by
  show _::kL _ (r++[k])=_;rw[qx r];rfl
theorem sX:∀(ks:List Kl) (K:Kc),Ds K n ks->yh (jL K ks) n k->Ds K n (ks++[k])
 |[],K,_,h=>⟨h,trivial⟩
 |x::r,K,h,h'=>⟨h.1,sX r _ h.2 h'⟩
theorem uH:∀(ks:List Kl) (K:Kc),(kL K ks).length=ks.length
 |[],K=>rfl
 |x::r,K=>by show(kL _ r).length+1=_;rw[uH r];rfl
theorem uI:∀(ks:List Kl) (K:Kc),∀u∈kL K ks,AnU u
 |[],K,u,h=>nomatch h
 |x::r,K,u,h=>by
  rcases QC.mp h with e|e
  ·rw[e];exact Di
  ·exact uI r _ u e
def evW:List Str:=["begin","look","put","done","fall"]
inductive EvL:U->Prop where
 |two (w:Str) (h:w∈evW) (a:Int):EvL (.tup [.str w,.int a])
 |four (w:Str) (h:w∈evW) (a b v:Int):EvL (.tup [.str w,.int a,.int b,.int v])
theorem xY{w:Str}(h:w∈evW):(PyData.str w).canLay0=true:=by
 have:evW.all (fun w=>(PyData.str w).canLay0)=true:=by decide +kernel
 exact List.all_eq_true.mp this w h
theorem EvL.lay(h:EvL u)(S:Sto):Lay 1 S u:=by
 cases h with
 |two w h a=>exact⟨.tuple [.str w,.int a],.tup (.cons (.str _) (.cons (.int _) .nil)),by have:=xY h;simp[PyData.canLay0,PyData.canLayAll0]at this ⊢;exact this,by simp[PyData.depth,PyData.depthAll]⟩
 |four w h a b v=>exact⟨.tuple [.str w,.int a,.int b,.int v],.tup (.cons (.str _) (.cons (.int _) (.cons (.int _) (.cons (.int _) .nil)))),by have:=xY h;simp[PyData.canLay0,PyData.canLayAll0]at this ⊢;exact this,by simp[PyData.depth,PyData.depthAll]⟩
theorem AnU.lay(h:AnU u)(S:Sto):Lay 1 S u:=by
 cases h with
 |no=>exact⟨.none,.non,by simp[PyData.canLay0],by simp[PyData.depth]⟩
 |nu v=>exact⟨_,.tup (.cons (.str _) (.cons (.int _) .nil)),(lB lyn).1,by simp[PyData.depth,PyData.depthAll]⟩
 |fa=>exact⟨_,.tup (.cons (.str _) .nil),(jK (ly (by decide))).1,by simp[PyData.depth,PyData.depthAll]⟩
 |wd w h=>exact⟨_,.str _,ly h,by simp[PyData.depth]⟩
theorem ja{K:Kc}{e:U}(h:∀x∈K.ev,EvL x)(he:EvL e):∀x∈K.ev++[e],EvL x:=fun x hx=>by
 rcases Qb.mp hx with z|z
 ·exact h x z
 ·rw[Qz.mp z];exact he
theorem Av{K:Kc}(h:∀x∈K.ev,EvL x):∀x∈(bD K k).2.ev,EvL x:=by
 cases k with
 |bg a=>exact ja h (.two _ (by decide) _)
 |lk a b=>
  show ∀x∈(gh K a b).2.ev,EvL x;unfold gh;split
  ·exact ja h (.four _ (by decide) _ _ _)
  ·split
   ·exact ja h (.two _ (by decide) _)
   ·exact ja h (.four _ (by decide) _ _ _)
 |pt a b v=>exact ja h (.four _ (by decide) _ _ _)
 |tk a=>
  show ∀x∈(gb K a).2.ev,EvL x;unfold gb;split
  ·exact ja h (.two _ (by decide) _)
  ·split
   ·exact ja h (.two _ (by decide) _)
   ·exact h
 |wr a=>
  show ∀x∈(dz K a).2.ev,EvL x;unfold dz;split
  ·exact h
  ·dsimp only;split
   ·exact ja (K:=K) h (.two _ (by decide) _)
   ·exact h
theorem ug:∀(ks:List Kl) (K:Kc),(∀x∈K.ev,EvL x)->∀x∈(jL K ks).ev,EvL x
 |[],K,h=>h
 |x::r,K,h=>ug r _ (Av h)
end
theorem Ki.new{st:List Int}{n:Nat}(h:st.length=n)(hn:n<64):Ki (gN st) n:=
 ⟨h,by simp[gN,h],hn,List.nodup_nil,fun _ h=>(nomatch h),fun _ h=>(nomatch h),fun _ h=>(nomatch h),fun _ h=>(nomatch h),fun _ h=>(nomatch h),by simp[gN]⟩
def Kb.new{st:List Int}:Kb (gN st) 0:=⟨Q5 _,by simp[gN],Q5 _⟩
section
variable{pos:Pl->Option Nat}{c:Pl->O}{T:Sto}{l:Nat}{o:O}
theorem Mm.setF(M:Mm pos c T)(h:∀s,pos s≠some l):Mm pos c (T.set l o):=⟨fun s p hp=>by rw[QM (fun e=>h s (by rw[e];exact hp))];exact M.at_ s p hp,M.inj⟩
end
end OQ
namespace OL
open PySem PySem.Spec PyProof.Rows L2 OG OP OQ
section
variable{pos:Pl->Option Nat}{c:Pl->O}{T S:Sto}{lw:Nat}
def Ws(pos:Pl->Option Nat)(c:Pl->O)(S:Sto):Prop:=∃z,Mm pos (aG c (.x 9 0) (.lst [.int z])) S
def Ws.app(W:Ws pos c S)(X:Sto):Ws pos c (S++X):=let ⟨z,M⟩:=W;⟨z,M.app X⟩
theorem Ws.sip{mm:Int}(W:Ws pos c S)(hw:pos (.x 9 0)=some lw)(h0:0<mm)(h1:mm<2^60):∃d S',iY [.ref lw,.int mm] S=some (.int d,S')/\Ws pos c S'/\0<=d/\d<mm/\(∀l,l≠lw->S'[l]?=S[l]?)/\S'.length=S.length:=by
 obtain⟨z,M⟩:=W;obtain⟨d,z',e,M',d0,d1⟩:=Gn M hw bh h0 h1;rw[ib]at M';exact⟨d,_,e,⟨z',M'⟩,d0,d1,fun l h=>QM h.symm,Qm ..⟩
def Ws.lt(W:Ws pos c S)(hw:pos (.x 9 0)=some lw):lw<S.length:=let ⟨z,M⟩:=W;M.lt hw
theorem qk{w:Int}{l:Nat}(hw:pos (.x 9 0)=some lw)(w0:0<w)(w1:w<2^60)(hl:∀s,pos s≠some l):∀(xs:List Nat) (ys:List Int) (r0:Option U) (S:Sto),Ws pos c S->S[l]?=some (.lst (ys.map U.int))->ys.length+xs.length<=900->
  ∃(vs:List Int) (S':Sto),fi (fun _=>True) (gNm 0) (cCB iY (ag (ak 1) (ag (ak 2) aH))) l (xs.map fun i:Nat=>U.int (i:Int)) [r0,some (.ref lw),some (.int w)] S=some S'/\Ws pos c S'/\S'[l]?=some (.lst (vs.map U.int))/\vs.length=ys.length+xs.length
 |[],ys,r0,S,W,h,_=>⟨ys,S,gy trivial,W,h,rfl⟩
 |x::xs,ys,r0,S,W,h,hn=>by
  rw[QJ]at hn;obtain⟨d,S1,e,W1,_,_,k1,l1⟩:=W.sip hw w0 w1;have nl:l≠lw:=fun z=>hl _ (by rw[z];exact hw);have lt:l<S1.length:=by rw[l1];exact(Q4.mp h).1
  have W2:Ws pos c (S1.set l (.lst ((ys++[d]).map U.int))):=let ⟨z,M⟩:=W1;⟨z,M.setF hl⟩
  obtain⟨vs,S',e',W',g',lv⟩:=qk hw w0 w1 hl xs (ys++[d]) (some (.int x)) _ W2 (by rw[Qd,if_pos rfl,if_pos lt]) (by simp;omega);refine⟨vs,S',(eP (ρ0:=[some (.int x),some (.ref lw),some (.int w)]) (S0:=S) (S1:=S1) (x:=.int d) (ys:=ys.map U.int) trivial rfl (by rwa[e]) (by rw[k1 l nl];exact h) (by unfold LIM;rw[QZ];omega)).trans ?_,W',g',by rw[lv];simp;omega⟩;rw[show ys.map U.int++[U.int d]=(ys++[d]).map U.int by simp];exact e'
def gz:Fn:=fnU 3 1 (dJ iY)
theorem mR(W:Ws pos c T)(hw:pos (.x 9 0)=some lw)(hlt:∀s p,pos s=some p->p<T.length):Wp (gz [.ref lw] T) fun r=>∃(ni w:Int) (st:List Int),r.1=.tup [.tup [.int ni,.int w],.tup (st.map U.int)]/\1<=ni/\ni<=6/\1<=w/\w<=1000/\st.length=ni.toNat/\Ws pos c r.2/\T.length<=r.2.length:=by
 have lwT:=W.lt hw;obtain⟨d1,S1,e1,W1,d10,d11,k1,l1⟩:=(W.app [.lst [.int 2,.int 3,.int 6]]).sip (mm:=3) hw (by decide) (by decide);have g1:S1[T.length]?=some (.lst [.int 2,.int 3,.int 6]):=by rw[k1 _ (Nat.ne_of_gt lwT),ga0];rfl
 have a1:∃v:Int,atI [U.int 2,.int 3,.int 6] d1=some (.int v)/\1<=v/\v<=6:=by
  have:d1=0\/d1=1\/d1=2:=by omega
  rcases this with rfl|rfl|rfl
  ·exact⟨2,rfl,by decide,by decide⟩
  ·exact⟨3,rfl,by decide,by decide⟩
  ·exact⟨6,rfl,by decide,by decide⟩
 obtain⟨v1,a1,v10,v11⟩:=a1;obtain⟨d2,S2,e2,W2,d20,d21,k2,l2⟩:=W1.sip (mm:=v1) hw (by omega) (by omega);unfold gz;rw[nv];unfold dJ;rw[eG (ρ':=[some (.ref lw),some (.int (1+d2)),none]) (S':=S2) (by rwa[e1,g1,a1,e2])];obtain⟨d3,S3,e3,W3,d30,d31,k3,l3⟩:=(W2.app [.lst [.int 2,.int 3,.int 7,.int 1000]]).sip (mm:=4) hw (by decide) (by decide);have g3:S3[S2.length]?=some (.lst [.int 2,.int 3,.int 7,.int 1000]):=by rw[k3 _ (Nat.ne_of_gt (W2.lt hw)),ga0];rfl
 have a3:∃v:Int,atI [U.int 2,.int 3,.int 7,.int 1000] d3=some (.int v)/\1<=v/\v<=1000:=by
  have:d3=0\/d3=1\/d3=2\/d3=3:=by omega
  rcases this with rfl|rfl|rfl|rfl
  ·exact⟨2,rfl,by decide,by decide⟩
  ·exact⟨3,rfl,by decide,by decide⟩
  ·exact⟨7,rfl,by decide,by decide⟩
  ·exact⟨1000,rfl,by decide,by decide⟩
 obtain⟨w,a3,w0,w1⟩:=a3;rw[eG (ρ':=[some (.ref lw),some (.int (1+d2)),some (.int w)]) (S':=S3) (by rwa[e3,g3,a3])];obtain⟨ni,eni⟩:∃ni,ni=1+d2:=⟨_,rfl⟩;rw[<-eni];have T3:T.length<=S3.length:=by rw[l3,QH,l2,l1,QH];omega
 have hl3:∀s,pos s≠some S3.length:=fun s z=>by have:=hlt s _ z;omega
 have hi:bR (ag (ak 1) aH) [some (.ref lw),some (.int ni),some (.int w)] S3=some ((QF ni.toNat).map fun i:Nat=>U.int (i:Int),fun _=>True,S3):=by
  rw[jN (n:=ni) (S1:=S3) rfl (by omega) (by omega),pG]
 obtain⟨vs,S4,e4,W4,g4,lv⟩:=qk (w:=w) (l:=S3.length) hw (by omega) (by omega) hl3 (QF ni.toNat) [] none (S3++[.lst []]) (W3.app _) (by rw[ga0];rfl) (by simp;omega);have ec:dZ (bR (ag (ak 1) aH)) (gNm 0) (cCB iY (ag (ak 1) (ag (ak 2) aH))) 1 [0,2] [some (.ref lw),some (.int ni),some (.int w)] S3=some (.ref S3.length,S4):=by
  unfold dZ;rw[hi,Q6];show Option.bind (fi (fun _=>True) (gNm 0) (cCB iY (ag (ak 1) (ag (ak 2) aH))) S3.length _ [none,some (.ref lw),some (.int w)] _) _=_;rw[e4];rfl
 refine⟨(.tup [.tup [.int ni,.int w],.tup (vs.map U.int)],S4),?_,ni,w,vs,rfl,by omega,by omega,w0,w1,by rw[lv];simp,W4,?_⟩
 ·rwa[ec,g4]
 ·have:=(Q4.mp g4).1;dsimp only;omega
end
structure Fx7 where
 l:Nat->Nat
 lp:Nat->Nat
 lc:Nat->Nat
 lt:Nat->Nat
 ni:Nat->Int
 w:Nat->Int
 st:Nat->List Int
 pk:Nat->Nat->Nat
def wU(F:Fx7)(j:Nat):U:=.tup [.tup [.int (F.ni j),.int (F.w j)],.tup ((F.st j).map U.int)]
structure FxO(F:Fx7):Prop where
 n:∀j,j<2->1<=F.ni j/\F.ni j<=6
 w:∀j,j<2->1<=F.w j/\F.w j<=1000
 s:∀j,j<2->(F.st j).length=(F.ni j).toNat
def kAt(F:Fx7)(ks:Nat->List Kl)(j:Nat):Kc:=jL (gN (F.st j)) (ks j)
structure Tx(cK cA:Cl)(zO:O)(F:Fx7)(t:Nat)(pos:Pl->Option Nat)(c:Pl->O)(T:Sto)(ks:Nat->List Kl):Prop where
 M:Mm pos c T
 p0:pos (.x 0 0)=some 0
 c0:c (.x 0 0)=zO
 px:∀f,f=1\/f=2\/f=3\/f=4\/f=5->pos (.x f 0)=some (F.l f)
 c1:c (.x 1 0)=.lst [wU F 0,wU F 1]
 c2:c (.x 2 0)=.lst [.ref (F.pk 0 0),.ref (F.pk 1 0)]
 c3:c (.x 3 0)=.lst [.ref (F.lp 0),.ref (F.lp 1)]
 c4:c (.x 4 0)=.lst [.ref (F.lc 0),.ref (F.lc 1)]
 c5:c (.x 5 0)=.lst [.ref (F.lt 0),.ref (F.lt 1)]
 p6:∀j,j<2->pos (.x 6 j)=some (F.lp j)
 p7:∀j,j<2->pos (.x 7 j)=some (F.lc j)
 p8:∀j,j<2->pos (.x 8 j)=some (F.lt j)
 k:∀j,j<2->∃q,Kr cK cA j pos c (kAt F ks j) (F.pk j) q
 ok:∀j,j<2->Ds (gN (F.st j)) (F.ni j).toNat (ks j)
 i:∀j,j<2->Ki (kAt F ks j) (F.ni j).toNat
 b:∀j,j<2->Kb (kAt F ks j) (ks j).length
 r:∀j,j<2->∃m,m<=6/\(kAt F ks j).ids=rng m
 c6:∀j,j<2->c (.x 6 j)=.dic (phU (kAt F ks j))
 c7:∀j,j<2->c (.x 7 j)=.lst ((ks j).map Kl.u)
 c8:∀j,j<2->c (.x 8 j)=.lst (kL (gN (F.st j)) (ks j))
 n:∀j,j<2->(ks j).length<=t
section
variable{cK cA:Cl}{zO:O}{F:Fx7}{t j m:Nat}{pos pos':Pl->Option Nat}{c c':Pl->O}{T T':Sto}{ks:Nat->List Kl}{k:Kl}
theorem Tx.idle(X:Tx cK cA zO F t pos c T ks)(M:Mm pos' c' T')(h:∀s,s≠.x 9 0->pos' s=pos s/\c' s=c s):Tx cK cA zO F (t+1) pos' c' T' ks:=by
 have hx:∀f i,f≠9->pos' (.x f i)=pos (.x f i)/\c' (.x f i)=c (.x f i):=fun f i hf=>h _ fun e=>hf (by cases e;rfl);have fx:Fx pos c pos' c':=fun s hs=>h s (hs 9 0);exact⟨M,by rw[(hx 0 0 (by decide)).1];exact X.p0,by rw[(hx 0 0 (by decide)).2];exact X.c0,fun f hf=>by rw[(hx f 0 (by omega)).1];exact X.px f hf,by rw[(hx 1 0 (by decide)).2];exact X.c1,by rw[(hx 2 0 (by decide)).2];exact X.c2,by rw[(hx 3 0 (by decide)).2];exact X.c3,by rw[(hx 4 0 (by decide)).2];exact X.c4,by rw[(hx 5 0 (by decide)).2];exact X.c5,
  fun j hj=>by rw[(hx 6 j (by decide)).1];exact X.p6 j hj,fun j hj=>by rw[(hx 7 j (by decide)).1];exact X.p7 j hj,fun j hj=>by rw[(hx 8 j (by decide)).1];exact X.p8 j hj,fun j hj=>let ⟨q,R⟩:=X.k j hj;⟨q,R.fx fx⟩,X.ok,X.i,X.b,X.r,
  fun j hj=>by rw[(hx 6 j (by decide)).2];exact X.c6 j hj,fun j hj=>by rw[(hx 7 j (by decide)).2];exact X.c7 j hj,fun j hj=>by rw[(hx 8 j (by decide)).2];exact X.c8 j hj,fun j hj=>Nat.le_succ_of_le (X.n j hj)⟩
theorem Tx.next(X:Tx cK cA zO F t pos c T ks)(hj:j<2)(M:Mm pos' c' T')(h:∀s,¬own j s->s≠.x 9 0->s≠.x 6 j->s≠.x 7 j->s≠.x 8 j->pos' s=pos s/\c' s=c s)(h6:pos' (.x 6 j)=pos (.x 6 j))(h7:pos' (.x 7 j)=pos (.x 7 j))(h8:pos' (.x 8 j)=pos (.x 8 j))
  (hk:yh (kAt F ks j) (F.ni j).toNat k) (R:∃q,Kr cK cA j pos' c' (bD (kAt F ks j) k).2 (F.pk j) q) (hr:∃m,m<=6/\(bD (kAt F ks j) k).2.ids=rng m)
  (d6:c' (.x 6 j)=.dic (phU (bD (kAt F ks j) k).2)) (d7:c' (.x 7 j)=.lst ((ks j).map Kl.u++[k.u])) (d8:c' (.x 8 j)=.lst (kL (gN (F.st j)) (ks j)++[(bD (kAt F ks j) k).1])) :
  Tx cK cA zO F (t+1) pos' c' T' (fun i=>if i=j then ks j++[k]else ks i):=by
 have hx:∀f,f<6->pos' (.x f 0)=pos (.x f 0)/\c' (.x f 0)=c (.x f 0):=fun f hf=>h _ (fun z=>z) (fun e=>by cases e;omega) (fun e=>by cases e;omega) (fun e=>by cases e;omega) (fun e=>by cases e;omega);have hy:∀f i,i≠j->f≠9->pos' (.x f i)=pos (.x f i)/\c' (.x f i)=c (.x f i):=fun f i hi hf=>h _ (fun z=>z) (fun e=>by cases e;exact hf rfl) (fun e=>by cases e;exact hi rfl) (fun e=>by cases e;exact hi rfl) (fun e=>by cases e;exact hi rfl);have eo:∀i,i≠j->kAt F (fun i=>if i=j then ks j++[k]else ks i) i=kAt F ks i:=fun i hi=>by unfold kAt;dsimp only;rw[if_neg hi]
 have ej:kAt F (fun i=>if i=j then ks j++[k]else ks i) j=(bD (kAt F ks j) k).2:=by unfold kAt;dsimp only;rw[if_pos rfl];exact mE _ _
 refine⟨M,by rw[(hx 0 (by decide)).1];exact X.p0,by rw[(hx 0 (by decide)).2];exact X.c0,fun f hf=>by rw[(hx f (by omega)).1];exact X.px f hf,by rw[(hx 1 (by decide)).2];exact X.c1,by rw[(hx 2 (by decide)).2];exact X.c2,by rw[(hx 3 (by decide)).2];exact X.c3,by rw[(hx 4 (by decide)).2];exact X.c4,by rw[(hx 5 (by decide)).2];exact X.c5,
  fun i hi=>?_,fun i hi=>?_,fun i hi=>?_,fun i hi=>?_,fun i hi=>?_,fun i hi=>?_,fun i hi=>?_,fun i hi=>?_,fun i hi=>?_,fun i hi=>?_,fun i hi=>?_,fun i hi=>?_⟩
 ·by_cases e:i=j
  ·subst e;rw[h6];exact X.p6 i hi
  ·rw[(hy 6 i e (by decide)).1];exact X.p6 i hi
 ·by_cases e:i=j
  ·subst e;rw[h7];exact X.p7 i hi
  ·rw[(hy 7 i e (by decide)).1];exact X.p7 i hi
 ·by_cases e:i=j
  ·subst e;rw[h8];exact X.p8 i hi
  ·rw[(hy 8 i e (by decide)).1];exact X.p8 i hi
 ·by_cases e:i=j
  ·subst e;rw[ej];exact R
  ·rw[eo i e];obtain⟨q,Q⟩:=X.k i hi;have ff:∀s,(∃f,s=.k i f)\/(∃a f,s=.a i a f)->pos' s=pos s/\c' s=c s:=fun s hs=>h s (fun z=>by
    rcases hs with⟨f,rfl⟩|⟨a,f,rfl⟩
    ·exact e z
    ·exact e z) (fun z=>by rcases hs with⟨f,rfl⟩|⟨a,f,rfl⟩<;>cases z) (fun z=>by rcases hs with⟨f,rfl⟩|⟨a,f,rfl⟩<;>cases z) (fun z=>by rcases hs with⟨f,rfl⟩|⟨a,f,rfl⟩<;>cases z) (fun z=>by rcases hs with⟨f,rfl⟩|⟨a,f,rfl⟩<;>cases z)
   have kk:∀f,pos' (.k i f)=pos (.k i f)/\c' (.k i f)=c (.k i f):=fun f=>ff _ (.inl ⟨f,rfl⟩);have aa:∀x f,pos' (.a i x f)=pos (.a i x f)/\c' (.a i x f)=c (.a i x f):=fun x f=>ff _ (.inr ⟨x,f,rfl⟩);exact⟨q,fun f hf=>by rw[(kk f).1];exact Q.pk f hf,by rw[(kk 0).2];exact Q.c0,by rw[(kk 1).2];exact Q.c1,by rw[(kk 2).2];exact Q.c2,by rw[(kk 3).2];exact Q.c3,by rw[(kk 4).2];exact Q.c4,by rw[(kk 5).2];exact Q.c5,fun x hx f hf=>by rw[(aa x f).1];exact Q.pa x hx f hf,fun x hx=>by rw[(aa x 0).2];exact Q.a0 x hx,fun x hx=>by rw[(aa x 1).2];exact Q.a1 x hx,fun x hx=>by rw[(aa x 2).2];exact Q.a2 x hx,fun x hx=>by rw[(aa x 3).2];exact Q.a3 x hx⟩
 ·by_cases e:i=j
  ·subst e;rw[if_pos rfl];exact sX _ _ (X.ok i hi) hk
  ·rw[if_neg e];exact X.ok i hi
 ·by_cases e:i=j
  ·subst e;rw[ej];exact(X.i i hi).call hk
  ·rw[eo i e];exact X.i i hi
 ·by_cases e:i=j
  ·subst e;rw[ej];rw[if_pos rfl,QH];exact(X.b i hi).call
  ·rw[eo i e];rw[if_neg e];exact X.b i hi
 ·by_cases e:i=j
  ·subst e;rw[ej];exact hr
  ·rw[eo i e];exact X.r i hi
 ·by_cases e:i=j
  ·subst e;rw[ej];exact d6
  ·rw[eo i e,(hy 6 i e (by decide)).2];exact X.c6 i hi
 ·by_cases e:i=j
  ·subst e;rw[if_pos rfl,List.map_append];exact d7
  ·rw[if_neg e,(hy 7 i e (by decide)).2];exact X.c7 i hi
 ·by_cases e:i=j
  ·subst e;rw[if_pos rfl,qx];exact d8
  ·rw[if_neg e,(hy 8 i e (by decide)).2];exact X.c8 i hi
 ·by_cases e:i=j
  ·subst e;rw[if_pos rfl,QH];have:=X.n i hi;simp;omega
  ·rw[if_neg e];exact Nat.le_succ_of_le (X.n i hi)
end
abbrev fL(cK cA:Cl)(zO:O)(f:Fn->Fn->Fn->Fn->Fn->Fn->Fn->Fn->Fn->Cl->CS):CS:=f gz kQ iY qy (gq cK cA) (xh cK cA zO) (jY cK) (fJ cK cA zO) (gu cK) cK
abbrev rh(ns:List Int)(F:Fx7)(r6 r7 r8 r9 r10 r11 r12:Option U):Rho:=[some (.kl ns),some (.ref (F.l 1)),some (.ref (F.l 2)),some (.ref (F.l 3)),some (.ref (F.l 4)),some (.ref (F.l 5)),r6,r7,r8,r9,r10,r11,r12]
theorem at2{f:Nat->U}{d:Int}{j:Nat}(hd:d.toNat=j)(d0:0<=d)(hj:j<2):atI [f 0,f 1] d=some (f j):=by
 have:d=0\/d=1:=by omega
 rcases this with rfl|rfl
 ·subst hd;rfl
 ·subst hd;rfl
section
variable{cK cA:Cl}{zO:O}{F:Fx7}{t j m:Nat}{pos pos':Pl->Option Nat}{c c':Pl->O}{T T' S:Sto}{ks:Nat->List Kl}{k:Kl}{ns:List Int}{r6 r8 r9 r10 r11 r12:Option U}{lw:Nat}
theorem mC(hw:pos (.x 9 0)=some lw):∀(xs:List Nat) (r8:Option U) (S:Sto),Ws pos c S->∃r8' S',ft (fun _=>True) (gNm 8) (fL cK cA zO lZ) (xs.map fun i:Nat=>U.int (i:Int)) (rh ns F r6 (some (.ref lw)) r8 r9 r10 r11 r12) S=some (.nx,rh ns F r6 (some (.ref lw)) r8' r9 r10 r11 r12,S')/\Ws pos c S'
 |[],r8,S,W=>⟨r8,S,gx trivial,W⟩
 |x::xs,r8,S,W=>by
  obtain⟨d,S1,e,W1,_⟩:=W.sip (mm:=2) hw (by decide) (by decide);obtain⟨r8',S',e',W'⟩:=mC hw xs (some (.int x)) S1 W1;refine⟨r8',S',(gY trivial rfl ?_).trans e',W'⟩;unfold fL lZ;rwa[rh,e]
theorem w8{d:Int}{u7:Option U}(FO:FxO F)(hns:cA.ns.length=6)(X:Tx cK cA zO F t pos c T ks)(ht:t<=500)(hd:d.toNat=j)(d0:0<=d)(hj:j<2){c1:Pl->OP.O}{pos1:Pl->Option Nat}{S:Sto}(M1:Mm pos1 c1 S)(h1:∀s,s≠.x 9 0->s≠.x 6 j->pos1 s=pos s/\c1 s=c s)(h16:pos1 (.x 6 j)=pos (.x 6 j))(hk:yh (kAt F ks j) (F.ni j).toNat k)
  (hp:((∃a,k=.bg a)/\c1 (.x 6 j)=.dic (phU (bD (kAt F ks j) k).2))\/((∀a,k≠.bg a)/\c1 (.x 6 j)=.dic (phU (kAt F ks j)))) (hr:∃m,m<=6/\(bD (kAt F ks j) k).2.ids=rng m) :
  ∃r11' pos' c' T' ,(aX (eR 11 (cCB (gq cK cA) (ag (cOp fIx (ak 2) (ak 9)) (ag (ak 10) aH))))
  (aX (dY (cBM bZ (cOp fIx (ak 4) (ak 9)) (ag (ak 10) aH)))
  (aX (dY (cBM bZ (cOp fIx (ak 5) (ak 9)) (ag (ak 11) aH)))
  (aX (fj (cOr (aP (cOp (hZ false) (ak 11) (gi (ag (cC (.str "falls")) aH)))) (aP (cOp (qY false) (ak 11) (gi (ag (cC (.str "falls")) (ag (cC (.str "done")) aH)))))) (dr (cOp fIx (ak 3) (ak 9)) (cOp fIx (ak 10) (cC (.int 1))) (cC (.str "off"))) bX)
  (aX (fj (aP (cOp (hZ false) (ak 11) (cC (.str "taken")))) (dr (cOp fIx (ak 3) (ak 9)) (cOp fIx (ak 10) (cC (.int 1))) (cC (.str "taken"))) bX)
  (aX (dY (cBM bZ (bt cK (jY cK) (cOp fIx (ak 2) (ak 9)) aH) (ag (gi (ag (cC (.str "fall")) (ag (cC (.int 0)) aH))) aH)))
  (dY (cBM jc (bt cK (fJ cK cA zO) (cOp fIx (ak 2) (ak 9)) aH) aH)))))))) (rh ns F r6 u7 r8 (some (.int d)) (some k.u) r11 r12) S=some (.nx,rh ns F r6 u7 r8 (some (.int d)) (some k.u) r11' r12,T')/\Tx cK cA zO F (t+1) pos' c' T' (fun i=>if i=j then ks j++[k]else ks i):=by
 obtain⟨q,R⟩:=X.k j hj;have I:=X.i j hj;have B:=X.b j hj;have nj:=X.n j hj;have hx:∀f,f<6->pos1 (.x f 0)=pos (.x f 0)/\c1 (.x f 0)=c (.x f 0):=fun f hf=>h1 _ (fun e=>by cases e;omega) (fun e=>by cases e;omega);have h17:pos1 (.x 7 j)=pos (.x 7 j)/\c1 (.x 7 j)=c (.x 7 j):=h1 _ (by simp) (by simp);have h18:pos1 (.x 8 j)=pos (.x 8 j)/\c1 (.x 8 j)=c (.x 8 j):=h1 _ (by simp) (by simp);have R1:Kr cK cA j pos1 c1 (kAt F ks j) (F.pk j) q:=R.fx fun s hs=>h1 s (hs 9 0) (hs 6 j);obtain⟨⟨u,S2⟩,e2,eu,pos2,c2,q2,M2,R2,F2⟩:=pJ hns M1 R1 I B (by omega) hk;dsimp only at eu e2 M2;have fx2:∀f i,pos2 (.x f i)=pos1 (.x f i)/\c2 (.x f i)=c1 (.x f i):=fun f i=>F2 _ fun z=>z;have An:AnU u:=by rw[eu];exact Di
 have a2:=at2 (f:=fun j=>.ref (F.pk j 0)) hd d0 hj;have a3:=at2 (f:=fun j=>.ref (F.lp j)) hd d0 hj;have a4:=at2 (f:=fun j=>.ref (F.lc j)) hd d0 hj;have a5:=at2 (f:=fun j=>.ref (F.lt j)) hd d0 hj;have g2:=M1.get (s:=.x 2 0) (p:=F.l 2) (by rw[(hx 2 (by decide)).1];exact X.px 2 (by simp)) ((hx 2 (by decide)).2.trans X.c2);have px:∀f,f=1\/f=2\/f=3\/f=4\/f=5->pos2 (.x f 0)=some (F.l f):=fun f hf=>by rw[(fx2 f 0).1,(hx f (by omega)).1];exact X.px f hf
 have v2:c2 (.x 2 0)=_:=((fx2 2 0).2.trans (hx 2 (by decide)).2).trans X.c2;have v3:c2 (.x 3 0)=_:=((fx2 3 0).2.trans (hx 3 (by decide)).2).trans X.c3;have v4:c2 (.x 4 0)=_:=((fx2 4 0).2.trans (hx 4 (by decide)).2).trans X.c4;have v5:c2 (.x 5 0)=_:=((fx2 5 0).2.trans (hx 5 (by decide)).2).trans X.c5;have v0:c2 (.x 0 0)=zO:=((fx2 0 0).2.trans (hx 0 (by decide)).2).trans X.c0;have p0:pos2 (.x 0 0)=some 0:=((fx2 0 0).1.trans (hx 0 (by decide)).1).trans X.p0;have p6:pos2 (.x 6 j)=some (F.lp j):=((fx2 6 j).1.trans h16).trans (X.p6 j hj);have p7:pos2 (.x 7 j)=some (F.lc j):=((fx2 7 j).1.trans h17.1).trans (X.p7 j hj);have p8:pos2 (.x 8 j)=some (F.lt j):=((fx2 8 j).1.trans h18.1).trans (X.p8 j hj);have v7:c2 (.x 7 j)=_:=((fx2 7 j).2.trans h17.2).trans (X.c7 j hj);have v8:c2 (.x 8 j)=_:=((fx2 8 j).2.trans h18.2).trans (X.c8 j hj);rw[eG (ρ':=rh ns F r6 u7 r8 (some (.int d)) (some k.u) (some u) r12) (S':=S2) (by rwa[rh,g2,a2,e2])];have g4:=M2.get (px 4 (by simp)) v4;have g7:=M2.get p7 v7;have M3:=M2.set p7 (.lst ((ks j).map Kl.u++[k.u]));have L7:((ks j).map Kl.u).length<LIM:=by unfold LIM;rw[QZ];omega
 rw[eG (ρ':=rh ns F r6 u7 r8 (some (.int d)) (some k.u) (some u) r12) (S':=S2.set (F.lc j) (.lst ((ks j).map Kl.u++[k.u]))) (by rwa[rh,g4,a4,g7,i6 L7])];have g5:=M3.get (px 5 (by simp)) ((aD (by simp)).trans v5);have g8:=M3.get p8 ((aD (by simp)).trans v8);have M4:=M3.set p8 (.lst (kL (gN (F.st j)) (ks j)++[u]));have L8:(kL (gN (F.st j)) (ks j)).length<LIM:=by unfold LIM;rw[uH];omega
 rw[eG (ρ':=rh ns F r6 u7 r8 (some (.int d)) (some k.u) (some u) r12) (S':=(S2.set (F.lc j) (.lst ((ks j).map Kl.u++[k.u]))).set (F.lt j) (.lst (kL (gN (F.st j)) (ks j)++[u]))) (by rwa[rh,g5,a5,g8,i6 L8])];generalize hS4:(S2.set (F.lc j) (.lst ((ks j).map Kl.u++[k.u]))).set (F.lt j) (.lst (kL (gN (F.st j)) (ks j)++[u]))=S4 at M4;generalize hc4:aG (aG c2 (.x 7 j) (.lst ((ks j).map Kl.u++[k.u]))) (.x 8 j) (.lst (kL (gN (F.st j)) (ks j)++[u]))=c4 at M4;have w4:∀s,s≠.x 7 j->s≠.x 8 j->c4 s=c2 s:=fun s n7 n8=>by rw[<-hc4,aD n8,aD n7]
 have w47:c4 (.x 7 j)=.lst ((ks j).map Kl.u++[k.u]):=by rw[<-hc4,aD (by simp),bh]
 have w48:c4 (.x 8 j)=.lst (kL (gN (F.st j)) (ks j)++[u]):=by rw[<-hc4,bh]
 have w46:c4 (.x 6 j)=c1 (.x 6 j):=(w4 _ (by simp) (by simp)).trans (fx2 6 j).2;have g3:=M4.get (px 3 (by simp)) ((w4 _ (by simp) (by simp)).trans v3);have ph:∃S6 c6,(∀{dd:CS},aX (fj (cOr (aP (cOp (hZ false) (ak 11) (gi (ag (cC (.str "falls")) aH)))) (aP (cOp (qY false) (ak 11) (gi (ag (cC (.str "falls")) (ag (cC (.str "done")) aH)))))) (dr (cOp fIx (ak 3) (ak 9)) (cOp fIx (ak 10) (cC (.int 1))) (cC (.str "off"))) bX) (aX (fj (aP (cOp (hZ false) (ak 11) (cC (.str "taken")))) (dr (cOp fIx (ak 3) (ak 9)) (cOp fIx (ak 10) (cC (.int 1))) (cC (.str "taken"))) bX) dd) (rh ns F r6 u7 r8 (some (.int d)) (some k.u) (some u) r12) S4=dd (rh ns F r6 u7 r8 (some (.int d)) (some k.u) (some u) r12) S6)/\Mm pos2 c6 S6/\(∀s,s≠.x 6 j->c6 s=c4 s)/\c6 (.x 6 j)=.dic (phU (bD (kAt F ks j) k).2):=by
  have off:=Cw (S:=S4) An (rh ns F r6 u7 r8 (some (.int d)) (some k.u) (some u) r12) rfl;have i1:∃xs,k.u=.tup xs/\atI xs 1=some (.int k.of):=by cases k<;>exact⟨_,rfl,rfl⟩
  obtain⟨xs,ex,ax⟩:=i1;rcases hp with⟨⟨a,rfl⟩,hp⟩|⟨nb,hp⟩
  ·-- a begin tells nothing
   have ez:u=.non:=eu;subst ez;have tk:=sf (S:=S4) An;refine⟨S4,c4,fun{dd}=>?_,M4,fun _ _=>rfl,by rw[w46];exact hp⟩;rw[eG (by rw[jf,off];rfl)];exact eG (by rwa[rh,tk,jh])
  ·obtain⟨_,hph,hof⟩:=sN hk nb;have gp:=M4.get p6 (w46.trans hp);have hL:(phU (kAt F ks j)).length<LIM:=by
    obtain⟨m,hm,er⟩:=X.r j hj;unfold phU LIM;rw[QZ,er];simp[rng];omega
   have tk4:=sf (S:=S4) An;rw[hph];unfold phN;rw[<-eu];cases ho:lF u with
   |true=>
    rw[if_pos rfl];rw[ho]at off;have M5:=M4.set p6 (.dic (dW (phU (kAt F ks j)) (.inl k.of) (.str "off")));have tk:=sf (S:=S4.set (F.lp j) (.dic (dW (phU (kAt F ks j)) (.inl k.of) (.str "off")))) An;have nt:jh u=false:=by
     cases An with
     |no=>rfl
     |nu v=>rfl
     |fa=>rfl
     |wd w hw=>
      unfold lF at ho;unfold jh;refine decide_eq_false fun e=>?_;subst e;exact absurd ho (by decide)
    rw[nt]at tk;refine⟨_,_,fun{dd}=>?_,M5,fun s hs=>aD hs,bh⟩;rw[eG (ρ':=rh ns F r6 u7 r8 (some (.int d)) (some k.u) (some u) r12) (S':=S4.set (F.lp j) (.dic (dW (phU (kAt F ks j)) (.inl k.of) (.str "off")))) (by rw[jf,off,Q6,mj];rwa[rh,ex,ax,g3,a3,gp,hL,if_true])];exact eG (by rwa[rh,tk])
   |false=>
    rw[if_neg Q7];rw[ho]at off;have e1:∀{dd:CS},aX (fj (cOr (aP (cOp (hZ false) (ak 11) (gi (ag (cC (.str "falls")) aH)))) (aP (cOp (qY false) (ak 11) (gi (ag (cC (.str "falls")) (ag (cC (.str "done")) aH)))))) (dr (cOp fIx (ak 3) (ak 9)) (cOp fIx (ak 10) (cC (.int 1))) (cC (.str "off"))) bX) dd (rh ns F r6 u7 r8 (some (.int d)) (some k.u) (some u) r12) S4=dd (rh ns F r6 u7 r8 (some (.int d)) (some k.u) (some u) r12) S4:=fun{dd}=>eG (by rw[jf,off];rfl);cases hT:jh u with
    |true=>
     rw[if_pos rfl];rw[hT]at tk4;have M5:=M4.set p6 (.dic (dW (phU (kAt F ks j)) (.inl k.of) (.str "taken")));refine⟨_,_,fun{dd}=>?_,M5,fun s hs=>aD hs,bh⟩;rw[e1];exact eG (by rwa[rh,ex,ax,tk4,g3,a3,gp,hL,if_true])
    |false=>
     rw[if_neg Q7];rw[hT]at tk4;refine⟨S4,c4,fun{dd}=>?_,M4,fun _ _=>rfl,w46.trans hp⟩;rw[e1];exact eG (by rwa[rh,tk4])
 obtain⟨S6,c6,e6,M6,w6,d6⟩:=ph;rw[e6];have wk:∀s,own j s->c6 s=c2 s:=fun s hs=>by
  have nx:∀f i,s≠.x f i:=fun f i e=>by subst e;exact hs
  rw[w6 s (nx 6 j),w4 s (nx 7 j) (nx 8 j)]
 have R6:Kr cK cA j pos2 c6 (bD (kAt F ks j) k).2 (F.pk j) q2:=R2.fx fun s hs=>⟨rfl,by rw[w6 s (hs 6 j),w4 s (hs 7 j) (hs 8 j)]⟩;have k0:=M6.get (px 2 (by simp)) ((w6 _ (by simp)).trans ((w4 _ (by simp) (by simp)).trans v2));have t0:=M6.get (R6.pk 0 (by decide)) R6.c0;have el:=tK M6 R6;have hev:(bD (kAt F ks j) k).2.ev.length<LIM:=by have:=(B.call (k:=k)).ev;unfold LIM;omega
 have gL:(S6++[O.lst (bD (kAt F ks j) k).2.ev])[S6.length]?=some (.lst (bD (kAt F ks j) k).2.ev):=by rw[ga0];rfl
 have sL:∀o,(S6++[O.lst (bD (kAt F ks j) k).2.ev]).set S6.length o=S6++[o]:=fun o=>by rw[gs0];rfl
 rw[eG (ρ':=rh ns F r6 u7 r8 (some (.int d)) (some k.u) (some u) r12) (S':=S6++[.lst ((bD (kAt F ks j) k).2.ev++[.tup [.str "fall",.int 0]])]) (by rwa[rh,k0,a2,t0,el,gL,i6 hev,sL])];have M7:=M6.app [.lst ((bD (kAt F ks j) k).2.ev++[.tup [.str "fall",.int 0]])];have k7:=M7.get (px 2 (by simp)) ((w6 _ (by simp)).trans ((w4 _ (by simp) (by simp)).trans v2));have t7:=M7.get (R6.pk 0 (by decide)) R6.c0;have z7:=M7.get p0 ((w6 _ (by simp)).trans ((w4 _ (by simp) (by simp)).trans v0));have h64:(bD (kAt F ks j) k).2.ids.length<64:=by
  obtain⟨m,hm,er⟩:=hr;rw[er];simp[rng];omega
 have eo:=mV (z:=zO) (l:=0) M7 R6 z7 h64;generalize hS7:S6++[O.lst ((bD (kAt F ks j) k).2.ev++[.tup [.str "fall",.int 0]])]=S7 at M7 k7 t7 z7 eo;have gO:(S7++[O.lst ((fN (bD (kAt F ks j) k).2).map U.int)])[S7.length]?=some (.lst ((fN (bD (kAt F ks j) k).2).map U.int)):=by rw[ga0];rfl
 have sO:(S7++[O.lst ((fN (bD (kAt F ks j) k).2).map U.int)]).set S7.length (.lst [])=S7++[.lst []]:=by rw[gs0];rfl
 have ecl:jc (.ref S7.length) [] (S7++[O.lst ((fN (bD (kAt F ks j) k).2).map U.int)])=some (.non,S7++[.lst []]):=by simp only[jc,gO,sO]
 refine⟨some u,pos2,c6,S7++[.lst []],by rwa[rh,k7,a2,t7,eo,gO,ecl],?_⟩;refine X.next hj (M7.app _) (fun s no n9 n6 n7 n8=>?_) ((fx2 6 j).1.trans h16) ((fx2 7 j).1.trans h17.1) ((fx2 8 j).1.trans h18.1) hk ⟨q2,R6⟩ hr d6 ?_ ?_
 ·obtain⟨f1,f2⟩:=F2 s no;obtain⟨y1,y2⟩:=h1 s n9 n6;exact⟨f1.trans y1,by rw[w6 s n6,w4 s n7 n8,f2,y2]⟩
 ·rw[w6 _ (by simp)];exact w47
 ·rw[w6 _ (by simp),<-eu];exact w48
end
section
variable{cK cA:Cl}{zO:O}{F:Fx7}{t j m:Nat}{pos pos':Pl->Option Nat}{c c':Pl->O}{T T' S:Sto}{ks:Nat->List Kl}{k:Kl}{ns:List Int}{r6 r7 r8 r9 r10 r11 r12:Option U}
theorem yZ{tt:Int}(FO:FxO F)(hns:cA.ns.length=6)(X:Tx cK cA zO F t pos c T ks)(ht:t<=500)(t0:0<=tt)(t1:tt<40) :
  ∃r7' r8' r9' r10' r11' pos' c' T' ks',fL cK cA zO jW (rh ns F (some (.int tt)) r7 r8 r9 r10 r11 r12) T=some (.nx,rh ns F (some (.int tt)) r7' r8' r9' r10' r11' r12,T')/\Tx cK cA zO F (t+1) pos' c' T' ks':=by
 obtain⟨z,ew⟩:=n4 (S:=T) ns (k:=4+tt % 20) (by omega);have md:oF (.int tt) (.int 20) T=some (.int (tt % 20),T):=rE (by decide);unfold fL jW;rw[eG (ρ':=rh ns F (some (.int tt)) (some (.ref T.length)) r8 r9 r10 r11 r12) (S':=T++[.lst [.int z]]) (by rwa[rh,md,ew])];have hw:dg pos (.x 9 0) T.length (.x 9 0)=some T.length:=gX;have W0:Ws (dg pos (.x 9 0) T.length) c (T++[.lst [.int z]]):=⟨z,X.M.new (.x 9 0) (.lst [.int z]) []⟩;obtain⟨e,ee⟩:∃e,e=tt / 20*7:=⟨_,rfl⟩;have hi:bR (ag (cOp jS (cOp rA (ak 6) (cC (.int 20))) (cC (.int 7))) aH) (rh ns F (some (.int tt)) (some (.ref T.length)) r8 r9 r10 r11 r12) (T++[.lst [.int z]])=some ((QF e.toNat).map fun i:Nat=>U.int (i:Int),fun _=>True,T++[.lst [.int z]]):=by
  have dv:rA (.int tt) (.int 20) (T++[.lst [.int z]])=some (.int (tt / 20),T++[.lst [.int z]]):=yz ⟨by decide,by decide +kernel⟩;have mu:jS (.int (tt / 20)) (.int 7) (T++[.lst [.int z]])=some (.int (tt / 20*7),T++[.lst [.int z]]):=mi (.inr (by decide));rw[jN (n:=e) (S1:=T++[.lst [.int z]]) (by rw[ee];rwa[rh,dv,mu]) (by omega) (by omega),pG]
 obtain⟨r8',S1,e1,W1⟩:=mC (cK:=cK) (cA:=cA) (zO:=zO) (F:=F) (ns:=ns) (r6:=some (.int tt)) (r9:=r9) (r10:=r10) (r11:=r11) (r12:=r12) hw (QF e.toNat) r8 _ W0;have ef:nK (bR (ag (cOp jS (cOp rA (ak 6) (cC (.int 20))) (cC (.int 7))) aH)) (gNm 8) (fL cK cA zO lZ) (rh ns F (some (.int tt)) (some (.ref T.length)) r8 r9 r10 r11 r12) (T++[.lst [.int z]])=some (.nx,rh ns F (some (.int tt)) (some (.ref T.length)) r8' r9 r10 r11 r12,S1):=by
  unfold nK;rw[hi];exact e1
 rw[eG ef];obtain⟨d,S2,e2,W2,d0,d1,_⟩:=W1.sip (mm:=2) hw (by decide) (by decide);rw[eG (ρ':=rh ns F (some (.int tt)) (some (.ref T.length)) r8' (some (.int d)) r10 r11 r12) (S':=S2) (by rwa[rh,e2])];obtain⟨j,hj⟩:∃j,d.toNat=j:=⟨_,rfl⟩;have j2:j<2:=by omega
 obtain⟨z2,M2⟩:=W2;have px:∀s,s≠.x 9 0->dg pos (.x 9 0) T.length s=pos s:=fun s hs=>dX hs;have cx:∀s,s≠.x 9 0->aG c (.x 9 0) (.lst [.int z2]) s=c s:=fun s hs=>aD hs;have g1:=M2.get (s:=.x 1 0) (p:=F.l 1) ((px _ (by simp)).trans (X.px 1 (by simp))) ((cx _ (by simp)).trans X.c1);have g3:=M2.get (s:=.x 3 0) (p:=F.l 3) ((px _ (by simp)).trans (X.px 3 (by simp))) ((cx _ (by simp)).trans X.c3);have a1:=at2 (f:=wU F) hj d0 j2;have a3:=at2 (f:=fun j=>.ref (F.lp j)) hj d0 j2;have iw:∀S,fIx (wU F j) (.int 0) S=some (.tup [.int (F.ni j),.int (F.w j)],S):=fun S=>rfl;obtain⟨m,hm,er⟩:=X.r j j2;obtain⟨n0,n1⟩:=FO.n j j2;obtain⟨w0,w1⟩:=FO.w j j2;obtain⟨⟨u,S3⟩,e3,hN⟩:=zX (K:=kAt F ks j) (j:=j) (lp:=F.lp j) M2 hw bh ((px _ (by simp)).trans (X.p6 j j2)) ((cx _ (by simp)).trans (X.c6 j j2)) er hm (F.ni j) rfl n0 (by omega) w0 (by omega);rw[eG (ρ':=rh ns F (some (.int tt)) (some (.ref T.length)) r8' (some (.int d)) (some u) r11 r12) (S':=S3) (by rwa[rh,g1,a1,iw,g3,a3,e3])];rcases hN with⟨hu,z',M3⟩|⟨k,hu,hk,hN⟩
 ·dsimp only at hu M3;subst hu;rw[ib]at M3;refine⟨some (.ref T.length),r8',some (.int d),some .non,r11,_,_,S3,ks,?_,X.idle M3 fun s hs=>⟨px s hs,aD hs⟩⟩;have et:aP (cOp nr (ak 10) (cC .non)) (rh ns F (some (.int tt)) (some (.ref T.length)) r8' (some (.int d)) (some .non) r11 r12) S3=some (false,S3):=by rwa[rh,ym,tZ,Bool.not_true]
  rw[jf,et,Q6,oZ];rfl
 ·dsimp only at hu hN;subst hu;have inn:mY k.u=false:=by cases k<;>rfl
  have fin:∀{c3:Pl->O},Mm (dg pos (.x 9 0) T.length) c3 S3->(∀s,s≠.x 9 0->s≠.x 6 j->c3 s=c s)->(((∃a,k=.bg a)/\c3 (.x 6 j)=.dic (phU (bD (kAt F ks j) k).2))\/((∀a,k≠.bg a)/\c3 (.x 6 j)=.dic (phU (kAt F ks j))))->(∃m,m<=6/\(bD (kAt F ks j) k).2.ids=rng m)->
    ∃r7' r8'' r9' r10' r11' pos' c' T' ks',(fj (aP (cOp nr (ak 10) (cC .non))) (aX (eR 11 (cCB (gq cK cA) (ag (cOp fIx (ak 2) (ak 9)) (ag (ak 10) aH))))
  (aX (dY (cBM bZ (cOp fIx (ak 4) (ak 9)) (ag (ak 10) aH)))
  (aX (dY (cBM bZ (cOp fIx (ak 5) (ak 9)) (ag (ak 11) aH)))
  (aX (fj (cOr (aP (cOp (hZ false) (ak 11) (gi (ag (cC (.str "falls")) aH)))) (aP (cOp (qY false) (ak 11) (gi (ag (cC (.str "falls")) (ag (cC (.str "done")) aH)))))) (dr (cOp fIx (ak 3) (ak 9)) (cOp fIx (ak 10) (cC (.int 1))) (cC (.str "off"))) bX)
  (aX (fj (aP (cOp (hZ false) (ak 11) (cC (.str "taken")))) (dr (cOp fIx (ak 3) (ak 9)) (cOp fIx (ak 10) (cC (.int 1))) (cC (.str "taken"))) bX)
  (aX (dY (cBM bZ (bt cK (jY cK) (cOp fIx (ak 2) (ak 9)) aH) (ag (gi (ag (cC (.str "fall")) (ag (cC (.int 0)) aH))) aH)))
  (dY (cBM jc (bt cK (fJ cK cA zO) (cOp fIx (ak 2) (ak 9)) aH) aH)))))))) bX) (rh ns F (some (.int tt)) (some (.ref T.length)) r8' (some (.int d)) (some k.u) r11 r12) S3=some (.nx,rh ns F (some (.int tt)) r7' r8'' r9' r10' r11' r12,T')/\Tx cK cA zO F (t+1) pos' c' T' ks':=fun{c3} M3 h3 hp hr=>by
   obtain⟨r11',pos',c',T',e,X'⟩:=w8 (ns:=ns) (r6:=some (.int tt)) (u7:=some (.ref T.length)) (r8:=r8') (r11:=r11) (r12:=r12) FO hns X ht hj d0 j2 M3 (fun s n9 n6=>⟨px s n9,h3 s n9 n6⟩) (px _ (by simp)) hk hp hr;refine⟨some (.ref T.length),r8',some (.int d),some k.u,r11',pos',c',T',_,?_,X'⟩;have et:aP (cOp nr (ak 10) (cC .non)) (rh ns F (some (.int tt)) (some (.ref T.length)) r8' (some (.int d)) (some k.u) r11 r12) S3=some (true,S3):=by rwa[rh,ym,inn,Bool.not_false]
   rw[jf,et,Q6,mj];exact e
  rcases hN with⟨rfl,h6,z',M3⟩|⟨nb,z',M3⟩
  ·rw[ib]at M3;have hmN:((m:Nat):Int)∉(kAt F ks j).ids:=hk;refine fin M3 (fun s n9 n6=>by rw[aD n6,aD n9]) (.inl ⟨⟨_,rfl⟩,by rw[bh];exact congrArg O.dic (Fh hmN).symm⟩) ⟨m+1,by omega,?_⟩;show(kAt F ks j).ids++[((m:Nat):Int)]=_;rw[er];unfold rng;rw[List.range_succ,List.map_append];rfl
  ·rw[ib]at M3;obtain⟨i1,_,_⟩:=sN hk nb;exact fin M3 (fun s n9 n6=>aD n9) (.inr ⟨nb,(aD (by simp)).trans (X.c6 j j2)⟩) ⟨m,hm,i1.trans er⟩
theorem pq(FO:FxO F)(hns:cA.ns.length=6):∀(xs:List Nat) (t:Nat) (pos:Pl->Option Nat) (c:Pl->O) (T:Sto) (ks:Nat->List Kl) (r6 r7 r8 r9 r10 r11:Option U),Tx cK cA zO F t pos c T ks->t+xs.length<=500->(∀x∈xs,x<40)->
  ∃r6' r7' r8' r9' r10' r11' pos' c' T' ks',ft (fun _=>True) (gNm 6) (fL cK cA zO jW) (xs.map fun i:Nat=>U.int (i:Int)) (rh ns F r6 r7 r8 r9 r10 r11 r12) T=some (.nx,rh ns F r6' r7' r8' r9' r10' r11' r12,T')/\Tx cK cA zO F (t+xs.length) pos' c' T' ks'
 |[],t,pos,c,T,ks,r6,r7,r8,r9,r10,r11,X,_,_=>⟨r6,r7,r8,r9,r10,r11,pos,c,T,ks,gx trivial,X⟩
 |x::xs,t,pos,c,T,ks,r6,r7,r8,r9,r10,r11,X,hn,hx=>by
  rw[QJ]at hn;obtain⟨r7',r8',r9',r10',r11',pos',c',T',ks',e,X'⟩:=yZ (ns:=ns) (r7:=r7) (r8:=r8) (r9:=r9) (r10:=r10) (r11:=r11) (r12:=r12) (tt:=(x:Int)) FO hns X (by omega) (by omega) (by have:=hx x QB;omega);obtain⟨r6'',r7'',r8'',r9'',r10'',r11'',pos'',c'',T'',ks'',e',X''⟩:=pq FO hns xs (t+1) pos' c' T' ks' (some (.int x)) r7' r8' r9' r10' r11' X' (by omega) fun y hy=>hx y (Q8 _ hy);refine⟨r6'',r7'',r8'',r9'',r10'',r11'',pos'',c'',T'',ks'',(gY trivial rfl e).trans e',?_⟩;rw[QJ,show t+(xs.length+1)=t+1+xs.length by omega];exact X''
end
def Vs:Pl->Prop
 |.x f _=>f<=8
 |.k i _=>i<2
 |.a i _ _=>i<2
section
variable{cK cA:Cl}{zO:O}{F:Fx7}{t j m n i:Nat}{pos pos':Pl->Option Nat}{c c':Pl->O}{T T' S:Sto}{ks:Nat->List Kl}{k:Kl}{ns:List Int}{r6 r7 r8 r10 r11 r12:Option U}{K:Kc}{p:Nat->Nat}{q:Int->Nat->Nat}
theorem Tx.keep(X:Tx cK cA zO F t pos c T ks)(M:Mm pos' c' T')(h:∀s,Vs s->pos' s=pos s/\c' s=c s):Tx cK cA zO F t pos' c' T' ks:=by
 have hx:∀f i,f<=8->pos' (.x f i)=pos (.x f i)/\c' (.x f i)=c (.x f i):=fun f i hf=>h _ hf;refine⟨M,by rw[(hx 0 0 (by decide)).1];exact X.p0,by rw[(hx 0 0 (by decide)).2];exact X.c0,fun f hf=>by rw[(hx f 0 (by omega)).1];exact X.px f hf,by rw[(hx 1 0 (by decide)).2];exact X.c1,by rw[(hx 2 0 (by decide)).2];exact X.c2,by rw[(hx 3 0 (by decide)).2];exact X.c3,by rw[(hx 4 0 (by decide)).2];exact X.c4,by rw[(hx 5 0 (by decide)).2];exact X.c5,
  fun j hj=>by rw[(hx 6 j (by decide)).1];exact X.p6 j hj,fun j hj=>by rw[(hx 7 j (by decide)).1];exact X.p7 j hj,fun j hj=>by rw[(hx 8 j (by decide)).1];exact X.p8 j hj,fun i hi=>?_,X.ok,X.i,X.b,X.r,
  fun j hj=>by rw[(hx 6 j (by decide)).2];exact X.c6 j hj,fun j hj=>by rw[(hx 7 j (by decide)).2];exact X.c7 j hj,fun j hj=>by rw[(hx 8 j (by decide)).2];exact X.c8 j hj,X.n⟩
 obtain⟨q,Q⟩:=X.k i hi;have kk:∀f,pos' (.k i f)=pos (.k i f)/\c' (.k i f)=c (.k i f):=fun f=>h _ hi;have aa:∀x f,pos' (.a i x f)=pos (.a i x f)/\c' (.a i x f)=c (.a i x f):=fun x f=>h _ hi;exact⟨q,fun f hf=>by rw[(kk f).1];exact Q.pk f hf,by rw[(kk 0).2];exact Q.c0,by rw[(kk 1).2];exact Q.c1,by rw[(kk 2).2];exact Q.c2,by rw[(kk 3).2];exact Q.c3,by rw[(kk 4).2];exact Q.c4,by rw[(kk 5).2];exact Q.c5,fun x hx f hf=>by rw[(aa x f).1];exact Q.pa x hx f hf,fun x hx=>by rw[(aa x 0).2];exact Q.a0 x hx,fun x hx=>by rw[(aa x 1).2];exact Q.a1 x hx,fun x hx=>by rw[(aa x 2).2];exact Q.a2 x hx,fun x hx=>by rw[(aa x 3).2];exact Q.a3 x hx⟩
theorem ky{l lc:Nat}{us:List U}(hns:cA.ns.length=6):∀(rest:List Kl) (ys:List U) (K:Kc) (m:Nat) (pos:Pl->Option Nat) (c:Pl->O) (q:Int->Nat->Nat) (S:Sto) (r0:Option U),Mm pos c S->Kr cK cA (2+j) pos c K p q->Ki K n->Kb K m->Ds K n rest->m+rest.length<=900->ys.length+rest.length<=900->pos (.x 10 0)=some l->c (.x 10 0)=.lst ys->pos (.x 7 j)=some lc->c (.x 7 j)=.lst us->
  ∃pos' c' q' S',fi (fun S=>S[lc]?=some (.lst us)) (gNm 0) (cCB (gq cK cA) (ag (ak 1) (ag (ak 0) aH))) l (rest.map Kl.u) [r0,some (.ref (p 0))] S=some S'/\Mm pos' c' S'/\Kr cK cA (2+j) pos' c' (jL K rest) p q'/\c' (.x 10 0)=.lst (ys++kL K rest)/\pos' (.x 10 0)=some l/\(∀s,¬own (2+j) s->s≠.x 10 0->pos' s=pos s/\c' s=c s)
 |[],ys,K,m,pos,c,q,S,r0,M,R,_,_,_,_,_,hp,hc,h7,d7=>⟨pos,c,q,S,gy (M.get h7 d7),M,R,by rw[hc];simp[kL],hp,fun _ _ _=>⟨rfl,rfl⟩⟩
 |k::rest,ys,K,m,pos,c,q,S,r0,M,R,I,B,hk,hm,hn,hp,hc,h7,d7=>by
  rw[QJ]at hm hn;obtain⟨⟨u,S1⟩,e,eu,pos1,c1,q1,M1,R1,F1⟩:=pJ hns M R I B (by omega) hk.1;dsimp only at eu M1;have fx:∀f i,pos1 (.x f i)=pos (.x f i)/\c1 (.x f i)=c (.x f i):=fun f i=>F1 _ fun z=>z;have p10:pos1 (.x 10 0)=some l:=(fx 10 0).1.trans hp;have v10:c1 (.x 10 0)=.lst ys:=(fx 10 0).2.trans hc;have M2:=M1.set p10 (.lst (ys++[u]));have R2:Kr cK cA (2+j) pos1 (aG c1 (.x 10 0) (.lst (ys++[u]))) (bD K k).2 p q1:=R1.fx Fx.upd;obtain⟨pos',c',q',S',e',M',R',y',p',f'⟩:=ky hns rest (ys++[u]) (bD K k).2 (m+1) pos1 _ q1 _ (some k.u) M2 R2 (I.call hk.1) B.call hk.2 (by omega) (by simp;omega) p10 bh ((fx 7 j).1.trans h7) ((aD (by simp)).trans ((fx 7 j).2.trans d7));refine⟨pos',c',q',S',(eP (ρ0:=[some k.u,some (.ref (p 0))]) (S0:=S) (S1:=S1) (x:=u) (ys:=ys) (M.get h7 d7) rfl ?_ (M1.get p10 v10) (by unfold LIM;omega)).trans e',M',R',?_,p',fun s no n10=>?_⟩
  ·rwa[e]
  ·rw[y'];show _=O.lst (ys++(bD K k).1::kL (bD K k).2 rest);rw[eu];simp
  ·obtain⟨a1,a2⟩:=f' s no n10;obtain⟨b1,b2⟩:=F1 s no;exact⟨a1.trans b1,by rw[a2,aD n10,b2]⟩
theorem pA{d:Int}(FO:FxO F)(hnK:cK.ns.length=6)(hns:cA.ns.length=6)(X:Tx cK cA zO F t pos c T ks)(ht:t<=500)(hd:d.toNat=j)(d0:0<=d)(hj:j<2) :
  ∃r12' pos' c' T',fL cK cA zO lY (rh ns F r6 r7 r8 (some (.int d)) r10 r11 r12) T=some (.nx,rh ns F r6 r7 r8 (some (.int d)) r10 r11 r12',T')/\Tx cK cA zO F t pos' c' T' ks:=by
 have nj:=X.n j hj;obtain⟨n0,n1⟩:=FO.n j hj;have hs:=FO.s j hj;have a1:=at2 (f:=wU F) hd d0 hj;have a2:=at2 (f:=fun j=>.ref (F.pk j 0)) hd d0 hj;have a4:=at2 (f:=fun j=>.ref (F.lc j)) hd d0 hj;have a5:=at2 (f:=fun j=>.ref (F.lt j)) hd d0 hj;have iw:∀S,fIx (wU F j) (.int 0) S=some (.tup [.int (F.ni j),.int (F.w j)],S):=fun S=>rfl;have is:∀S,fIx (wU F j) (.int 1) S=some (.tup ((F.st j).map U.int),S):=fun S=>rfl;have i0:∀S,fIx (.tup [.int (F.ni j),.int (F.w j)]) (.int 0) S=some (.int (F.ni j),S):=fun S=>rfl;have g1:=X.M.get (X.px 1 (by simp)) X.c1;obtain⟨⟨u,S1⟩,e1,eu,pos1,c1,M1,R1,F1⟩:=sZ (cA:=cA) (j:=2+j) (st:=F.st j) (x:=.tup [.int (F.ni j),.int (F.w j)]) hnK (by omega) X.M;dsimp only at eu M1 e1;subst eu;have ep:lj T.length 0=T.length:=rfl;unfold fL lY;rw[eG (ρ':=rh ns F r6 r7 r8 (some (.int d)) r10 r11 (some (.ref T.length))) (S':=S1) (by rwa[rh,g1,a1,iw,is,e1])];have n2:∀s,Vs s->¬own (2+j) s:=fun s hv ho=>by
  cases s with
  |x f i=>exact ho
  |k i f=>have h1:i<2:=hv;have h2:i=2+j:=ho;omega
  |a i x f=>have h1:i<2:=hv;have h2:i=2+j:=ho;omega
 have X1:=X.keep M1 fun s hv=>F1 s (n2 s hv);have g4:=X1.M.get (X1.px 4 (by simp)) X1.c4;have g7:=X1.M.get (X1.p7 j hj) (X1.c7 j hj);have M2:=M1.new (.x 10 0) (.lst []) [];have R2:Kr cK cA (2+j) (dg pos1 (.x 10 0) S1.length) (aG c1 (.x 10 0) (.lst [])) (gN (F.st j)) (lj T.length) (fun _ _=>0):=R1.fx Fx.new;obtain⟨pos3,c3,q3,S3,e3,M3,R3,y3,p3,f3⟩:=ky (cK:=cK) (cA:=cA) (j:=j) (n:=(F.ni j).toNat) (p:=lj T.length) (l:=S1.length) (lc:=F.lc j) (us:=(ks j).map Kl.u) hns (ks j) [] (gN (F.st j)) 0 _ _ _ _ none M2 R2 (Ki.new hs (by omega)) Kb.new (X.ok j hj) (by omega) (by simp;omega) gX bh ((dX (by simp)).trans (X1.p7 j hj)) ((aD (by simp)).trans (X1.c7 j hj));have ec:dZ (iTp (cOp fIx (ak 4) (ak 9))) (gNm 0) (cCB (gq cK cA) (ag (ak 1) (ag (ak 0) aH))) 1 [12] (rh ns F r6 r7 r8 (some (.int d)) r10 r11 (some (.ref T.length))) S1=some (.ref S1.length,S3):=by
  have hi:iTp (cOp fIx (ak 4) (ak 9)) (rh ns F r6 r7 r8 (some (.int d)) r10 r11 (some (.ref T.length))) S1=some ((ks j).map Kl.u,fun S=>S[F.lc j]?=some (.lst ((ks j).map Kl.u)),S1):=Ao (by rwa[rh,g4,a4]) g7;unfold dZ;rw[hi,Q6];show Option.bind (fi (fun S=>S[F.lc j]?=some (.lst ((ks j).map Kl.u))) (gNm 0) _ S1.length _ [none,some (.ref (lj T.length 0))] _) _=_;rw[e3];rfl
 rw[Qu]at y3;have X3:Tx cK cA zO F t pos3 c3 S3 ks:=X1.keep M3 fun s hv=>by
  have n10:s≠.x 10 0:=fun e=>by subst e;exact absurd hv (by show ¬(10<=8);decide)
  obtain⟨b1,b2⟩:=f3 s (n2 s hv) n10;exact⟨b1.trans (dX n10),by rw[b2,aD n10]⟩
 have h5:=X3.M.get (X3.px 5 (by simp)) X3.c5;have h8:=X3.M.get (X3.p8 j hj) (X3.c8 j hj);have h10:=M3.get p3 y3;have sm:hZ true (.ref S1.length) (.ref (F.lt j)) S3=some (.bl false,S3):=gm.ne (gm.lst h10 h8 (cW.all fun u hu=>(uI _ _ u hu).lay S3)) (by decide);rw[eG (ρ':=rh ns F r6 r7 r8 (some (.int d)) r10 r11 (some (.ref T.length))) (S':=S3) (by rwa[ec];rwa[rh,h5,a5,sm])];have eK:jL (gN (F.st j)) (ks j)=kAt F ks j:=rfl;rw[eK]at R3;have I:=X.i j hj;obtain⟨m6,hm6,er⟩:=X.r j hj;have h64:(kAt F ks j).ids.length<64:=by rw[er];simp[rng];omega
 have z3:=X3.M.get X3.p0 X3.c0;obtain⟨G,l1,l2,l3,eA,x1,x2,x3⟩:=yf (zO:=zO) (l:=0) M3 R3 z3 (F.ni j) (by omega) rfl I.lm (by omega) h64;obtain⟨qj,Rj⟩:=X3.k j hj;obtain⟨G',l1',l2',l3',eB,y1,y2,y3'⟩:=yf (zO:=zO) (l:=0) (M3.app G) Rj (aY z3) (F.ni j) (by omega) rfl I.lm (by omega) h64;rw[ep]at eA;have b1:=X3.M.get (X3.px 1 (by simp)) X3.c1;have b1':=aY (r:=G) b1;have b2':=aY (r:=G) (X3.M.get (X3.px 2 (by simp)) X3.c2);have evs:=ug (ks j) (gN (F.st j)) (fun x hx=>nomatch hx);rw[eK]at evs;have sm2:hZ true (.tup [.tup ((kAt F ks j).bx.map U.int),.int (kAt F ks j).tk,.ref l1,.ref l2,.ref l3]) (.tup [.tup ((kAt F ks j).bx.map U.int),.int (kAt F ks j).tk,.ref l1',.ref l2',.ref l3']) (S3++G++G')=some (.bl false,S3++G++G'):=by
  have li:∀{xs:List Int},∀u∈xs.map U.int,Lay 1 (S3++G++G') u:=fun{xs} u hu=>by
   obtain⟨x,_,rfl⟩:=Qw.mp hu;exact .int
  refine gm.ne (k:=3) (gm.tup (cW.cons (.refl (Lay.ints.mono (by decide))) (cW.cons (.refl .int) (cW.cons (gm.lst (aY x1) y1 (cW.all fun u hu=>?_)) (cW.cons (gm.lst (aY x2) y2 (cW.all fun u hu=>(evs u hu).lay _)) (cW.cons (gm.lst (aY x3) y3' (cW.all li)) .nil)))))) (by decide);obtain⟨x,_,rfl⟩:=Qw.mp hu;exact .int
 have sm3:=sm2;simp only[Qy]at sm3;refine⟨some (.ref T.length),pos3,c3,S3++G++G',?_,X3.keep ((M3.app G).app G') fun _ _=>⟨rfl,rfl⟩⟩;rwa[rh,b1,a1,iw,i0,eA,b2',a2,b1',eB,sm2,sm3]
end
section
variable{cK cA:Cl}{zO:O}{pos:Pl->Option Nat}{c:Pl->O}{S T:Sto}{ρ:Rho}{ns:List Int}
theorem oa(M:Mm pos c S)(s0 s1 s:Pl)(o:O):Mm (dg (dg (dg pos s0 S.length) s1 (S.length+1)) s (S.length+2)) (aG (aG (aG c s0 o) s1 o) s (.lst [.ref S.length,.ref (S.length+1)])) (S++[o,o,.lst [.ref S.length,.ref (S.length+1)]]):=by
 have M1:=((M.new s0 o []).new s1 o []).new s (.lst [.ref S.length,.ref (S.length+1)]) [];simpa using M1
theorem E2:fQ (ag jl (ag jl aH)) ρ S=some (.ref (S.length+2),S++[.dic [],.dic [],.lst [.ref S.length,.ref (S.length+1)]]):=by
 rwa[];simp
theorem BB:fQ (ag (fQ aH) (ag (fQ aH) aH)) ρ S=some (.ref (S.length+2),S++[.lst [],.lst [],.lst [.ref S.length,.ref (S.length+1)]]):=by
 rwa[];simp
def zx:Pl->Option Nat:=fun s=>if s=.x 0 0 then some 0 else none
theorem m0:Mm zx (fun _=>zO) [zO]:=by
 refine⟨fun s p h=>?_,fun s s' p h h'=>?_⟩
 ·unfold zx at h;split at h
  ·cases h;rfl
  ·cases h
 ·unfold zx at h h';split at h
  ·split at h'
   ·rename_i a b;rw[a,b]
   ·cases h'
  ·cases h
theorem uC(hnK:cK.ns.length=6)(ns:List Int):∃(F:Fx7) (T:Sto) (pos:Pl->Option Nat) (c:Pl->O),FxO F/\Tx cK cA zO F 0 pos c T (fun _=>[])/\
  ∀(f:CS),(aX (eR 1 (fQ (ag (cCB gz (ag (cCB kQ (ag (ak 0) (ag (cC (.int 0)) aH))) aH)) (ag (cCB gz (ag (cCB kQ (ag (ak 0) (ag (cC (.int 2)) aH))) aH)) aH))))
  (aX (eR 2 (dZ (iTp (ak 1)) (gTp [0,1]) (cCB (iT cK (gu cK)) (ag (ak 0) (ag (ak 1) aH))) 2 []))
  (aX (eR 3 (fQ (ag jl (ag jl aH))))
  (aX (eR 4 (fQ (ag (fQ aH) (ag (fQ aH) aH))))
  (aX (eR 5 (fQ (ag (fQ aH) (ag (fQ aH) aH)))) f))))) [some (.kl ns),none,none,none,none,none,none,none,none,none,none,none,none] [zO]=f (rh ns F none none none none none none none) T:=by
 obtain⟨z1,ew1⟩:=n4 (S:=[zO]) ns (k:=0) (by decide);have W1:Ws (dg zx (.x 9 0) 1) (fun _=>zO) ([zO]++[.lst [.int z1]]):=⟨z1,m0.new (.x 9 0) (.lst [.int z1]) []⟩;obtain⟨⟨u1,S1⟩,e1,n1,w1,s1,eu1,n10,n11,w10,w11,l1,⟨x1,M1⟩,_⟩:=mR W1 gX (fun s p h=>let ⟨_,M⟩:=W1;M.lt h);dsimp only at eu1 M1;subst eu1;obtain⟨z2,ew2⟩:=n4 (S:=S1) ns (k:=2) (by decide);have W2:Ws (dg (dg zx (.x 9 0) 1) (.x 9 0) S1.length) (aG (fun _=>zO) (.x 9 0) (.lst [.int x1])) (S1++[.lst [.int z2]]):=⟨z2,M1.new (.x 9 0) (.lst [.int z2]) []⟩;obtain⟨⟨u2,S2⟩,e2,n2,w2,s2,eu2,n20,n21,w20,w21,l2,⟨x2,M2⟩,_⟩:=mR W2 gX (fun s p h=>let ⟨_,M⟩:=W2;M.lt h);dsimp only at eu2 M2;subst eu2;obtain⟨a1,ha1⟩:∃a1,a1=U.tup [.tup [.int n1,.int w1],.tup (s1.map U.int)]:=⟨_,rfl⟩;obtain⟨a2,ha2⟩:∃a2,a2=U.tup [.tup [.int n2,.int w2],.tup (s2.map U.int)]:=⟨_,rfl⟩;rw[<-ha1]at e1;rw[<-ha2]at e2;have M3:=M2.new (.x 1 0) (.lst [a1,a2]) [];obtain⟨S3,h3⟩:∃S3,S3=S2++[.lst [a1,a2]]:=⟨_,rfl⟩;have g3:S3[S2.length]?=some (.lst [a1,a2]):=by rw[h3,ga0];rfl
 rw[<-h3]at M3;have M4:=M3.new (.x 2 0) (.lst []) [];obtain⟨p4,hp4⟩:∃p,p=dg (dg (dg (dg zx (.x 9 0) 1) (.x 9 0) S1.length) (.x 1 0) S2.length) (.x 2 0) S3.length:=⟨_,rfl⟩;obtain⟨c4,hc4⟩:∃c,c=aG (aG (aG (aG (fun _=>zO) (.x 9 0) (.lst [.int x1])) (.x 9 0) (.lst [.int x2])) (.x 1 0) (.lst [a1,a2])) (.x 2 0) (.lst []):=⟨_,rfl⟩;have q0:p4 (.x 0 0)=some 0:=by rw[hp4];simp[dg,zx]
 have q1:p4 (.x 1 0)=some S2.length:=by rw[hp4];simp[dg]
 have q2:p4 (.x 2 0)=some S3.length:=by rw[hp4];simp[dg]
 have d0:c4 (.x 0 0)=zO:=by rw[hc4];simp[aG]
 have d1:c4 (.x 1 0)=.lst [a1,a2]:=by rw[hc4];simp[aG]
 have d2:c4 (.x 2 0)=.lst []:=by rw[hc4];simp[aG]
 replace M4:Mm p4 c4 (S3++[.lst []]):=by rw[hp4,hc4];exact M4
 clear hp4 hc4 M3 M2 M1 W1 W2;obtain⟨T4,h4⟩:∃T4,T4=S3++[O.lst []]:=⟨_,rfl⟩;rw[<-h4]at M4;obtain⟨⟨u5,S5⟩,e5,eu5,p5,c5,M5,R5,F5⟩:=sZ (cA:=cA) (j:=0) (st:=s1) (x:=.tup [.int n1,.int w1]) hnK (by omega) M4;dsimp only at eu5 M5 e5;subst eu5;have fx5:∀f i,p5 (.x f i)=p4 (.x f i)/\c5 (.x f i)=c4 (.x f i):=fun f i=>F5 _ fun z=>z;have M6:=M5.set ((fx5 2 0).1.trans q2) (.lst [.ref T4.length]);have R6:Kr cK cA 0 p5 (aG c5 (.x 2 0) (.lst [.ref T4.length])) (gN s1) (lj T4.length) (fun _ _=>0):=R5.fx Fx.upd;obtain⟨T6,h6⟩:∃T6,T6=S5.set S3.length (.lst [.ref T4.length]):=⟨_,rfl⟩;rw[<-h6]at M6;obtain⟨⟨u7,S7⟩,e7,eu7,p7,c7,M7,R7,F7⟩:=sZ (cA:=cA) (j:=1) (st:=s2) (x:=.tup [.int n2,.int w2]) hnK (by omega) M6;dsimp only at eu7 M7 e7;subst eu7;have fx7:∀f i,p7 (.x f i)=p5 (.x f i)/\c7 (.x f i)=aG c5 (.x 2 0) (.lst [.ref T4.length]) (.x f i):=fun f i=>F7 _ fun z=>z;have v2:c7 (.x 2 0)=.lst [.ref T4.length]:=(fx7 2 0).2.trans bh;have px:∀f i,p7 (.x f i)=p4 (.x f i):=fun f i=>(fx7 f i).1.trans (fx5 f i).1;have M8:=M7.set ((px 2 0).trans q2) (.lst [.ref T4.length,.ref T6.length]);have R60:Kr cK cA 0 p7 c7 (gN s1) (lj T4.length) (fun _ _=>0):=by
  have ff:∀s,(∃f,s=.k 0 f)\/(∃a f,s=.a 0 a f)->p7 s=p5 s/\c7 s=aG c5 (.x 2 0) (.lst [.ref T4.length]) s:=fun s hs=>F7 s (fun z=>by rcases hs with⟨f,rfl⟩|⟨a,f,rfl⟩<;>exact absurd z (by show ¬(0=1);decide));have kk:∀f,p7 (.k 0 f)=p5 (.k 0 f)/\c7 (.k 0 f)=aG c5 (.x 2 0) (.lst [.ref T4.length]) (.k 0 f):=fun f=>ff _ (.inl ⟨f,rfl⟩);exact⟨fun f hf=>by rw[(kk f).1];exact R6.pk f hf,by rw[(kk 0).2];exact R6.c0,by rw[(kk 1).2];exact R6.c1,by rw[(kk 2).2];exact R6.c2,by rw[(kk 3).2];exact R6.c3,by rw[(kk 4).2];exact R6.c4,by rw[(kk 5).2];exact R6.c5,(fun x hx=>nomatch hx),(fun x hx=>nomatch hx),(fun x hx=>nomatch hx),(fun x hx=>nomatch hx),(fun x hx=>nomatch hx)⟩
 obtain⟨T8,h8⟩:∃T8,T8=S7.set S3.length (.lst [.ref T4.length,.ref T6.length]):=⟨_,rfl⟩;rw[<-h8]at M8;have A8:Kr cK cA 0 p7 (aG c7 (.x 2 0) (.lst [.ref T4.length,.ref T6.length])) (gN s1) (lj T4.length) (fun _ _=>0):=R60.fx Fx.upd;have B8:Kr cK cA 1 p7 (aG c7 (.x 2 0) (.lst [.ref T4.length,.ref T6.length])) (gN s2) (lj T6.length) (fun _ _=>0):=R7.fx Fx.upd;obtain⟨c8,hc8⟩:∃c,c=aG c7 (.x 2 0) (.lst [.ref T4.length,.ref T6.length]):=⟨_,rfl⟩;have y0:c8 (.x 0 0)=zO:=by rw[hc8,aD (by simp),(fx7 0 0).2,aD (by simp),(fx5 0 0).2,d0]
 have y1:c8 (.x 1 0)=.lst [a1,a2]:=by rw[hc8,aD (by simp),(fx7 1 0).2,aD (by simp),(fx5 1 0).2,d1]
 have y2:c8 (.x 2 0)=.lst [.ref T4.length,.ref T6.length]:=by rw[hc8,bh]
 rw[<-hc8]at A8 B8 M8;have ec:dZ (iTp (ak 1)) (gTp [0,1]) (cCB (iT cK (gu cK)) (ag (ak 0) (ag (ak 1) aH))) 2 [] [some (.kl ns),some (.ref S2.length),none,none,none,none,none,none,none,none,none,none,none] S3=some (.ref S3.length,T8):=by
  have hi:iTp (ak 1) [some (.kl ns),some (.ref S2.length),none,none,none,none,none,none,none,none,none,none,none] S3=some ([a1,a2],fun S=>S[S2.length]?=some (.lst [a1,a2]),S3):=Ao (by rwa[]) g3;unfold dZ;rw[hi,Q6];show Option.bind (fi (fun S=>S[S2.length]?=some (.lst [a1,a2])) (gTp [0,1]) (cCB (iT cK (gu cK)) (ag (ak 0) (ag (ak 1) aH))) S3.length [a1,a2] [none,none] (S3++[.lst []])) _=_;rw[<-h4];rw[eP (ρ0:=[some (.tup [.int n1,.int w1]),some (.tup (s1.map U.int))]) (S0:=T4) (S1:=S5) (x:=.ref T4.length) (ys:=[]) (M4.get q1 d1) (by rw[ha1];rfl) (by rwa[e5]) (M5.get ((fx5 2 0).1.trans q2) ((fx5 2 0).2.trans d2)) (by decide),Qu,<-h6];rw[eP (ρ0:=[some (.tup [.int n2,.int w2]),some (.tup (s2.map U.int))]) (S0:=T6) (S1:=S7) (x:=.ref T6.length) (ys:=[.ref T4.length]) (M6.get ((fx5 1 0).1.trans q1) (by rw[aD (by simp),(fx5 1 0).2,d1])) (by rw[ha2];rfl) (by rwa[e7]) (M7.get ((px 2 0).trans q2) v2) (by unfold LIM;exact(by decide:1<100000)),Qa,Qu,<-h8];rw[gy (M8.get ((px 1 0).trans q1) y1)];rfl
 have M9:=oa M8 (.x 6 0) (.x 6 1) (.x 3 0) (.dic []);obtain⟨T9,h9⟩:∃T9,T9=T8++[.dic [],.dic [],.lst [.ref T8.length,.ref (T8.length+1)]]:=⟨_,rfl⟩;rw[<-h9]at M9;have M10:=oa M9 (.x 7 0) (.x 7 1) (.x 4 0) (.lst []);obtain⟨T10,h10⟩:∃T10,T10=T9++[.lst [],.lst [],.lst [.ref T9.length,.ref (T9.length+1)]]:=⟨_,rfl⟩;rw[<-h10]at M10;have M11:=oa M10 (.x 8 0) (.x 8 1) (.x 5 0) (.lst []);obtain⟨F,hF⟩:∃F:Fx7,F={ l:=fun f=>if f=1 then S2.length else if f=2 then S3.length else if f=3 then T8.length+2 else if f=4 then T9.length+2 else T10.length+2,lp:=fun j=>T8.length+j,lc:=fun j=>T9.length+j,lt:=fun j=>T10.length+j,ni:=fun j=>if j=0 then n1 else n2,w:=fun j=>if j=0 then w1 else w2,st:=fun j=>if j=0 then s1 else s2,pk:=fun j=>if j=0 then lj T4.length else lj T6.length }:=⟨_,rfl⟩;have j01:∀{p:Nat->Prop},p 0->p 1->∀j,j<2->p j:=fun{p} h0 h1 j hj=>by
  match j,hj with
  |0,_=>exact h0
  |1,_=>exact h1
 have FO:FxO F:=by
  subst hF;exact⟨j01 ⟨n10,n11⟩ ⟨n20,n21⟩,j01 ⟨w10,w11⟩ ⟨w20,w21⟩,j01 l1 l2⟩
 refine⟨F,_,_,_,FO,⟨M11,?_,?_,?_,?_,?_,?_,?_,?_,?_,?_,?_,?_,?_,?_,?_,?_,?_,?_,?_,?_⟩,fun f=>?_⟩
 ·simp[dg,px,q0]
 ·simp[aG,y0]
 ·subst hF;intro f hf;rcases hf with rfl|rfl|rfl|rfl|rfl<;>simp[dg,px,q1,q2]
 ·subst hF;simp[aG,y1,wU,ha1,ha2]
 ·subst hF;simp[aG,y2,lj]
 ·subst hF;simp[aG]
 ·subst hF;simp[aG]
 ·subst hF;simp[aG]
 ·subst hF;exact j01 (by simp[dg]) (by simp[dg])
 ·subst hF;exact j01 (by simp[dg]) (by simp[dg])
 ·subst hF;exact j01 (by simp[dg]) (by simp[dg])
 ·subst hF;exact j01 ⟨_,A8.fx fun s hs=>by simp[dg,aG,hs]⟩ ⟨_,B8.fx fun s hs=>by simp[dg,aG,hs]⟩
 ·exact fun j hj=>trivial
 ·intro j hj;exact Ki.new (FO.s j hj) (by have:=FO.n j hj;omega)
 ·exact fun j hj=>Kb.new
 ·exact fun j hj=>⟨0,by decide,rfl⟩
 ·exact j01 (by simp[aG,phU,kAt,jL,gN]) (by simp[aG,phU,kAt,jL,gN])
 ·exact j01 (by simp[aG]) (by simp[aG])
 ·exact j01 (by simp[aG,kL]) (by simp[aG,kL])
 ·exact fun j hj=>Q5 _
 ·rw[eG (ρ':=[some (.kl ns),some (.ref S2.length),none,none,none,none,none,none,none,none,none,none,none]) (S':=S3) (by rw[h3];simp only[nY,A9,o7,jv,ju,rD,DB,rF,uX,oX,x_c,Q6,Z8,Option.join_some];rw[ew1,Q6,jv,rD,Q6,ju,Q6,rF];erw [e1];rwa[ew2,e2])];rw[eG (ρ':=[some (.kl ns),some (.ref S2.length),some (.ref S3.length),none,none,none,none,none,none,none,none,none,none]) (S':=T8) (by rwa[ec])];rw[eG (ρ':=[some (.kl ns),some (.ref S2.length),some (.ref S3.length),some (.ref (T8.length+2)),none,none,none,none,none,none,none,none,none]) (S':=T9) (by rw[nY,E2,h9];rfl)];rw[eG (ρ':=[some (.kl ns),some (.ref S2.length),some (.ref S3.length),some (.ref (T8.length+2)),some (.ref (T9.length+2)),none,none,none,none,none,none,none,none]) (S':=T10) (by rw[nY,BB,h10];rfl)];rw[eG (ρ':=rh ns F none none none none none none none) (by rw[nY,BB];subst hF;rfl)]
theorem CC(hnK:cK.ns.length=6)(hnA:cA.ns.length=6)(ns:List Int)(hl:ns.length<=63):∃ρ' S',Ay gz kQ iY qy (gq cK cA) (xh cK cA zO) (jY cK) (fJ cK cA zO) (gu cK) cK [some (.kl ns),none,none,none,none,none,none,none,none,none,none,none,none] [zO]=some (.rt (.bl true),ρ',S'):=by
 obtain⟨F,T,pos,c,FO,X,hb⟩:=uC (cA:=cA) (zO:=zO) hnK ns;unfold Ay;rw[hb];clear hb;obtain⟨r6,r7,r8,r9,r10,r11,pos1,c1,T1,ks,e1,X1⟩:=pq (ns:=ns) (r12:=none) FO hnA (QF 40) 0 pos c T _ none none none none none none X (by simp) (fun x hx=>Qc.mp hx);have ef:nK (bR (ag (cC (.int 40)) aH)) (gNm 6) (fL cK cA zO jW) (rh ns F none none none none none none none) T=some (.nx,rh ns F r6 r7 r8 r9 r10 r11 none,T1):=by
  unfold nK;rw[jN (n:=40) (S1:=T) rfl (by decide) (by decide),pG];exact e1
 rw[eG ef];rw[List.length_range,Nat.zero_add]at X1;obtain⟨r12,pos2,c2,T2,e2,X2⟩:=pA (ns:=ns) (r6:=r6) (r7:=r7) (r8:=r8) (r10:=r10) (r11:=r11) (r12:=none) (d:=0) FO hnK hnA X1 (by decide) rfl (by decide) (by decide);obtain⟨r12',pos3,c3,T3,e3,X3⟩:=pA (ns:=ns) (r6:=r6) (r7:=r7) (r8:=r8) (r10:=r10) (r11:=r11) (r12:=r12) (d:=1) FO hnK hnA X2 (by decide) rfl (by decide) (by decide);have eg:nK (bR (ag (cC (.int 2)) aH)) (gNm 9) (fL cK cA zO lY) (rh ns F r6 r7 r8 r9 r10 r11 none) T1=some (.nx,rh ns F r6 r7 r8 (some (.int 1)) r10 r11 r12',T3):=by
  unfold nK;rw[jN (n:=2) (S1:=T1) rfl (by decide) (by decide),Q6];exact((gY trivial rfl e2).trans (gY trivial rfl e3)).trans (gx trivial)
 rw[eG eg];exact⟨_,_,rfl⟩
end
theorem z0{P:Program}{w:World}{K:Q1}{h:Heap}{mg:Str->Option Value}{st:Stmt}{k:Nat}{sp:Sp}{fa:Addr}(d:Dy K "law" st)(X:K.In h)(G:h.Ns mainGlobals mg)(hfa:mg "law"=some (.ref fa))(ok:∀fd,Fun K "law" "law" st fa fd->∀base:Heap,uS mg base->je P w K mg base CX0 k fa fd ["script"] sp)
  (b:∀(kV doc pm:Value) (an:Option Addr) (cdv ct v:Value),bindArgs (PySem.W.fnOf "law" "law" (hU st) (cU st) (aw st) .none kV doc pm an cdv ct) ⟨[v],[]⟩=pure [(("script":Str),v)]:=by intros;rfl) :
  ∃fd:FuncData,(∀(s:Shared) (v:Value),BindsTo s fd ⟨[v],[]⟩ [("script",v)])/\∀base:Heap,K.In base->base.Ns mainGlobals mg->uS mg base->je P w K mg base CX0 k fa fd ["script"] sp:=by
 obtain⟨f,a,fd,F⟩:=d;cases hfa.symm.trans (PySem.W.mg_of X G a);refine⟨fd,fun s v=>?_,fun base _ _ bm=>ok fd F base bm⟩;obtain⟨oc,od,kV,doc,pm,an,cdv,ct,osl,rfl,lk,hcd⟩:=F.ex;exact .of_eq (b kV doc pm an cdv ct v)
theorem Dj{l:PySem.W.OpenLaw}{w:World}{K:Q1}{h:Heap}{mg:Str->Option Value}{fa:Addr}(X:K.In h)(G:h.Ns mainGlobals mg)(hfa:mg "law"=some (.ref fa))
  {CAttempt:Addr}
  {CKeeper:Addr}
  (ds:Dx K [("_law_well",gT),("_law_sip",iQ),("_law_world",fX),("_law_next",gU),("_law_put_to",fA),("_law_all",iR),("law",zc)])
  (cl_Attempt:AQ K "Attempt" CAttempt ["glance","looked","puts","stamp","unwritten","is_open"] [("__init__","Attempt.__init__",fh),("instant","Attempt.instant",dA)])
  (cl_Keeper:AQ K "Keeper" CKeeper ["boxes","marks","holders","ticks","events","known"] [("__init__","Keeper.__init__",fE),("end","Keeper.end",f7),("found","Keeper.found",fc),("untaken","Keeper.untaken",dU),("is_barred","Keeper.is_barred",c9),("has_changed","Keeper.has_changed",cD),("would_fall","Keeper.would_fall",cT),("look_anew","Keeper.look_anew",cZ),("begin","Keeper.begin",fg),("look","Keeper.look",fD),("put","Keeper.put",fY),("take","Keeper.take",fB),("write","Keeper.write",e9),("log","Keeper.log",f6),("order","Keeper.order",fb),("now","Keeper.now",fZ),("clock","Keeper.clock",fe),("mark","Keeper.mark",fC)])
  (zs:DY K GN)
  {cO pO:Addr} (cod:AJ K CKeeper "order" cO pO) :
  ∃fd:FuncData,(∀(s:Shared) (v:Value),BindsTo s fd ⟨[v],[]⟩ [("script",v)])/\∀base:Heap,K.In base->base.Ns mainGlobals mg->uS mg base->je l.prog w K mg base CX0 7 fa fd ["script"] (pC pO K):=by
 obtain⟨d__law_well,d__law_sip,d__law_world,d__law_next,d__law_put_to,d__law_all,d_law,-⟩:=ds;obtain⟨m_Attempt_init,m_Attempt_instant,-⟩:=cl_Attempt.ms;have TAttempt:=cl_Attempt.tc;obtain⟨m_Keeper_init,m_Keeper_end,m_Keeper_found,m_Keeper_untaken,m_Keeper_is_barred,m_Keeper_has_changed,m_Keeper_would_fall,m_Keeper_look_anew,m_Keeper_begin,m_Keeper_look,m_Keeper_put,m_Keeper_take,m_Keeper_write,m_Keeper_log,m_Keeper_order,m_Keeper_now,m_Keeper_clock,m_Keeper_mark,-⟩:=cl_Keeper.ms;have TKeeper:=cl_Keeper.tc;have B:=zs.blt X G;refine z0 d_law X G hfa fun fd F_law base bm=>?_;have M_Attempt_init:=kb (P:=l.prog) (w:=w) (base:=base) (k:=0) (cl_Attempt.mkd m_Attempt_init X G) B TAttempt;have M_Attempt_instant:=iS (P:=l.prog) (w:=w) (base:=base) (k:=0) (m_Attempt_instant.mt) B TAttempt;have M_Keeper_init:=lL (P:=l.prog) (w:=w) (base:=base) (k:=0) (cl_Keeper.mkd m_Keeper_init X G) B TKeeper;have M_Keeper_end:=nq (P:=l.prog) (w:=w) (base:=base) (k:=0) (m_Keeper_end.mt) B TKeeper TAttempt;have M_Keeper_found:=j7 (P:=l.prog) (w:=w) (base:=base) (k:=0) (m_Keeper_found.mt) B TKeeper TAttempt;have M_Keeper_untaken:=ji (P:=l.prog) (w:=w) (base:=base) (k:=1) (m_Keeper_untaken.mt) B TKeeper TAttempt M_Keeper_found;have M_Keeper_is_barred:=iG (P:=l.prog) (w:=w) (base:=base) (k:=0) (m_Keeper_is_barred.mt) B TKeeper;have M_Keeper_has_changed:=gD (P:=l.prog) (w:=w) (base:=base) (k:=0) (m_Keeper_has_changed.mt) B TKeeper TAttempt;have M_Keeper_would_fall:=g9 (P:=l.prog) (w:=w) (base:=base) (k:=1) (m_Keeper_would_fall.mt) B TKeeper TAttempt M_Keeper_is_barred M_Keeper_has_changed;have M_Keeper_look_anew:=iF (P:=l.prog) (w:=w) (base:=base) (k:=0) (m_Keeper_look_anew.mt) B TKeeper TAttempt;have M_Keeper_begin:=j9 (P:=l.prog) (w:=w) (base:=base) (k:=1) (m_Keeper_begin.mt) B TKeeper TAttempt M_Attempt_init;have M_Keeper_look:=lK (P:=l.prog) (w:=w) (base:=base) (k:=2) (m_Keeper_look.mt) B TKeeper TAttempt M_Keeper_untaken M_Keeper_would_fall (M_Keeper_end.mono (by decide)) (M_Keeper_look_anew.mono (by decide));have M_Keeper_put:=m9 (P:=l.prog) (w:=w) (base:=base) (k:=2) (m_Keeper_put.mt) B TKeeper TAttempt M_Keeper_untaken;have M_Keeper_take:=lI (P:=l.prog) (w:=w) (base:=base) (k:=2) (m_Keeper_take.mt) B TKeeper TAttempt M_Keeper_untaken (M_Keeper_end.mono (by decide)) (M_Keeper_is_barred.mono (by decide)) (M_Keeper_has_changed.mono (by decide));have M_Keeper_write:=j5 (P:=l.prog) (w:=w) (base:=base) (k:=1) (m_Keeper_write.mt) B TKeeper TAttempt M_Keeper_found M_Keeper_end;have M_Keeper_log:=nh (P:=l.prog) (w:=w) (base:=base) (k:=0) (m_Keeper_log.mt) B TKeeper;have M_Keeper_order:=j6 (P:=l.prog) (w:=w) (base:=base) (k:=1) (m_Keeper_order.mt) cod bm B TKeeper TAttempt M_Attempt_instant;have M_Keeper_now:=ng (P:=l.prog) (w:=w) (base:=base) (k:=0) (m_Keeper_now.mt) B TKeeper;have M_Keeper_clock:=j8 (P:=l.prog) (w:=w) (base:=base) (k:=0) (m_Keeper_clock.mt) B TKeeper;have M_Keeper_mark:=lJ (P:=l.prog) (w:=w) (base:=base) (k:=0) (m_Keeper_mark.mt) B TKeeper;have eV:=oA (P:=l.prog) (w:=w) (base:=base) (k:=0) (d__law_well.df X G) B;have aW:=qU (P:=l.prog) (w:=w) (base:=base) (k:=0) (d__law_sip.df X G) B;have e8:=m8 (P:=l.prog) (w:=w) (base:=base) (k:=1) (d__law_world.df X G) B aW;have hX:=oB (P:=l.prog) (w:=w) (base:=base) (k:=1) (d__law_next.df X G) B aW;have eF:=lH (P:=l.prog) (w:=w) (base:=base) (k:=3) (d__law_put_to.df X G) B TKeeper M_Keeper_begin M_Keeper_look M_Keeper_put M_Keeper_take (M_Keeper_write.mono (by decide));have gB:=qV (P:=l.prog) (w:=w) (base:=base) (k:=5) (d__law_all.df X G) B TKeeper M_Keeper_order (M_Keeper_log.mono (by decide)) (M_Keeper_mark.mono (by decide)) (M_Keeper_clock.mono (by decide)) (M_Keeper_now.mono (by decide));exact FT (P:=l.prog) (w:=w) (base:=base) (k:=5) F_law B TKeeper (Has.mono e8 (by decide)) (Has.mono eV (by decide)) (Has.mono aW (by decide)) (Has.mono hX (by decide)) (Has.mono eF (by decide)) gB (M_Keeper_log.mono (by decide)) (M_Keeper_order.mono (by decide)) (M_Keeper_init.mono (by decide)) fun ns hl=>CC (cK:=⟨CKeeper,_⟩) (cA:=⟨CAttempt,_⟩) rfl rfl ns hl
theorem G7{l:PySem.W.OpenLaw}{q:Program}{dw:List Str}{XP:(Str->Option Value)->Heap->Prop}{YP:World->Heap->Prop}{d:DefRec}{K:Params->Q1}(p:Addr)(hn:l.most=some 63)(hdf:d.params.defaults=[])
  (hY:∀(w:World) (h:Heap),YP w h->(K w.params).In h/\h.get? p=some (PySem.W.tabObj #[])) (hK:∀w:World,(K w.params).lookup p=none) (hC:∀w:World,∃c,PySem.W.codeHdIn (K w.params) c p=true)
  (F:∀(w:World) (mg:Str->Option Value) (fa:Addr) (h:Heap),(K w.params).In h->h.Ns mainGlobals mg->mg d.name=some (.ref fa)->
   ∃fd:FuncData,(∀(s:Shared) (u:Value),BindsTo s fd ⟨[u],[]⟩ [("script",u)])/\∀base:Heap,(K w.params).In base->base.Ns mainGlobals mg->uS mg base->je l.prog w (K w.params) mg base CX0 7 fa fd ["script"] (pC p (K w.params))) :
  PySem.W.WalkO q dw XP YP l.row.toRowW d [] (fun f vs=>PySem.call f vs):=
 L2.vp (n:=63) (k:=7) (x:="script") (p:=p) (sp:=fun w=>pC p (K w.params)) hn (by decide) hdf ⟨rfl,by decide,by decide,rfl⟩ hY hK hC F (fun _ _ a ns hl hO hS=>⟨a,ns,rfl,CD hO hS,hl,hO.1,fun _=>rfl⟩)
end OL
namespace PySem.W.Fast
def tw9056280779057782182:=0
def tw13653974597620246295:=0
def tw8680762534518188036:=0
def tw4953361726138582485:=0
def tw2522771043514912441:=0
def tw1924080990684301498:=0
def tw3710115964491521907:=0
def tw14585230905721830484:=0
def tw8338009786617690162:=0
def tw15775003091533815847:=0
def tw8505506673965076325:=0
def tw16842853984692522652:=0
def tw10249095654827014425:=0
def tw7560256917374905072:=0
def tw9256257096695643585:=0
def tw11972244410766759683:=0
def tw4196295601269687913:=0
def tw2342385838140378798:=0
def tw17765660236901233397:=0
def tw15537468161942106665:=0
def tw7361311757802319805:=0
def tw15276863455312098432:=0
def tw4836600515825902443:=0
def tw3754313802504330815:=0
def tw7962846688847840451:=0
def tw10610153954684460452:=0
def tw225206007954852652:=0
def tw11951640613568595080:=0
def tw3416804871013666493:=0
def tw8961226019202394681:=0
def tw8895012475260197784:=0
def tw8849797271693721316:=0
def tw14863210404645330578:=0
def tw7190567128377784631:=0
def tw16689211272120136414:=0
def tw6725435048833070071:=0
def tw7654024464674762888:=0
def tw2869589043188998610:=0
def tw15838058142648530163:=0
def tw4656850662608833452:=0
def tw14082471891752090630:=0
def tw12272518486207763674:=0
def tw8809611920519593472:=0
def tw5527466790221073910:=0
def tw12667766153830674953:=0
def tw11649779655840417344:=0
def tw909164465701645668:=0
def tw12348149786792447455:=0
def tw10337267239145249855:=0
def tw14543122438228313178:=0
def tw7182870931383887020:=0
def tw11310840939157439873:=0
def tw15191372966950931565:=0
def tw97728567727502470:=0
def tw16768408539519975086:=0
def tw16498827545414152223:=0
def tw7921544040391200254:=0
def tw1648896663226739358:=0
def tw5401081563818676571:=0
def tw15780690731804547641:=0
def tw12750460467826767332:=0
def tw18179802634833865549:=0
def tw10202143255316868174:=0
def tw15808111550997418213:=0
def tw166559236895987748:=0
def tw9576162240596259041:=0
def tw5419411131900702047:=0
def tw9574278936773901707:=0
def tw1056482268063161795:=0
def tw9480049168370014015:=0
def tw9850936309564506549:=0
def tw2296387366600770962:=0
def tw4945177095006864565:=0
def tw990034129388883770:=0
def tw15368357460504959872:=0
def tw7107114060351314070:=0
def tw9676644094076606782:=0
def tw15644645735496109678:=0
def tw8885601766988696917:=0
def tw10744610789375774777:=0
def tw11344890659669918997:=0
def tw7984354006575212901:=0
def tw10592325108059416293:=0
def tw18136237813837711580:=0
def tw10805300857321762896:=0
def tw3447182169058916895:=0
def tw1514226806500614914:=0
def tw15624827814621024120:=0
def tw10768696005892297821:=0
def tw14264373103740248360:=0
def tw8592926045308242283:=0
def tw8759237540210833943:=0
def tw1281979190032787754:=0
def tw3349314517542777896:=0
def tw246941060712555045:=0
def tw7019206509036367231:=0
def tw8851782682245618618:=0
def tw589748159947112554:=0
def tw11123271885840472762:=0
def tw1778532427111733962:=0
def tw12028180795733925224:=0
def tw10354806186354177482:=0
def tw8470840229058742302:=0
def tw2945862082075918579:=0
def tw4221785305904200260:=0
def tw10816558675254444794:=0
def tw8673767994430823044:=0
def tw13795405869338051150:=0
def tw18006811215307600627:=0
def tw9626007996223021631:=0
def tw16081441674698067051:=0
def tw4364994183153161163:=0
def tw2002488185300480713:=0
def tw7272195813671889773:=0
def tw15146617585219886417:=0
def tw6956784722658697760:=0
def tw11321996936617659498:=0
def tw17412788751043259327:=0
def tw1981376953540938899:=0
def tw12561579019704458638:=0
def tw10596784965030519410:=0
def tw3871020438150442010:=0
def tw7236114910776323027:=0
def tw12667875938591117976:=0
def tw16983081120842421715:=0
def tw858884164167301695:=0
def tw11310337858764063351:=0
def tw11349564604783002860:=0
def tw2029973845616316991:=0
def tw11219066807604345281:=0
def tw5486258176425115638:=0
def tw14216804221685391269:=0
def tw11124872084694733823:=0
def tw14455143285652558091:=0
def tw9969515752792360019:=0
def tw7301667677140833787:=0
def tw12364731455458204787:=0
def tw15862270613702396044:=0
def tw4273875553272816870:=0
def tw3309382249060770494:=0
def tw9230278845372549331:=0
def tw14295572587880133576:=0
def tw5211311328700428620:=0
def tw10952480260921695641:=0
def tw427777498782059348:=0
def tw580955007522909584:=0
def tw1637836603782856881:=0
def tw4705987948759599662:=0
def tw11402973228592660216:=0
def tw5560748377546019462:=0
def tw6913790949523710582:=0
def tw16171246099125170496:=0
def tw470734517082939744:=0
def tw15072659838378010137:=0
def tw5815568625180583562:=0
def tw6158439804447110741:=0
def tw1022923224067359525:=0
def tw18373424255537809459:=0
def tw303331063791205462:=0
def tw10610465827573563174:=0
def tw2190503954201310081:=0
def tw16507558518897969826:=0
def tw2914571345777582643:=0
def tw18441706027883818079:=0
def tw1668212941213780604:=0
def tw1286898182614371018:=0
def tw3900578790062771371:=0
def tw7501778301504160586:=0
def tw10158523437752851680:=0
def tw5490344338136870062:=0
def tw794012114185595262:=0
def tw3496046726067063843:=0
def tw1081249484800907471:=0
def tw222907234166538625:=0
def tw9749862794788561132:=0
def tw14411219299288020757:=0
def tw3690875882939845307:=0
def tw12561091086600444670:=0
def tw3541143229157534340:=0
def tw227899700713341810:=0
def tw16341715573044871619:=0
def tw13674322504532269021:=0
def tw6653701406479233713:=0
def tw13964429395826943233:=0
def tw10252852292898979256:=0
def tw4479867436124493003:=0
def tw2227716952250107628:=0
def tw16890810035782281569:=0
def tw6848729251316644177:=0
def tw1819311035851621121:=0
def tw2849217090912224296:=0
def tw16812028509365996715:=0
def tw15331064712383426738:=0
end PySem.W.Fast
open PySem PySem.W PyProof.Rows
open OP in
set_option maxRecDepth 100000 in
set_option maxHeartbeats 0 in
theorem PySem.Challenge.cw_oneglance_k37_two_keepers_by_turns_holds : PySem.Challenge.rw_oneglance_k37_two_keepers_by_turns.Holds := by
 w_on; o_law; k_head; (case hw => w_witness2)
 k_fill
 refine OL.G7 (l := PySem.Challenge.rw_oneglance_k37_two_keepers_by_turns) 203 rfl rfl (fun w h Y => ⟨PySem.W.km_in_of Y, PySem.W.km_tabs_of Y 203 (by simp)⟩) (fun w => by kernel_rfl) (fun w => ⟨207, by kernel_rfl⟩) ?F;case F =>
  intro w mg fa h KX G hmg;refine' OL.Dj KX G hmg ?ds ?cl_Attempt ?cl_Keeper ?zs ?cod
  (case ds => (repeat (refine' ⟨Hg ?a ?l ?c ?k, ?_⟩; (case a => k_is); (case l => k_is); (case c => k_is); (case k => k_is))); exact trivial)
  (case cl_Attempt => (refine' ⟨?a, ?b, ?c, ?d, ?e, ?f, ?g, ?n, ?m⟩; (case a => k_is); (case b => k_is); (case c => k_is); (case d => k_is); (case e => k_is); (case f => k_is); (case g => k_is); (case n => (repeat (refine' ⟨?a, ?_⟩; (case a => k_is))); exact trivial); (case m => (repeat (refine' ⟨Gu ?a ?i ?l ?c ?k, ?_⟩; (case a => k_is); (case i => k_is); (case l => k_is); (case c => k_is); (case k => k_is))); exact trivial)))
  (case cl_Keeper => (refine' ⟨?a, ?b, ?c, ?d, ?e, ?f, ?g, ?n, ?m⟩; (case a => k_is); (case b => k_is); (case c => k_is); (case d => k_is); (case e => k_is); (case f => k_is); (case g => k_is); (case n => (repeat (refine' ⟨?a, ?_⟩; (case a => k_is))); exact trivial); (case m => (repeat (refine' ⟨Gu ?a ?i ?l ?c ?k, ?_⟩; (case a => k_is); (case i => k_is); (case l => k_is); (case c => k_is); (case k => k_is))); exact trivial)))
  (case zs => (repeat (refine' ⟨?a, ?_⟩; (case a => k_is))); exact trivial)
  (case cod => exact ⟨_, _, _, by k_is, by k_is, rfl, rfl, by kernel_rfl⟩)
