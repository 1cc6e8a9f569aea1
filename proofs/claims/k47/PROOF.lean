import PyProof.Rows.All
import Wide.All
import OpenK.AllK
import Wide.FinOn
import Lean
import PyProof.EqAt
import PyProof.EqKinds
import PyProof.TupleCall
import PySem.Challenge.RW_oneglance_k47_two_tries_by_turns
local macro_rules|`(tactic|trivial)=>`(tactic|exact Or.inl rfl)
local macro_rules|`(tactic|trivial)=>`(tactic|exact Or.inr rfl)
local macro_rules|`(⋯)=>`(by omega)
local macro_rules|`(∅)=>`(by decide +kernel)
local macro_rules|`(nofun)=>`(by simp)
set_option maxHeartbeats 4000000
set_option Elab.async false
set_option linter.all false
set_option maxRecDepth 100000
set_option bootstrap.genMatcherCode false
set_option genSizeOf false
set_option compiler.extract_closed false
noncomputable section
open PySem.F renaming slot_tuple_iterator_next→YJ, plainAttrs_list→YK, args_tuple_add_2→YL, entry_tuple_add→YM
open PySem.PyData renaming canLayAll0→Ya, depthAll→Yb, canLay0→Yc
open PySem.Obj renaming mapSeq→Ye
open Option.some renaming inj→Yk
open Option renaming join_some→YN, bind_eq_some_iff→Q2, bind_some→Z0, isSome_iff_exists→Zl, getD_some→XQ, map_some→XR, map_eq_some_iff→XH
open PySem.W renaming findIn→Y0, emptyDict→YA, fnOf→YB, keepIn→YC, instObj→YD, codeIn→YE, isFn→YF, plainGet→YG, Frag→Q3
open PySem renaming boot_len→YH, mem_of_lookup→YI, Value→Q4, Shared→Q5, wpAny_bind→Q8, starEach→Z9, Expr→ZR, sizeLine→ZU, wpAny_pure→ZC, model→ZL, Program→ZI, Stmt→Zv, World→Zk, Around→Zy, bootBuiltins→Zn, backTo→Zi, wpAny_mono→XX, FuncData→XE, swapsWith→XT, Scope→Xz
open List renaming set_cons_zero→YO, ext_getElem?→YW, length_replicate→YX, getElem_mem→YY, length_pos_iff→Yf, length_eq_zero_iff→Yg, mem_iff_getElem→Yh, getElem?_eq_some_iff→Q6, length_map→Q7, getElem?_eq_getElem→Z7, replicate→ZQ, length_cons→ZZ, mem_cons_of_mem→ZJ, size_toArray→ZV, map_cons→ZK, length_append→ZY, mem_cons_self→ZG, mem_append_right→ZH, mem_cons→ZD, range→ZF, mem_singleton→ZN, getElem?_map→ZP, append_assoc→ZO, getElem?_set_ne→ZS, mem_append→Zz, length_set→Zx, append_nil→Zj, mem_map→Zr, getElem?_append_right→Zu, find?_cons→Zg, getElem?_append_left→Zh, getElem?_set_self→Ze, nil_append→Zf, length_range→Za, map_map→Zc, getElem?_set→Zt, map_append→Zo, mem_range→Zs, getElem?_cons_zero→X8, getElem?_cons_succ→X9, cons_append→XZ, mem_of_getElem?→XJ, set_set→XY, getElem?_eq_none→XW, map_nil→XU, not_mem_nil→XB, getElem?_replicate→XG, map_congr_left→XD, length_nil→XF, lookup_cons→XA, all_eq_true→XC, any_cons→XN, replicate_succ→XO, getElem?_range→XS, nodup_cons→Xv, length_singleton→Xk, length_filter_le→Xy, nodup_append→Xr, flatten_cons→Xu, getD_eq_getElem?_getD→Xh
open PySem.Heap renaming size_push→Yd, get?_push_of_some→Q9, lt_size→ZX, get?_push_size→ZT
open Nat renaming zero_add→YT, le_of_lt→YU, add_le_add_right→YZ, le_refl→Z6, lt_of_lt_of_le→ZE, ne_of_lt→Zq, le_trans→Zw, le_of_ble_eq_true→Zb, zero_le→Zp, lt_irrefl→XM, ne_of_gt→Xj, le_succ_of_le→Xw, le_succ→Xg
open Bool renaming true_and→YQ, false_and→YR, false_or→YS, and_eq_true_iff→Yj, false_ne_true→Z8, eq_iff_iff→XI, false_eq_true→Xq, and_eq_true→Xx
open Array renaming length_toList→Zm, getD_eq_getD_getElem?→Xb
open Int renaming toNat_natCast→YV, le_refl→Xe
theorem Xd{c:Prop}{_:Decidable c}(h:c){α}{t e:α}:ite c t e=t:=if_pos h
theorem Xf{c:Prop}{_:Decidable c}(h:¬c){α}{t e:α}:ite c t e=e:=if_neg h
theorem Xa{p:Prop}[Decidable p](h:¬p):decide p=false:=decide_eq_false h
theorem Xc{p:Prop}[Decidable p](h:p):decide p=true:=decide_eq_true h
namespace L2
open PySem PySem.Spec PyProof.Rows
abbrev Key:=Sum Int Str
def ud:Key->Q4->Bool
 |.inl k,v=>Value.isInt k v
 |.inr x,v=>Value.isStrOf x v
def QV(w:Zk):Key->Int
 |.inl k=>hashInt k
 |.inr x=>hashStr w x
def bJ:∀{k:Key} {v:Q4},ud k v=true->(∃i t,k=Sum.inl i/\v=Value.int i t)\/(∃x t,k=Sum.inr x/\v=Value.str x t)
 |.inl i,v,h=>by
  obtain⟨t,e⟩:=Value.isInt_shape (k:=i) (v:=v) h;exact .inl ⟨i,t,rfl,e⟩
 |.inr x,v,h=>by
  obtain⟨t,e⟩:=Value.isStrOf_shape (x:=x) (v:=v) h;exact .inr ⟨x,t,rfl,e⟩
def AO(i:Int)(t:Tok):ud (.inl i) (.int i t)=true:=by simp[ud,Value.isInt]
def AN(x:Str)(t:Tok):ud (.inr x) (.str x t)=true:=by simp[ud,Value.isStrOf]
def LQ(a b:Int):decide ((Sum.inl a:Key)=Sum.inl b)=(a == b):=by
 by_cases e:a=b;subst e;simp;have h:¬(Sum.inl a:Key)=Sum.inl b:=fun q=>e (Sum.inl.inj q);rw[Xa h];exact(beq_eq_false_iff_ne.mpr e).symm
def LN(a b:Str):decide ((Sum.inr a:Key)=Sum.inr b)=decide (a=b):=by
 by_cases e:a=b;subst e;simp;have h:¬(Sum.inr a:Key)=Sum.inr b:=fun q=>e (Sum.inr.inj q);rw[Xa h,Xa e]
def LP(a:Int)(b:Str):decide ((Sum.inl a:Key)=Sum.inr b)=false:=Xa (fun q=>nomatch q)
def LO(a:Str)(b:Int):decide ((Sum.inr a:Key)=Sum.inl b)=false:=Xa (fun q=>nomatch q)
def cV(prog:ZI)(w:Zk):PySem.KeyKind prog w Key where
 is:=ud
 hash:=QV w
 inj:=fun v a b ha hb=>by
  rcases bJ ha with⟨i,t,rfl,rfl⟩|⟨x,t,rfl,rfl⟩;rcases bJ hb with⟨j,u,rfl,e⟩|⟨y,u,rfl,e⟩;injection e with e1 _;rw[e1];exact nomatch e;rcases bJ hb with⟨j,u,rfl,e⟩|⟨y,u,rfl,e⟩;exact nomatch e;injection e with e1 _;rw[e1]
 byValue:=fun k v h=>by
  rcases bJ h with⟨i,t,rfl,rfl⟩|⟨x,t,rfl,rfl⟩<;>rfl
 pyHash:=fun hv h=>by
  rcases bJ hv with⟨i,t,rfl,rfl⟩|⟨x,t,rfl,rfl⟩;exact wpAny_pyHash_int h;exact wpAny_pyHash_str h
 eqBool:=fun hu hv h=>by
  rcases bJ hu with⟨i,t,rfl,rfl⟩|⟨x,t,rfl,rfl⟩;rcases bJ hv with⟨j,u,rfl,rfl⟩|⟨y,u,rfl,rfl⟩;rw[LQ]at h;exact wpAny_eqBool_int h;rw[LP]at h;exact SeqAt.EqAt.int_str i t y u _ _ _ _ h;rcases bJ hv with⟨j,u,rfl,rfl⟩|⟨y,u,rfl,rfl⟩;rw[LO]at h;exact SeqAt.EqAt.str_int x t j u _ _ _ _ h;rw[LN]at h;exact wpAny_eqBool_str h
 «strs»:=fun k x t v h=>by
  rcases bJ h with⟨i,u,rfl,e⟩|⟨y,u,rfl,e⟩;exact nomatch e
  ·injection e with e1 _;subst e1;cases v<;>rfl
def vE(prog:ZI)(w:Zk)(i:Int)(t:Tok):(cV prog w).is (.inl i) (.int i t)=true:=AO i t
def vD(prog:ZI)(w:Zk)(x:Str)(t:Tok):(cV prog w).is (.inr x) (.str x t)=true:=AN x t
inductive V where
 |non|bl (b:Bool)|int (i:Int)|str (x:Str)|byt (b:Array UInt8)|flt (b:UInt64)|ref (a:Addr)|ty (n:String)
 deriving DecidableEq
def dk:V->Q4->Prop
 |.non,u=>u=Value.none
 |.bl b,u=>u=Value.bool b
 |.int i,u=>∃t,u=Value.int i t
 |.str x,u=>∃t,u=Value.str x t
 |.byt b,u=>∃t,u=Value.bytes b t
 |.flt b,u=>∃t,u=Value.float b t
 |.ref a,u=>u=Value.ref a
 |.ty n,u=>u=Value.type n
abbrev cm:List V->List Q4->Prop:=Paired dk
def cm.length{xs:List V}{us:List Q4}(r:cm xs us):xs.length=us.length:=Paired.length r
def cm.get:∀{xs:List V} {us:List Q4} {i:Nat} {x:V},cm xs us->xs[i]?=some x->∃u,us[i]?=some u/\dk x u
 |_,_,_,_,.nil,e=>by simp at e
 |_,_,0,_,.cons r _,e=>by simp at e;subst e;exact⟨_,rfl,r⟩
 |_,_,i+1,x,.cons _ t,e=>by
  obtain⟨u,h1,h2⟩:=cm.get (i:=i) (x:=x) t (by simpa using e);exact⟨u,by simpa using h1,h2⟩
def cm.set{x:V}{u:Q4}(r:dk x u):∀{xs:List V} {us:List Q4} (i:Nat),cm xs us->cm (xs.set i x) (us.set i u)
 |_,_,_,.nil=>.nil
 |_,_,0,.cons _ t=>.cons r t
 |_,_,i+1,.cons q t=>.cons q (cm.set r i t)
def cm.append:∀{xs ys:List V} {us ws:List Q4},cm xs us->cm ys ws->cm (xs++ys) (us++ws)
 |_,_,_,_,.nil,s=>s
 |_,_,_,_,.cons r t,s=>.cons r (cm.append t s)
def cm.take:∀{xs:List V} {us:List Q4} (n:Nat),cm xs us->cm (xs.take n) (us.take n)
 |_,_,0,_=>.nil
 |_,_,_+1,.nil=>.nil
 |_,_,n+1,.cons r t=>.cons r (cm.take n t)
def cm.drop:∀{xs:List V} {us:List Q4} (n:Nat),cm xs us->cm (xs.drop n) (us.drop n)
 |_,_,0,r=>r
 |_,_,_+1,.nil=>.nil
 |_,_,n+1,.cons _ t=>cm.drop n t
def se:Option V->Option Q4->Prop
 |some v,some u=>dk v u
 |none,none=>True
 |_,_=>False
def KV{κ:Type}:List (κ×V)->List (κ×Q4)->Prop:=Paired fun(p:κ×V) (q:κ×Q4)=>p.1=q.1/\dk p.2 q.2
def kV:Key->V
 |.inl i=>.int i
 |.inr x=>.str x
inductive HO where
 |lst (xs:List V)
 |tup (xs:List V)
 |dK (kvs:List (Key×V))|dT (kvs:List (List Key×V))
 |set (S:Int->Bool) (n:Nat)
 |ins (C dx:Addr) (fs:List (Str×V))
 |own (x:Addr)
 |xd (fs:List (Str×V))
 |met (f x:Addr)
 |rng (lo hi:Int)
 |frz (o:Obj) (u:HO)
 |tbl (ps:Array Q4)
 |ext (φ:Heap->Prop)
abbrev Hp:=Addr->Option HO
def upd(H:Hp)(a:Addr)(o:HO):Hp:=fun b=>if b=a then some o else H b
def aJ{H:Hp}{a:Addr}{o:HO}:upd H a o a=some o:=by unfold upd;rw[Xd rfl]
def aM{H:Hp}{a b:Addr}{o:HO}(h:b≠a):upd H a o b=H b:=by unfold upd;rw[Xf h]
def O2{H:Hp}{a b:Addr}{o u:HO}(h:H a=some o)(h':H b=some u)(d:o≠u):a≠b:=by
 intro e;subst e;rw[h]at h';exact d (Yk h')
def dW{H:Hp}{a b:Addr}{o:HO}(h:H a=some o)(h':H b=none):a≠b:=by
 intro e;subst e;rw[h]at h';cases h'
section
variable(P:ZI)(w:Zk)
def eN(H:Hp)(h:Heap)(a:Addr):HO->Prop
 |.lst xs=>xs.length<=ZU/\∃(its:List Q4) (n:Nat),cm xs its/\h.get? a=some { cls:=.type "list",data:=.seq its.toArray n }
 |.tup xs=>xs.length<=ZU/\∃its:List Q4,cm xs its/\IsTup h a its.toArray
 |.dK kvs=>kvs.length<=ZU/\(a == sysModules)=false/\∃vs,KV kvs vs/\h.DictOf (cV P w) a vs
 | .dT kvs=>kvs.length<=ZU/\(a == sysModules)=false/\∃xs:List (List Key×Addr×Q4),
   Paired (fun(p:List Key×V) (q:List Key×Addr×Q4)=>p.1=q.1/\H q.2.1=some (.tup (p.1.map kV))/\dk p.2 q.2.2) kvs xs/\
   ∃o es ep,h.get? a=some o/\o.ExactDict/\o.data=.dict es ep/\es.toList=xs.map (entryOfKey (tupleKind (cV P w)))/\(xs.map (·.1)).Nodup
 |.set S n=>h.SetOf (intKind P w) a S n
 | .ins C dx fs=>H dx=some (.own a)/\fs.length<=1000/\dx≠a/\h.get? a=some (YD C dx)/\
   ∃mA,h.Ns1 dx mA/\(∀f,se (fs.lookup f) (mA f))/\PySem.Within mA (fs.map (·.1))
 |.own _=>∃o,h.get? a=some o
 |.xd fs=>∃mA,h.Ns1 a mA/\∀f,se (fs.lookup f) (mA f)
 |.rng lo hi=>∃t u v,h.get? a=some { cls:=.type "range",data:=.fields #[.int lo t,.int hi u,.int 1 v] }
 |.frz o u=>h.get? a=some o/\eN H h a u
 |.tbl ps=>h.get? a=some { cls:=.none,data:=.fields ps }
 |.met f x=>h.get? a=some (PySem.W.methodObj (.ref f) (.ref x))
 |.ext φ=>φ h/\(∃o,h.get? a=some o)/\∀h1 h2:Heap,φ h1->(∀o,h1.get? a=some o->h2.get? a=some o)->φ h2
def HOk(H:Hp)(h:Heap):Prop:=∀a o,H a=some o->eN P w H h a o
end
variable{P:ZI}{H H':Hp}{h h':Heap}{a:Addr}{o:HO}
section
variable{w:Zk}
def eN.lt(x:eN P w H h a o):a<h.objs.size:=by
 cases o with
 |lst xs=>obtain⟨_,_,_,_,e⟩:=x;exact ZX e
 |tup xs=>obtain⟨_,_,_,p⟩:=x;exact p.lt
 |dK kvs=>obtain⟨_,_,_,_,o,_,_,e,_⟩:=x;exact ZX e
 |dT kvs=>obtain⟨_,_,_,_,o,_,_,e,_⟩:=x;exact ZX e
 |set S n=>obtain⟨o,_,_,_,e,_⟩:=x;exact ZX e
 |ins C dx fs=>obtain⟨_,_,_,e,_⟩:=x;exact ZX e
 |own y=>obtain⟨_,e⟩:=x;exact ZX e
 |xd fs=>obtain⟨_,⟨_,_,_,e,_⟩,_⟩:=x;exact ZX e
 |rng lo hi=>obtain⟨_,_,_,e⟩:=x;exact ZX e
 |frz ob u=>obtain⟨e,_⟩:=x;exact ZX e
 |tbl ps=>exact ZX (show h.get? a=some _ from x)
 |met f y=>exact ZX (show h.get? a=some _ from x)
 |ext φ=>obtain⟨_,⟨_,e⟩,_⟩:=x;exact ZX e
def Paired.mapP{α β:Type}{F G:α->β->Prop}:∀{l₁:List α} {l₂:List β},Paired F l₁ l₂->(∀a b,F a b->G a b)->Paired G l₁ l₂
 |_,_,.nil,_=>.nil
 |_,_,.cons r t,f=>.cons (f _ _ r) (Paired.mapP t f)
def eN.stay(x:eN P w H h a o)(k:∀b u,(b=a\/H b=some (.own a))->h.get? b=some u->h'.get? b=some u)
  (ho:∀b,H b=some (.own a)->H' b=some (.own a)) (ht:∀b xs,H b=some (.tup xs)->H' b=some (.tup xs)):eN P w H' h' a o:=by
 induction o with
 |lst xs=>obtain⟨z,its,n,r,e⟩:=x;exact⟨z,its,n,r,k _ _ (.inl rfl) e⟩
 |tup xs=>obtain⟨z,its,r,ob,e,c⟩:=x;exact⟨z,its,r,ob,k _ _ (.inl rfl) e,c⟩
 |dK kvs=>obtain⟨z,y,vs,r,ob,es,ep,e,c⟩:=x;exact⟨z,y,vs,r,ob,es,ep,k _ _ (.inl rfl) e,c⟩
 |dT kvs=>
  obtain⟨z,y,xs,r,ob,es,ep,e,c⟩:=x;exact⟨z,y,xs,Paired.mapP r fun p q z=>⟨z.1,ht _ _ z.2.1,z.2.2⟩,ob,es,ep,k _ _ (.inl rfl) e,c⟩
 |set S n=>obtain⟨ob,es,ep,t,e,c⟩:=x;exact⟨ob,es,ep,t,k _ _ (.inl rfl) e,c⟩
 |ins C dx fs=>
  obtain⟨d,z,ne,e,mA,⟨od,es,ep,e2,c⟩,r⟩:=x;exact⟨ho _ d,z,ne,k _ _ (.inl rfl) e,mA,⟨od,es,ep,k _ _ (.inr d) e2,c⟩,r⟩
 |own y=>obtain⟨ob,e⟩:=x;exact⟨ob,k _ _ (.inl rfl) e⟩
 |xd fs=>obtain⟨mA,⟨od,es,ep,e,c⟩,r⟩:=x;exact⟨mA,⟨od,es,ep,k _ _ (.inl rfl) e,c⟩,r⟩
 |rng lo hi=>obtain⟨t,u,v,e⟩:=x;exact⟨t,u,v,k _ _ (.inl rfl) e⟩
 |frz ob u ih=>obtain⟨e,q⟩:=x;exact⟨k _ _ (.inl rfl) e,ih q⟩
 |tbl ps=>
  have e:h.get? a=some { cls:=.none,data:=.fields ps }:=x;show h'.get? a=some { cls:=.none,data:=.fields ps };exact k a _ (.inl rfl) e
 |met f y=>
  have e:h.get? a=some (PySem.W.methodObj (.ref f) (.ref y)):=x;show h'.get? a=some (PySem.W.methodObj (.ref f) (.ref y));exact k a _ (.inl rfl) e
 |ext φ=>obtain⟨p,⟨o,e⟩,st⟩:=x;exact⟨st _ _ p fun o q=>k _ _ (.inl rfl) q,⟨o,k _ _ (.inl rfl) e⟩,st⟩
def HOk.lt(x:HOk P w H h)(e:H a=some o):a<h.objs.size:=(x a o e).lt
def HOk.fresh(x:HOk P w H h)(e:h.objs.size<=a):H a=none:=by
 cases q:H a with
 |none=>rfl
 |some u=>exact absurd (ZE (x.lt q) e) (XM _)
def HOk.kept(x:HOk P w H h)(k:∀b u,h.get? b=some u->h'.get? b=some u):HOk P w H h':=fun a o e=>
 (x a o e).stay (fun b u _ q=>k b u q) (fun _ q=>q) fun _ _ q=>q
def HOk.laid(x:HOk P w H h)(k:∀b u,h.get? b=some u->h'.get? b=some u)(hp:h.objs.size<=a)(new:eN P w (upd H a o) h' a o):HOk P w (upd H a o) h':=fun b u e=>by
 have hn:=x.fresh hp;by_cases hb:b=a;subst hb;rw[aJ]at e;cases e;exact new;rw[aM hb]at e;exact(x b u e).stay (fun c v _ q=>k c v q) (fun c q=>by rw[aM (dW q hn)];exact q) fun c xs q=>by rw[aM (dW q hn)];exact q
end
def Rd(H:Hp)(a:Addr)(u:HO):Prop:=H a=some u\/∃o,H a=some (.frz o u)
def Rd.ok{P:ZI}{w:Zk}{H:Hp}{h:Heap}{a:Addr}{u:HO}(r:Rd H a u)(x:HOk P w H h):eN P w H h a u:=by
 rcases r with r|⟨o,r⟩;exact x a u r;obtain⟨_,q⟩:=x a _ r;exact q
def Mut:Option HO->Prop
 |some (.lst _)=>True
 |some (.dK _)=>True
 |some (.dT _)=>True
 |some (.set _ _)=>True
 |some (.ins _ _ _)=>True
 |some (.ext _)=>True
 |_=>False
variable{x e:Addr}
section
variable{w:Zk}{o':HO}
def HOk.write(ok:HOk P w H h)(mu:Mut (H x))(he:e=x\/H e=some (.own x))(k:∀b u,b≠e->h.get? b=some u->h'.get? b=some u)(heo:∃u,h'.get? e=some u)
  (new:eN P w (upd H x o') h' x o'):HOk P w (upd H x o') h':=fun b u q=>by
 have nown:∀c y,H c=some (.own y)->c≠x:=fun c y r z=>by subst z;rw[r]at mu;exact mu
 have ntup:∀c xs,H c=some (.tup xs)->c≠x:=fun c xs r z=>by subst z;rw[r]at mu;exact mu
 by_cases hb:b=x;subst hb;rw[aJ]at q;cases q;exact new;rw[aM hb]at q;by_cases hbe:b=e;have q':H b=some (.own x):=by
  rcases he with z|z;exact absurd (hbe.trans z) hb;rw[hbe];exact z
 rw[q]at q';cases q';obtain⟨v,hv⟩:=heo;exact⟨v,by rw[hbe];exact hv⟩;refine(ok b u q).stay (fun c v hc r=>k c v ?_ r) (fun c r=>by rw[aM (nown c b r)];exact r) fun c xs r=>by rw[aM (ntup c xs r)];exact r
 rcases hc with rfl|hc;exact hbe;rintro rfl;rcases he with z|z;exact nown c b hc z;rw[hc]at z;cases z;exact hb rfl
end
structure Un(fs ex:List Addr)(H H':Hp)(h h':Heap):Prop where
 keep:∀b o,h.get? b=some o->H b=none->b∉fs->b∉ex->h'.get? b=some o
 slot:∀b o,h.get? b=some o->H b=none->b∈fs->b∉ex->∃sl,h'.get? b=some { o with slots:=sl }
 free:∀b o,h.get? b=some o->H b=none->b∉ex->H' b=none
 there:∀b o,h.get? b=some o->b∉ex->∃o',h'.get? b=some o'
 tups:∀b xs,H b=some (.tup xs)->H' b=some (.tup xs)
 frzs:∀b o u,H b=some (.frz o u)->H' b=some (.frz o u)
 tbls:∀b ps,H b=some (.tbl ps)->∃more,H' b=some (.tbl (ps++more))
section
variable{fs ex:List Addr}{H1:Hp}{h1:Heap}
def Un.any(u:Un fs ex H H1 h h1){b:Addr}{ob:Obj}(q:h.get? b=some ob)(n:H b=none)(hx:b∉ex):∃sl,h1.get? b=some { ob with slots:=sl }:=by
 by_cases hb:b∈fs;exact u.slot b ob q n hb hx;exact⟨ob.slots,u.keep b ob q n hb hx⟩
def Un.kept(k:∀b u,h.get? b=some u->h'.get? b=some u):Un fs ex H H h h':=
 ⟨fun b ob q _ _ _=>k b ob q,fun b ob q _ _ _=>⟨ob.slots,k b ob q⟩,fun _ _ _ n _=>n,fun b ob q _=>⟨ob,k b ob q⟩,fun _ _ q=>q,fun _ _ _ q=>q,fun _ ps q=>⟨#[],by rw[q];simp⟩⟩
def Un.refl:Un fs ex H H h h:=Un.kept fun _ _ q=>q
def Un.laid(k:∀b u,h.get? b=some u->h'.get? b=some u)(hp:h.objs.size<=a)(hn:H a=none):Un fs ex H (upd H a o) h h' where
 keep:=fun b u q _ _ _=>k b u q
 slot:=fun b u q _ _ _=>⟨u.slots,k b u q⟩
 free:=fun b u q n _=>by rw[aM (Zq (ZE (ZX q) hp))];exact n
 there:=fun b u q _=>⟨u,k b u q⟩
 tups:=fun b xs q=>by rw[aM (dW q hn)];exact q
 frzs:=fun b u xs q=>by rw[aM (dW q hn)];exact q
 tbls:=fun b ps q=>⟨#[],by rw[aM (dW q hn),q];simp⟩
def Un.write(mu:Mut (H x))(he:e=x\/H e=some (.own x))(k:∀b u,b≠e->h.get? b=some u->h'.get? b=some u)(heo:∃u,h'.get? e=some u):Un fs ex H (upd H x o) h h':=by
 have hx:∀b,H b=none->b≠x:=fun b n z=>by subst z;rw[n]at mu;exact mu
 have hb:∀b,H b=none->b≠e:=fun b n z=>by
  subst z;rcases he with r|r;exact hx b n r;rw[n]at r;cases r
 have hm:∀b u,H b=some u->¬Mut (some u)->b≠x:=fun b u q nm z=>by subst z;rw[q]at mu;exact nm mu
 refine⟨fun b u q n _ _=>k b u (hb b n) q,fun b u q n _ _=>⟨u.slots,k b u (hb b n) q⟩,fun b u q n _=>by rw[aM (hx b n)];exact n,fun b u q _=>?_,
  fun b xs q=>by rw[aM (hm b _ q fun z=>z)];exact q,fun b u xs q=>by rw[aM (hm b _ q fun z=>z)];exact q,fun b ps q=>⟨#[],by rw[aM (hm b _ q fun z=>z),q];simp⟩⟩
 by_cases hbe:b=e;subst hbe;exact heo;exact⟨u,k b u hbe q⟩
end
def trk(h:Heap)(H:Hp):List Addr:=(ZF h.objs.size).filter fun a=>(H a).isSome
def Eh(h:Heap)(H:Hp):Heap:=PySem.W.hideAll h (trk h H)
def A8(h:Heap)(H:Hp):(Eh h H).objs.size=h.objs.size:=PySem.W.hideAll_size _ _
def rn{h:Heap}{H:Hp}{b:Addr}{o:Obj}(e:h.get? b=some o)(n:H b=none):(Eh h H).get? b=some o:=
 PySem.W.hideAll_get _ e fun hm=>by
  have q:(H b).isSome=true:=(List.mem_filter.mp hm).2;rw[n]at q;simp at q
def HU{h:Heap}{H:Hp}{b:Addr}{o:Obj}(e:(Eh h H).get? b=some o):h.get? b=some o/\H b=none:=by
 have e':h.get? b=some o:=PySem.W.of_hideAll (trk h H) e;refine⟨e',?_⟩;cases q:H b with
 |none=>rfl
 |some x=>
  have hm:b∈trk h H:=List.mem_filter.mpr ⟨Zs.mpr (ZX e'),by simp[q]⟩;have z:(Eh h H).get? b=none:=PySem.W.hideAll_none (trk h H) hm;rw[z]at e;cases e
structure Mod(K:Q3)(mg:Str->Option Q4)(base:Heap):Prop where
 kin:K.In base
 glob:base.Ns mainGlobals mg
 blt:∃mb,base.Ns builtinsNs mb/\∀x:Str,x≠"__name__"->mb x=Zn x
 nolimit:base.NoLimit
structure Cx where
 prog:ZI
 w:Zk
 K:Q3
 mg:Str->Option Q4
 base:Heap
 A:Zy
 N:List Str
 s₀:Q5
 H₀:Hp
 env:Env
 outer:List Env
 stack:List Env
 ex:List Addr
 fn:Str->Bool
 calm:Bool
 pn:List (Addr×Obj)
 xe:Q4->Q5->Prop
noncomputable def frs(l:List Env):List Addr:=l.filterMap (·.frame)
abbrev Cx.fs(X:Cx):List Addr:=frs X.outer
def Vis(sc:Xz)(x:Str):Prop:=sc.names.lookup x=some .local\/sc.names.lookup x=some .cell\/sc.names.lookup x=some .free
def Loc(sc:Xz)(x:Str):Prop:=sc.names.lookup x=some .local\/sc.names.lookup x=some .cell
def Q1(env:Env)(h:Heap)(m:Str->Option Q4)(x:Str)(u:Q4):Prop:=
 (env.kindOf x=some .local/\m x=some u)\/((env.kindOf x=some .cell\/env.kindOf x=some .free)/\∃c,env.cells.lookup x=some c/\h.IsCell c (some u))
structure Cx.Ok(X:Cx):Prop where
 mod:Mod X.K X.mg X.base
 kind:X.env.scope.kind=.function
 glob:X.env.globals=mainGlobals
 blt:X.env.builtins=builtinsNs
 above:X.s₀.heap.objs.size<=X.env.locals
 inj:∀x y c,X.env.cells.lookup x=some c->X.env.cells.lookup y=some c->x=y
 has:∀x,(X.env.kindOf x=some .cell\/X.env.kindOf x=some .free)->∃c,X.env.cells.lookup x=some c
 cab:∀x c,X.fn x=true->X.env.cells.lookup x=some c->X.s₀.heap.objs.size<=c
 hd:X.calm=true->X.A.handled=none
 frames:X.A.frames=some X.stack
 stk:X.stack=X.outer\/(X.stack=X.env::X.outer/\X.env.frame=some X.env.locals)
 exf:∀b∈X.ex,b≠X.env.locals/\∀x c,X.env.cells.lookup x=some c->c≠b
 bs:∀b o,X.base.get? b=some o->X.s₀.heap.get? b=some o/\X.H₀ b=none
 bsz:X.base.objs.size<=X.s₀.heap.objs.size
 noex:∀b o,X.base.get? b=some o->b∉X.ex
 exfs:∀b∈X.ex,b∉X.fs
 funs:X.s₀.heap.FunFrames X.base X.outer
 frf:∀b∈X.fs,X.H₀ b=none
structure Inv(X:Cx)(pins:List (Addr×Obj))(σ:List (Option V))(H:Hp)(s:Q5):Prop where
 ok:X.Ok
 os:s.os=X.s₀.os
 bare:AllBare s.gens
 base:Un X.fs X.ex X.H₀ H X.s₀.heap s.heap
 loc:∃m,s.heap.Ns X.env.locals m/\∀(i:Nat) (x:Str) (v:V),X.N[i]?=some x->σ[i]?=some (some v)->Vis X.env.scope x->∃u,dk v u/\Q1 X.env s.heap m x u
 cell:∀x c,X.env.cells.lookup x=some c->∃v,s.heap.IsCell c v
 free:H X.env.locals=none
 freeC:∀x c,X.env.cells.lookup x=some c->H c=none
 pin:∀p∈X.pn++pins,s.heap.get? p.1=some p.2/\H p.1=none/\p.1≠X.env.locals/\p.1∉X.fs/\∀v,p.2.data≠.cell v
 hok:HOk X.prog X.w H s.heap
 len:σ.length=X.N.length
variable{X:Cx}{pins:List (Addr×Obj)}{s:Q5}
section
variable{σ:List (Option V)}
def Cx.Ok.nofr(ok:X.Ok){b:Addr}{o:Obj}(e:X.base.get? b=some o):b∉X.fs:=fun hb=>by
 have:=(ok.funs.mem hb).1;rw[e]at this;cases this
def Inv.bs(I:Inv X pins σ H s):∀b o,X.base.get? b=some o->s.heap.get? b=some o/\H b=none:=fun b o e=>
 ⟨I.base.keep b o (I.ok.bs b o e).1 (I.ok.bs b o e).2 (I.ok.nofr e) (I.ok.noex b o e),I.base.free b o (I.ok.bs b o e).1 (I.ok.bs b o e).2 (I.ok.noex b o e)⟩
def Inv.bk(I:Inv X pins σ H s):∀b o,X.base.get? b=some o->s.heap.get? b=some o:=fun b o e=>(I.bs b o e).1
def Inv.mod(I:Inv X pins σ H s):Mod X.K X.mg X.base:=I.ok.mod
def Inv.kIn(I:Inv X pins σ H s):X.K.In s.heap:=I.ok.mod.kin.keeps I.bk
def Inv.lt(I:Inv X pins σ H s):X.env.locals<s.heap.objs.size:=let ⟨_,hn,_⟩:=I.loc;hn.lt
def Inv.sz(I:Inv X pins σ H s):X.s₀.heap.objs.size<=s.heap.objs.size:=Zw I.ok.above (YU I.lt)
def Inv.nofs(I:Inv X pins σ H s){a:Addr}(h:s.heap.objs.size<=a):a∉X.fs:=fun hb=>by
 obtain⟨_,o,ho,_⟩:=I.ok.funs.mem hb;exact absurd (ZE (ZX ho) (Zw I.sz h)) (XM _)
def Inv.cne(I:Inv X pins σ H s):∀x c,X.env.cells.lookup x=some c->c≠X.env.locals:=fun x c e z=>by
 obtain⟨v,o,ho,hd⟩:=I.cell x c e;obtain⟨m,⟨o',es,ep,ho',hd',_⟩,_⟩:=I.loc;rw[z,ho']at ho;cases ho;rw[hd']at hd;cases hd
def Inv.funs(I:Inv X pins σ H s):s.heap.FunFrames X.base X.outer:=by
 have all:∀(l:List Env),(∀b∈frs l,b∈X.fs)->X.s₀.heap.FunFrames X.base l->s.heap.FunFrames X.base l:=by
  intro l;induction l with
  |nil=>intro _ _;trivial
  |cons env r ih=>
   intro hs hl;obtain⟨hk,⟨L,o,hf,hn,ho,hd⟩,hr⟩:=hl;have hL:L∈X.fs:=hs L (by unfold frs;rw[List.filterMap_cons,hf];exact ZG);obtain⟨sl,e⟩:=I.base.slot L o ho (I.ok.frf L hL) hL fun z=>I.ok.exfs L z hL;exact⟨hk,⟨L,_,hf,hn,e,hd⟩,ih (fun b hb=>hs b (by unfold frs;rw[List.filterMap_cons,hf];exact ZJ _ hb)) hr⟩
 exact all X.outer (fun _ hb=>hb) I.ok.funs
def Inv.stack(I:Inv X pins σ H s):s.heap.FunFrames X.base X.stack:=by
 rcases I.ok.stk with e|⟨e,hf⟩;rw[e];exact I.funs;rw[e];obtain⟨m,hn,_⟩:=I.loc;refine .cons (by rw[I.ok.kind];decide) hf hn ?_ I.funs;exact Heap.get?_none_of_le (Zw I.ok.bsz I.ok.above)
def Inv.stkSub(I:Inv X pins σ H s):∀b∈frs X.stack,b∈X.env.locals::X.fs:=fun b hb=>by
 rcases I.ok.stk with e|⟨e,hf⟩;rw[e]at hb;exact ZJ _ hb;rw[e]at hb;unfold frs at hb;rw[List.filterMap_cons,hf]at hb;exact hb
def Inv.stkFree(I:Inv X pins σ H s):∀b∈frs X.stack,H b=none:=fun b hb=>by
 rcases ZD.mp (I.stkSub b hb)with e|hb;rw[e];exact I.free;obtain⟨_,o,ho,_⟩:=I.ok.funs.mem hb;exact I.base.free b o ho (I.ok.frf b hb) fun z=>I.ok.exfs b z hb
def Inv.step{g':Array GenState}{t':Nat}{d':Drawn}{ch:List Addr}(I:Inv X pins σ H s)
  (hch:∀b∈ch,(b∈X.ex\/X.s₀.heap.objs.size<=b)/\b≠X.env.locals/\(∀x c,X.env.cells.lookup x=some c->c≠b)/\∀p∈X.pn++pins,p.1≠b)
  (keep:∀b o,b≠X.env.locals->b∉X.fs->b∉ch->s.heap.get? b=some o->H b=none->h'.get? b=some o)
  (slot:∀b o,b≠X.env.locals->b∈X.fs->b∉ch->s.heap.get? b=some o->H b=none->∃sl,h'.get? b=some { o with slots:=sl }) (free:∀b o,b∉ch->s.heap.get? b=some o->H b=none->H' b=none)
  (there:∀b o,b∉ch->s.heap.get? b=some o->∃o',h'.get? b=some o')
  (tups:∀b xs,H b=some (.tup xs)->H' b=some (.tup xs)) (frzs:∀b o u,H b=some (.frz o u)->H' b=some (.frz o u)) (tbls:∀b ps,H b=some (.tbl ps)->∃more,H' b=some (.tbl (ps++more)))
  (ns:∀m,s.heap.Ns X.env.locals m->h'.Ns X.env.locals m) (hok:HOk X.prog X.w H' h') (hg:AllBare g') :
  Inv X pins σ H' { s with heap:=h',gens:=g',drawn:=d',toks:=t' }:=by
 have neL:∀b o,X.s₀.heap.get? b=some o->b≠X.env.locals:=fun b o e=>Zq (ZE (ZX e) I.ok.above);have neC:∀b o,X.s₀.heap.get? b=some o->b∉X.ex->b∉ch:=fun b o e hx hb=>by
  rcases(hch b hb).1 with z|z;exact hx z;exact absurd (ZE (ZX e) z) (XM _)
 have cellK:∀x c,X.env.cells.lookup x=some c->∀v,s.heap.IsCell c v->h'.IsCell c v:=fun x c e v ⟨o,ho,hd⟩=>by
  have nch:c∉ch:=fun z=>(hch c z).2.2.1 x c e rfl;by_cases hc:c∈X.fs;obtain⟨sl,q⟩:=slot c o (I.cne x c e) hc nch ho (I.freeC x c e);exact⟨_,q,hd⟩;exact⟨o,keep c o (I.cne x c e) hc nch ho (I.freeC x c e),hd⟩
 refine⟨I.ok,I.os,hg,⟨fun b o e n hb hx=>?_,fun b o e n hb hx=>?_,fun b o e n hx=>?_,fun b o e hx=>?_,fun b xs e=>tups b xs (I.base.tups b xs e),fun b o xs e=>frzs b o xs (I.base.frzs b o xs e),fun b ps e=>?_⟩,?_,fun x c e=>?_,?_,fun x c e=>?_,fun p hp=>?_,hok,I.len⟩;exact keep b o (neL b o e) hb (neC b o e hx) (I.base.keep b o e n hb hx) (I.base.free b o e n hx);obtain⟨sl,e1⟩:=I.base.slot b o e n hb hx;obtain⟨sl',e2⟩:=slot b _ (neL b o e) hb (neC b o e hx) e1 (I.base.free b o e n hx);exact⟨sl',e2⟩;obtain⟨o',e1⟩:=I.base.there b o e hx;exact free b o' (neC b o e hx) e1 (I.base.free b o e n hx);obtain⟨o',e1⟩:=I.base.there b o e hx;exact there b o' (neC b o e hx) e1;obtain⟨m1,e1⟩:=I.base.tbls b ps e;obtain⟨m2,e2⟩:=tbls b _ e1;exact⟨m1++m2,by rw[e2,Array.append_assoc]⟩;obtain⟨m,hn,hl⟩:=I.loc;refine⟨m,ns m hn,fun i x v e1 e2 e3=>?_⟩;obtain⟨u,r,l⟩:=hl i x v e1 e2 e3;refine⟨u,r,?_⟩;rcases l with l|⟨k,c,e,z⟩;exact .inl l;exact .inr ⟨k,c,e,cellK x c e _ z⟩;obtain⟨v,z⟩:=I.cell x c e;exact⟨v,cellK x c e v z⟩;obtain⟨m,⟨o,_,_,ho,_⟩,_⟩:=I.loc;exact free _ o (fun z=>(hch _ z).2.1 rfl) ho I.free;obtain⟨v,o,ho,hd⟩:=I.cell x c e;exact free c o (fun z=>(hch c z).2.2.1 x c e rfl) ho (I.freeC x c e);obtain⟨e,n,ne,nf,d⟩:=I.pin p hp;have nch:p.1∉ch:=fun z=>(hch p.1 z).2.2.2 p hp rfl;exact⟨keep p.1 p.2 ne nf nch e n,free p.1 p.2 nch e n,ne,nf,d⟩
def Inv.un{t':Nat}(I:Inv X pins σ H s)(u:Un X.fs [] H H' s.heap h')(hok:HOk X.prog X.w H' h'):Inv X pins σ H' { s with heap:=h',toks:=t' }:=by
 obtain⟨m,⟨o,es,ep,ho,r⟩,_⟩:=id I.loc;obtain⟨sl,hL⟩:=u.any ho I.free nofun;exact I.step (g':=s.gens) (d':=s.drawn) (ch:=[]) (fun _ z=>nomatch z) (fun b o _ hb _ e n=>u.keep b o e n hb nofun) (fun b o _ hb _ e n=>u.slot b o e n hb nofun) (fun b o _ e n=>u.free b o e n nofun) (fun b o _ e=>u.there b o e nofun) u.tups u.frzs u.tbls (fun m' hm=>by
  obtain⟨o',es',ep',ho',r'⟩:=hm;rw[ho]at ho';cases ho';exact⟨_,es',ep',hL,r'⟩) hok I.bare
def Inv.call{g':Array GenState}{t':Nat}{d':Drawn}{ch:List Addr}(I:Inv X pins σ H s)(u:Un (frs X.stack) ch H H' s.heap h')(hok:HOk X.prog X.w H' h')(hg:AllBare g')
  (hch:∀b∈ch,(b∈X.ex\/X.s₀.heap.objs.size<=b)/\b≠X.env.locals/\(∀x c,X.env.cells.lookup x=some c->c≠b)/\∀p∈X.pn++pins,p.1≠b) :
  Inv X pins σ H' { s with heap:=h',gens:=g',drawn:=d',toks:=t' }:=by
 obtain⟨m,⟨o,es,ep,ho,r⟩,_⟩:=id I.loc;obtain⟨sl,hL⟩:=u.any ho I.free fun z=>(hch _ z).2.1 rfl;exact I.step (ch:=ch) hch (fun b o hL hb hc e n=>u.keep b o e n (fun z=>(ZD.mp (I.stkSub b z)).elim hL hb) hc) (fun b o _ _ hc e n=>u.any e n hc) (fun b o hc e n=>u.free b o e n hc) (fun b o hc e=>u.there b o e hc) u.tups u.frzs u.tbls (fun m' hm=>by
  obtain⟨o',es',ep',ho',r'⟩:=hm;rw[ho]at ho';cases ho';exact⟨_,es',ep',hL,r'⟩) hok hg
def Inv.turned{t':Nat}{it:Addr}(I:Inv X pins σ H s)(k:∀b o,b≠it->s.heap.get? b=some o->h'.get? b=some o)(hn:H it=none)(hL:it≠X.env.locals)
  (h1:it∈X.ex\/X.s₀.heap.objs.size<=it) (h2:∀x c,X.env.cells.lookup x=some c->c≠it) (h3:∀p∈X.pn++pins,p.1≠it):Inv X pins σ H { s with heap:=h',toks:=t' }:=by
 have nit:∀b u,H b=some u->b≠it:=fun b u e z=>by rw[z,hn]at e;cases e
 refine I.step (g':=s.gens) (d':=s.drawn) (ch:=[it]) (fun b hb=>?_) (fun b o _ _ hc e _=>k b o (fun z=>hc (by simp[z])) e) (fun b o _ _ hc e _=>⟨o.slots,k b o (fun z=>hc (by simp[z])) e⟩) (fun _ _ _ _ n=>n)
  (fun b o hc e=>⟨o,k b o (fun z=>hc (by simp[z])) e⟩) (fun _ _ e=>e) (fun _ _ _ e=>e) (fun b ps e=>⟨#[],by rw[e];simp⟩) (fun m hm=>?_) (fun b u e=>?_) I.bare
 have e:b=it:=by simpa using hb
 subst e;exact⟨h1,hL,h2,h3⟩;obtain⟨o,es,ep,ho,r⟩:=hm;exact⟨o,es,ep,k _ o (Ne.symm hL) ho,r⟩;refine(I.hok b u e).stay (fun c v hc q=>k c v ?_ q) (fun _ q=>q) fun _ _ q=>q;rcases hc with z|z;rw[z];exact nit b u e;exact nit c _ z
def Inv.tok(I:Inv X pins σ H s)(t:Nat):Inv X pins σ H { s with toks:=t }:=I.un (h':=s.heap) (t':=t) Un.refl I.hok
def Inv.kept{t':Nat}(I:Inv X pins σ H s)(k:∀b u,s.heap.get? b=some u->h'.get? b=some u):Inv X pins σ H { s with heap:=h',toks:=t' }:=I.un (Un.kept k) (I.hok.kept k)
def Inv.laid{a:Addr}{o:HO}{t':Nat}(I:Inv X pins σ H s)(k:∀b u,s.heap.get? b=some u->h'.get? b=some u)(hp:s.heap.objs.size<=a)(new:eN X.prog X.w (upd H a o) h' a o) :
  Inv X pins σ (upd H a o) { s with heap:=h',toks:=t' }:=I.un (Un.laid k hp (I.hok.fresh hp)) (I.hok.laid k hp new)
def Inv.write{x e:Addr}{o:HO}{t':Nat}(I:Inv X pins σ H s)(mu:Mut (H x))(he:e=x\/H e=some (.own x))(k:∀b u,b≠e->s.heap.get? b=some u->h'.get? b=some u)(heo:∃u,h'.get? e=some u)
  (new:eN X.prog X.w (upd H x o) h' x o):Inv X pins σ (upd H x o) { s with heap:=h',toks:=t' }:=I.un (Un.write mu he k heo) (I.hok.write mu he k heo new)
def Inv.pins_of{pins':List (Addr×Obj)}(I:Inv X pins σ H s)(h:∀p∈pins',s.heap.get? p.1=some p.2/\H p.1=none/\p.1≠X.env.locals/\p.1∉X.fs/\∀v,p.2.data≠.cell v):Inv X pins' σ H s:=
 ⟨I.ok,I.os,I.bare,I.base,I.loc,I.cell,I.free,I.freeC,fun p hp=>(Zz.mp hp).elim (fun z=>I.pin p (List.mem_append_left _ z)) (h p),I.hok,I.len⟩
def wX{N:List Str}(hN:N.Nodup){i j:Nat}{x:Str}(a:N[i]?=some x)(b:N[j]?=some x):i=j:=by
 obtain⟨h1,e1⟩:=Q6.mp a;obtain⟨h2,e2⟩:=Q6.mp b;exact(List.getElem_inj hN).mp (e1.trans e2.symm)
def tj{M:Model}{A:Zy}{E:Q4->Q5->Prop}{i:Nat}{x:Str}{v:V}{u:Q4}{Q:Unit->Q5->Prop}(I:Inv X pins σ H s)(hN:X.N.Nodup)(hi:X.N[i]?=some x)(hx:Loc X.env.scope x)(r:dk v u)
  (h:∀s',Inv X pins (σ.set i (some v)) H s'->(∃a,Heap.SameBut a s.heap s'.heap/\(a=X.env.locals\/X.env.cells.lookup x=some a))->Q () s') (hf:X.fn x=true\/X.env.scope.names.lookup x=some .local:=by first|exact .inl rfl|exact .inr rfl|assumption):wpAny M A (storeName X.env x u) Q E s:=by
 obtain⟨m,hn,hl⟩:=id I.loc;have hcls:(X.env.scope.kind == .class||(X.env.scope.kind == .module&&X.env.locals !=X.env.globals))=false:=by rw[I.ok.kind];rfl
 have hiσ:i < σ.length:=by rw[I.len];exact(Q6.mp hi).1
 have cne:=I.cne;have tracked:∀{a:Addr} {h':Heap},(∃o,s.heap.get? a=some o/\H a=none)->Heap.SameBut a s.heap h'->HOk X.prog X.w H h':=fun{a h'} ha hs b ob e=>by
  obtain⟨_,_,hfree⟩:=ha;refine(I.hok b ob e).stay (fun c w' hc q=>(hs.2 c ?_).trans q) (fun _ q=>q) fun _ _ q=>q;rintro rfl;rcases hc with rfl|hc;rw[hfree]at e;cases e;rw[hfree]at hc;cases hc
 rcases hx with hk|hk;refine wpAny_storeName_local hk hn (fun h' hn' hs=>?_) hcls;obtain⟨oL,_,_,hoL,_⟩:=id hn;refine h _ ⟨I.ok,I.os,I.bare,⟨fun b o e n hb hx=>?_,fun b o e n hb hx=>?_,I.base.free,fun b o e hx=>?_,I.base.tups,I.base.frzs,I.base.tbls⟩,⟨_,hn',fun j y v' e1 e2 e3=>?_⟩,fun y c e=>?_,I.free,I.freeC,fun p hp=>?_,tracked ⟨oL,hoL,I.free⟩ hs,by simpa using I.len⟩ ⟨_,hs,.inl rfl⟩;exact(hs.2 b (Zq (ZE (ZX e) I.ok.above))).trans (I.base.keep b o e n hb hx);obtain⟨sl,e1⟩:=I.base.slot b o e n hb hx;exact⟨sl,(hs.2 b (Zq (ZE (ZX e) I.ok.above))).trans e1⟩;obtain⟨o',e1⟩:=I.base.there b o e hx;exact⟨o',(hs.2 b (Zq (ZE (ZX e) I.ok.above))).trans e1⟩;by_cases hj:j=i;subst hj;rw[hi]at e1;cases e1;rw[Ze hiσ]at e2;cases e2;exact⟨u,r,.inl ⟨hk,nofun⟩⟩;rw[ZS (Ne.symm hj)]at e2;obtain⟨u',r',q⟩:=hl j y v' e1 e2 e3;refine⟨u',r',?_⟩;rcases q with⟨k,e⟩|⟨k,c,e,z⟩;refine .inl ⟨k,?_⟩;have:y≠x:=fun e=>hj (wX hN e1 (e▸hi));simp[this,e];exact .inr ⟨k,c,e,z.sameBut hs (cne y c e)⟩;obtain⟨w',z⟩:=I.cell y c e;exact⟨w',z.sameBut hs (cne y c e)⟩;obtain⟨e,n,ne,nf,d⟩:=I.pin p hp;exact⟨(hs.2 p.1 ne).trans e,n,ne,nf,d⟩;have hfn:X.fn x=true:=by
  rcases hf with z|z;exact z;rw[z]at hk;cases hk
 obtain⟨c,hc⟩:=I.ok.has x (.inl hk);obtain⟨w',z⟩:=I.cell x c hc;refine wpAny_storeName_cell I.ok.kind hk hc z (fun h' hc' hs=>?_);obtain⟨oc,hoc,hocd⟩:=id z;refine h { s with heap:=h' } ⟨I.ok,I.os,I.bare,⟨fun b o e n hb hx=>?_,fun b o e n hb hx=>?_,I.base.free,fun b o e hx=>?_,I.base.tups,I.base.frzs,I.base.tbls⟩,⟨m,hn.sameBut hs (Ne.symm (cne x c hc)),fun j y v' e1 e2 e3=>?_⟩,fun y c' e=>?_,I.free,I.freeC,fun p hp=>?_,tracked ⟨oc,hoc,I.freeC x c hc⟩ hs,by simpa using I.len⟩ ⟨c,hs,.inr hc⟩;exact(hs.2 b (Zq (ZE (ZX e) (I.ok.cab x c hfn hc)))).trans (I.base.keep b o e n hb hx);obtain⟨sl,e1⟩:=I.base.slot b o e n hb hx;exact⟨sl,(hs.2 b (Zq (ZE (ZX e) (I.ok.cab x c hfn hc)))).trans e1⟩;obtain⟨o',e1⟩:=I.base.there b o e hx;exact⟨o',(hs.2 b (Zq (ZE (ZX e) (I.ok.cab x c hfn hc)))).trans e1⟩;by_cases hj:j=i;subst hj;rw[hi]at e1;cases e1;rw[Ze hiσ]at e2;cases e2;exact⟨u,r,.inr ⟨.inl hk,c,hc,hc'⟩⟩;rw[ZS (Ne.symm hj)]at e2;obtain⟨u',r',q⟩:=hl j y v' e1 e2 e3;refine⟨u',r',?_⟩;rcases q with q|⟨k,c',e,z'⟩;exact .inl q;refine .inr ⟨k,c',e,z'.sameBut hs ?_⟩;rintro rfl;exact hj (wX hN e1 (I.ok.inj _ _ _ e hc▸hi));by_cases hcc:c'=c;subst hcc;exact⟨_,hc'⟩;obtain⟨w2,z2⟩:=I.cell y c' e;exact⟨w2,z2.sameBut hs hcc⟩;obtain⟨e,n,ne,nf,d⟩:=I.pin p hp;refine⟨(hs.2 p.1 ?_).trans e,n,ne,nf,d⟩;intro q;rw[q,hoc]at e;have q':oc=p.2:=Yk e;exact d w' (by rw[<-q'];exact hocd)
def wK{M:Model}{A:Zy}{E:Q4->Q5->Prop}{i:Nat}{x:Str}{v:V}{u:Q4}{Q:Unit->Q5->Prop}(I:Inv X pins σ H s)(hN:X.N.Nodup)(hi:X.N[i]?=some x)(hx:Loc X.env.scope x)(r:dk v u)
  (h:∀s',Inv X pins (σ.set i (some v)) H s'->Q () s') (hf:X.fn x=true\/X.env.scope.names.lookup x=some .local:=by first|exact .inl rfl|exact .inr rfl|assumption):wpAny M A (storeName X.env x u) Q E s:=
 tj I hN hi hx r (fun s' I' _=>h s' I') hf
def Inv.call'{s':Q5}{ch:List Addr}(I:Inv X pins σ H s)(ho:s'.os=s.os)(u:Un (frs X.stack) ch H H' s.heap s'.heap)(hok:HOk X.prog X.w H' s'.heap)(hg:AllBare s'.gens)
  (hch:∀b∈ch,(b∈X.ex\/X.s₀.heap.objs.size<=b)/\b≠X.env.locals/\(∀x c,X.env.cells.lookup x=some c->c≠b)/\∀p∈X.pn++pins,p.1≠b):Inv X pins σ H' s':=by
 obtain⟨h',g',d',t',o'⟩:=s';have e:o'=s.os:=ho;subst e;exact I.call (g':=g') (t':=t') (d':=d') u hok hg hch
end
abbrev XK:=Q4->Option Addr->Hp->Prop
abbrev St:=List (Option V)
abbrev VK:=V->Hp->Prop
abbrev TE:=St->Hp->VK->Prop
abbrev TT:=St->Hp->(Bool->Hp->Prop)->Prop
abbrev TA:=St->Hp->(List V->Hp->Prop)->Prop
structure Cj where
 nx:St->Hp->Prop
 rt:VK
 bk:St->Hp->Prop:=fun _ _=>False
 ct:St->Hp->Prop:=fun _ _=>False
abbrev TS:=Cj->St->Hp->Prop
def EP(X:Cx)(pins:List (Addr×Obj))(σ:St)(Q:VK)(u:Q4)(s':Q5):Prop:=∃v H',Inv X pins σ H' s'/\dk v u/\Q v H'
def TP(X:Cx)(pins:List (Addr×Obj))(σ:St)(Q:Bool->Hp->Prop)(b:Bool)(s':Q5):Prop:=∃H',Inv X pins σ H' s'/\Q b H'
def AP(X:Cx)(pins:List (Addr×Obj))(σ:St)(Q:List V->Hp->Prop)(us:List Q4)(s':Q5):Prop:=∃vs H',Inv X pins σ H' s'/\cm vs us/\Q vs H'
def SP(X:Cx)(pins:List (Addr×Obj))(D:Cj)(f:Flow)(s':Q5):Prop:=
 match f with
 |.next=>∃σ' H',Inv X pins σ' H' s'/\D.nx σ' H'
 |.brk=>∃σ' H',Inv X pins σ' H' s'/\D.bk σ' H'
 |.cont=>∃σ' H',Inv X pins σ' H' s'/\D.ct σ' H'
 |.ret u=>∃v σ' H',Inv X pins σ' H' s'/\dk v u/\D.rt v H'
def PE(X:Cx)(e:ZR)(t:TE):Prop:=
 ∀(pins:List (Addr×Obj)) (s:Q5) (σ:St) (H:Hp) (Q:VK),Inv X pins σ H s->t σ H Q->wpAny (ZL X.prog X.w) X.A (eval e X.env) (EP X pins σ Q) X.xe s
def PT(X:Cx)(e:ZR)(t:TT):Prop:=
 ∀(pins:List (Addr×Obj)) (s:Q5) (σ:St) (H:Hp) (Q:Bool->Hp->Prop),Inv X pins σ H s->t σ H Q->wpAny (ZL X.prog X.w) X.A (isTrue e X.env (eval e X.env)) (TP X pins σ Q) X.xe s
def PW(X:Cx)(e:ZR)(t:TT):Prop:=
 ∀(whole:Sem Q4) (pins:List (Addr×Obj)) (s:Q5) (σ:St) (H:Hp) (Q:Bool->Hp->Prop),Inv X pins σ H s->t σ H Q->wpAny (ZL X.prog X.w) X.A (isTrue e X.env whole) (TP X pins σ Q) X.xe s
def PW.pt{X:Cx}{e:ZR}{t:TT}(h:PW X e t):PT X e t:=h _
def PA(X:Cx)(es:List ZR)(t:TA):Prop:=
 ∀(pos:Pos) (pins:List (Addr×Obj)) (s:Q5) (σ:St) (H:Hp) (Q:List V->Hp->Prop),Inv X pins σ H s->t σ H Q->wpAny (ZL X.prog X.w) X.A (spliced (Zi pos (Z9 es X.env))) (AP X pins σ Q) X.xe s
def PS(X:Cx)(st:Zv)(t:TS):Prop:=
 ∀(pins:List (Addr×Obj)) (s:Q5) (σ:St) (H:Hp) (D:Cj),Inv X pins σ H s->t D σ H->wpAny (ZL X.prog X.w) X.A (exec st X.env) (SP X pins D) X.xe s
def PSs(X:Cx)(st:List Zv)(t:TS):Prop:=
 ∀(pins:List (Addr×Obj)) (s:Q5) (σ:St) (H:Hp) (D:Cj),Inv X pins σ H s->t D σ H->wpAny (ZL X.prog X.w) X.A (execs st X.env) (SP X pins D) X.xe s
def thn{α:Type}{t:Sem α}{Q Q':α->Q5->Prop}{M:Model}{A:Zy}{E:Q4->Q5->Prop}{s:Q5}(h:wpAny M A t Q E s)(hQ:∀a s,Q a s->Q' a s):wpAny M A t Q' E s:=XX h hQ fun _ _ x=>x
variable{b:ZR}{ta tb:TE}{pos:Pos}
section
def MW(i:Nat):TE:=fun σ H Q=>∃v,σ[i]?=some (some v)/\Q v H
def tC(v:V):TE:=fun _ H Q=>Q v H
def K4{i:Nat}{x:Str}{pos:Pos}(hN:X.N[i]?=some x)(hv:Vis X.env.scope x)(hd:(x == ("__debug__":Str))=false:=by decide)(hcd:(x == ("__classdict__":Str))=false:=by decide):PE X (.Name x pos) (MW i):=by
 intro pins s σ H Q I h;obtain⟨v,e,h⟩:=h;obtain⟨m,hn,hl⟩:=I.loc;obtain⟨u,r,l⟩:=hl i x v hN e hv;have fin:EP X pins σ Q u s:=⟨v,H,I,r,h⟩;rcases l with⟨hk,hm⟩|⟨hk,c,hc,hcell⟩;exact wpAny_Name (wpAny_loadName_local I.ok.kind hk hn hm fin) hd;rcases hk with hk|hk;exact wpAny_Name (wpAny_loadName_cell I.ok.kind hk hc hcell fin) hd;exact wpAny_Name (wpAny_loadName_free I.ok.kind hk hc hcell fin hcd) hd
def Lb{i j pos}:PE X (.Constant (.int i) j pos) (tC (.int i)):=fun _ _ _ H _ I h=>wpAny_Constant_int ⟨.int i,H,I.tok _,⟨_,rfl⟩,h⟩
def OV{b j pos}:PE X (.Constant (.bool b) j pos) (tC (.bl b)):=fun _ _ _ H _ I h=>Constant_bool ⟨.bl b,H,I,rfl,h⟩
def K9{j pos}:PE X (.Constant .none j pos) (tC .non):=fun _ _ _ H _ I h=>Constant_none ⟨.non,H,I,rfl,h⟩
def K6{x j pos}:PE X (.Constant (.str x) j pos) (tC (.str x)):=fun _ _ _ H _ I h=>Calls.Constant_str ⟨.str x,H,I.tok _,⟨_,rfl⟩,h⟩
def Gl(X:Cx)(x:Str):Prop:=X.env.kindOf x=some .globalImplicit
def AG{E:Q4->Q5->Prop}{pins:List (Addr×Obj)}{s:Q5}{σ:St}{H:Hp}{x:Str}{u:Q4}{pos:Pos}{Q:Q4->Q5->Prop}(I:Inv X pins σ H s)(hg:Gl X x)(hm:X.mg x=some u)(h:Q u s)
  (hd:(x == ("__debug__":Str))=false:=by decide):wpAny (ZL X.prog X.w) X.A (eval (.Name x pos) X.env) Q E s:=
 Calls.Name_function_global I.ok.kind hg (Calls.loadGlobal_global (by rw[I.ok.glob];exact I.mod.glob.keeps I.bk) hm h) hd
def uc{E:Q4->Q5->Prop}{pins:List (Addr×Obj)}{s:Q5}{σ:St}{H:Hp}{x:Str}{u:Q4}{pos:Pos}{Q:Q4->Q5->Prop}(I:Inv X pins σ H s)(hg:Gl X x)(hm:X.mg x=none)(hv:Zn x=some u)(h:Q u s)
  (hn:x≠"__name__":=by decide) (hd:(x == ("__debug__":Str))=false:=by decide):wpAny (ZL X.prog X.w) X.A (eval (.Name x pos) X.env) Q E s:=by
 obtain⟨mb,h1,h2⟩:=I.mod.blt;exact Calls.Name_function_global I.ok.kind hg (Calls.loadGlobal_builtin (by rw[I.ok.glob];exact I.mod.glob.keeps I.bk) hm (by rw[I.ok.blt];exact h1.keeps I.bk) ((h2 x hn).trans hv) h) hd
variable{a:ZR}
def PC(X:Cx)(op:CmpOp)(a b:ZR)(t:TE):Prop:=
 ∀(pins:List (Addr×Obj)) (s:Q5) (σ:St) (H:Hp) (Q:VK),Inv X pins σ H s->t σ H Q->
  wpAny (ZL X.prog X.w) X.A (eval a X.env) (fun v s₁=>wpAny (ZL X.prog X.w) X.A (eval b X.env) (fun u s₂=>wpAny (ZL X.prog X.w) X.A (compareOp op v u) (EP X pins σ Q) X.xe s₂) X.xe s₁) X.xe s
def tB(t:TE):TT:=fun σ H Q=>t σ H fun x H1=>∃c,x=.bl c/\Q c H1
def Ld{op:CmpOp}{t:TE}(h:PC X op a b t)(h1:behindInMarks op b=false:=by first|exact nobehind _ ∅ ∅|rfl):PE X (.Compare a [op] [b] pos) t:=fun pins s σ H Q I hw=>wpAny_Compare1 (h pins s σ H Q I hw) h1
def KP{op:CmpOp}{t:TE}(h:PC X op a b t)(h1:behindInMarks op b=false:=by first|exact nobehind _ ∅ ∅|rfl):PT X (.Compare a [op] [b] pos) (tB t):=by
 intro pins s σ H Q I hw;refine wpAny_isTrue_Compare1 (thn (h pins s σ H _ I hw) fun v s1 h1=>thn h1 fun u s2 h2=>thn h2 fun c s3 hz=>?_) h1;obtain⟨x,H1,I1,r1,q1⟩:=hz;obtain⟨d,rfl,q⟩:=q1;cases r1;exact wpAny_truthy_bool ⟨H1,I1,q⟩
def KJ{e:ZR}{t:TE}(h:PE X e t)(he:∀whole,isTrue e X.env whole=(do let v <-whole;standAt e.pos;holding [v] (truthy v)):=by intro _;rfl):PT X e (tB t):=by
 intro pins s σ H Q I hw;refine isTrue_plain (thn (h pins s σ H _ I hw) fun v s1 ⟨x,H1,I1,r1,q1⟩=>?_) (he _);obtain⟨d,rfl,q⟩:=q1;cases r1;exact wpAny_truthy_bool ⟨H1,I1,q⟩
variable{tA tB':TT}{rest:List ZR}
def P5(t u:TT):TT:=fun σ H Q=>t σ H fun c H1=>if c=true then u σ H1 Q else Q false H1
def tOr(t u:TT):TT:=fun σ H Q=>t σ H fun c H1=>if c=true then Q true H1 else u σ H1 Q
def PV(t:TT):TT:=fun σ H Q=>t σ H fun c H1=>Q (!c) H1
def Ho(ha:PT X a tA):PW X (.BoolOp .And [a] pos) tA:=by
 intro wh pins s σ H Q I h;refine isTrue_and (thn (ha pins s σ H Q I h) fun c s1 e=>?_);cases c with
 |true=>exact isTrue_and_nil e
 |false=>exact e
def KH(ha:PT X a tA):PW X (.BoolOp .Or [a] pos) tA:=by
 intro wh pins s σ H Q I h;refine isTrue_or (thn (ha pins s σ H Q I h) fun c s1 e=>?_);cases c with
 |false=>exact isTrue_or_nil e
 |true=>exact e
def KI(ha:PT X a tA)(hb:PW X (.BoolOp .And (b::rest) pos) tB'):PW X (.BoolOp .And (a::b::rest) pos) (P5 tA tB'):=by
 intro wh pins s σ H Q I h;refine isTrue_and (thn (ha pins s σ H _ I h) fun c s1 ⟨H1,I1,q1⟩=>?_);cases c with
 |true=>exact hb wh pins s1 σ H1 Q I1 q1
 |false=>exact⟨H1,I1,q1⟩
def OM(ha:PT X a tA)(hb:PW X (.BoolOp .Or (b::rest) pos) tB'):PW X (.BoolOp .Or (a::b::rest) pos) (tOr tA tB'):=by
 intro wh pins s σ H Q I h;refine isTrue_or (thn (ha pins s σ H _ I h) fun c s1 ⟨H1,I1,q1⟩=>?_);cases c with
 |true=>exact⟨H1,I1,q1⟩
 |false=>exact hb wh pins s1 σ H1 Q I1 q1
def KO(ha:PT X a tA):PT X (.UnaryOp .Not a pos) (PV tA):=by
 intro pins s σ H Q I h;exact isTrue_not (ha pins s σ H (fun c H1=>Q (!c) H1) I h)
def Ks(ta tb:TE):TE:=fun σ H Q=>ta σ H fun x H1=>∃c,x=.bl c/\if c=true then tb σ H1 Q else Q (.bl false) H1
def PU(ta tb:TE):TE:=fun σ H Q=>ta σ H fun x H1=>∃c,x=.bl c/\if c=true then Q (.bl true) H1 else tb σ H1 Q
def Kh(ta:TE):TE:=fun σ H Q=>ta σ H fun x H1=>∃c,x=.bl c/\Q (.bl (!c)) H1
def K7{op}{t:TE}(h:PE X a t):PE X (.BoolOp op [a] pos) t:=fun pins s σ H Q I hw=>BoolOp_one (h pins s σ H Q I hw)
def Lf(ha:PE X a ta)(hb:PE X (.BoolOp .And (b::rest) pos) tb):PE X (.BoolOp .And (a::b::rest) pos) (Ks ta tb):=by
 intro pins s σ H Q I h;refine BoolOp_and (thn (ha pins s σ H _ I h) fun v s1 hz=>?_);obtain⟨x,H1,I1,r1,q1⟩:=hz;obtain⟨c,rfl,q1⟩:=q1;cases r1;refine wpAny_truthy_bool ?_;cases c with
 |true=>exact hb pins s1 σ H1 Q I1 q1
 |false=>exact⟨.bl false,H1,I1,rfl,q1⟩
def OR(ha:PE X a ta)(hb:PE X (.BoolOp .Or (b::rest) pos) tb):PE X (.BoolOp .Or (a::b::rest) pos) (PU ta tb):=by
 intro pins s σ H Q I h;refine BoolOp_or (thn (ha pins s σ H _ I h) fun v s1 hz=>?_);obtain⟨x,H1,I1,r1,q1⟩:=hz;obtain⟨c,rfl,q1⟩:=q1;cases r1;refine wpAny_truthy_bool ?_;cases c with
 |false=>exact hb pins s1 σ H1 Q I1 q1
 |true=>exact⟨.bl true,H1,I1,rfl,q1⟩
def K8(ha:PE X a ta):PE X (.UnaryOp .Not a pos) (Kh ta):=by
 intro pins s σ H Q I h;refine UnaryOp_ (thn (ha pins s σ H _ I h) fun v s1 hz=>?_);obtain⟨x,H1,I1,r1,q1⟩:=hz;obtain⟨c,rfl,q1⟩:=q1;cases r1;exact not_of (wpAny_truthy_bool ⟨.bl (!c),H1,I1,rfl,q1⟩)
end
def SqL(K:Q3)(H:Hp)(a:Addr)(xs:List V):Prop:=
 Rd H a (.lst xs)\/
  ∃(o:Obj) (its:Array Q4) (n:Nat),K.lookup a=some o/\o.cls=.type "list"/\o.dict=none/\o.data=.seq its n/\its.size<=ZU/\cm xs its.toList
def SqT(K:Q3)(H:Hp)(a:Addr)(xs:List V):Prop:=
 Rd H a (.tup xs)\/
  ∃(o:Obj) (its:Array Q4) (n:Nat),K.lookup a=some o/\o.cls=.type "tuple"/\o.data=.seq its n/\its.size<=ZU/\cm xs its.toList
def Q0:Q4->Option V
 |.none=>some .non
 |.bool b=>some (.bl b)
 |.int i _=>some (.int i)
 |.str x _=>some (.str x)
 |.bytes b _=>some (.byt b)
 |.float b _=>some (.flt b)
 |.ref a=>some (.ref a)
 |.type n=>some (.ty n)
 |_=>none
def dk.abs{x:V}{u:Q4}(r:dk x u):Q0 u=some x:=by
 cases x with
 |non=>cases r;rfl
 |bl _=>cases r;rfl
 |int _=>obtain⟨t,rfl⟩:=r;rfl
 |str _=>obtain⟨t,rfl⟩:=r;rfl
 |byt _=>obtain⟨t,rfl⟩:=r;rfl
 |flt _=>obtain⟨t,rfl⟩:=r;rfl
 |ref _=>cases r;rfl
 |ty _=>cases r;rfl
def dk.inj{x y:V}{u:Q4}(r:dk x u)(q:dk y u):x=y:=Yk (r.abs.symm.trans q.abs)
def cm.inj:∀{xs ys:List V} {us:List Q4},cm xs us->cm ys us->xs=ys
 |_,_,_,.nil,.nil=>rfl
 |_,_,_,.cons r t,.cons r' t'=>by rw[r.inj r',cm.inj t t']
variable{σ:St}
section
variable{xs ys:List V}
def SqL.of{K:Q3}(h:H a=some (.lst xs)):SqL K H a xs:=.inl (.inl h)
def SqT.of{K:Q3}(h:H a=some (.tup xs)):SqT K H a xs:=.inl (.inl h)
def Inv.list(I:Inv X pins σ H s)(h:SqL X.K H a xs):∃its:List Q4,cm xs its/\PlainL s.heap a its.toArray/\xs.length<=ZU:=by
 rcases h with h|⟨o,its,n,hk,hc,hd,hs,hz,r⟩;obtain⟨z,its,n,r,e⟩:=h.ok I.hok;exact⟨its,r,⟨_,n,e,rfl,rfl,rfl⟩,z⟩;refine⟨its.toList,r,⟨o,n,I.kIn a o hk,hc,hd,by simpa using hs⟩,?_⟩;have e:=r.length;simp only[Zm]at e;omega
def Inv.tuple(I:Inv X pins σ H s)(h:SqT X.K H a xs):∃its:List Q4,cm xs its/\IsTup s.heap a its.toArray/\xs.length<=ZU:=by
 rcases h with h|⟨o,its,n,hk,hc,hs,hz,r⟩;obtain⟨z,its,r,p⟩:=h.ok I.hok;exact⟨its,r,p,z⟩;refine⟨its.toList,r,⟨o,I.kIn a o hk,hc,n,by simpa using hs⟩,?_⟩;have e:=r.length;simp only[Zm]at e;omega
def Inv.list_inj(I:Inv X pins σ H s)(h:SqL X.K H a xs)(h':SqL X.K H a ys):xs=ys:=by
 obtain⟨its,r,⟨o,n,e,_,_,d⟩,_⟩:=I.list h;obtain⟨its',r',⟨o',n',e',_,_,d'⟩,_⟩:=I.list h';rw[e]at e';cases e';rw[d]at d';injection d' with d1 _;have:its=its':=by simpa using congrArg Array.toList d1
 subst this;exact r.inj r'
def Inv.tuple_inj(I:Inv X pins σ H s)(h:SqT X.K H a xs)(h':SqT X.K H a ys):xs=ys:=by
 obtain⟨its,r,⟨o,e,_,n,d⟩,_⟩:=I.tuple h;obtain⟨its',r',⟨o',e',_,n',d'⟩,_⟩:=I.tuple h';rw[e]at e';cases e';rw[d]at d';injection d' with d1 _;have:its=its':=by simpa using congrArg Array.toList d1
 subst this;exact r.inj r'
end
abbrev Cx.wish(X:Cx)(E:Q4->Q5->Prop):Cx:={ X with xe:=E }
abbrev Cx.nox(X:Cx):Cx:=X.wish fun _ _=>False
def Cx.Ok.wish{X:Cx}(ok:X.Ok)(E:Q4->Q5->Prop):(X.wish E).Ok:=
 ⟨ok.mod,ok.kind,ok.glob,ok.blt,ok.above,ok.inj,ok.has,ok.cab,ok.hd,ok.frames,ok.stk,ok.exf,ok.bs,ok.bsz,ok.noex,ok.exfs,ok.funs,ok.frf⟩
def Cx.Ok.unwish{X:Cx}{E:Q4->Q5->Prop}(ok:(X.wish E).Ok):X.Ok:=
 ⟨ok.mod,ok.kind,ok.glob,ok.blt,ok.above,ok.inj,ok.has,ok.cab,ok.hd,ok.frames,ok.stk,ok.exf,ok.bs,ok.bsz,ok.noex,ok.exfs,ok.funs,ok.frf⟩
variable{E:Q4->Q5->Prop}
def Inv.wish(I:Inv X pins σ H s)(E:Q4->Q5->Prop):Inv (X.wish E) pins σ H s:=⟨I.ok.wish E,I.os,I.bare,I.base,I.loc,I.cell,I.free,I.freeC,I.pin,I.hok,I.len⟩
def Inv.unwish(I:Inv (X.wish E) pins σ H s):Inv X pins σ H s:=⟨I.ok.unwish,I.os,I.bare,I.base,I.loc,I.cell,I.free,I.freeC,I.pin,I.hok,I.len⟩
def SP.unwish{D:Cj}{f:Flow}{s':Q5}(h:SP (X.wish E) pins D f s'):SP X pins D f s':=by
 cases f with
 |next=>obtain⟨σ',H',I,q⟩:=h;exact⟨σ',H',I.unwish,q⟩
 |brk=>obtain⟨σ',H',I,q⟩:=h;exact⟨σ',H',I.unwish,q⟩
 |cont=>obtain⟨σ',H',I,q⟩:=h;exact⟨σ',H',I.unwish,q⟩
 |ret u=>obtain⟨v,σ',H',I,r,q⟩:=h;exact⟨v,σ',H',I.unwish,r,q⟩
def PSs.nox{st:List Zv}{t:TS}(h:PSs X.nox st t):PSs X st t:=fun pins s σ H D I hw=>
 XX (h pins s σ H D (I.wish _) hw) (fun _ _ q=>q.unwish) fun _ _ z=>False.elim z
variable{te:TE}
section
variable{st:Zv}{rest:List Zv}{t u:TS}{e:ZR}
def Kj:TS:=fun D σ H=>D.nx σ H
def PQ(t u:TS):TS:=fun D σ H=>t { D with nx:=u D } σ H
def Ht:PSs X [] Kj:=fun _ _ σ H _ I h=>wpAny_execs_nil ⟨σ,H,I,h⟩
def Dg(h1:PS X st t)(h2:PSs X rest u):PSs X (st::rest) (PQ t u):=by
 intro pins s σ H D I h;refine wpAny_execs_cons (thn (h1 pins s σ H { D with nx:=u D } I h) fun f s1 q=>?_);cases f with
 |next=>
  obtain⟨σ',H',I',q⟩:=q;exact h2 pins s1 σ' H' D I' q
 |ret v=>exact q
 |brk=>exact q
 |cont=>exact q
def Hs(h1:PS X st t):PSs X [st] t:=by
 intro pins s σ H D I h;refine wpAny_execs_cons (thn (h1 pins s σ H D I h) fun f s1 q=>?_);cases f with
 |next=>exact wpAny_execs_nil q
 |ret v=>exact q
 |brk=>exact q
 |cont=>exact q
def Fd:TS:=fun D σ H=>D.bk σ H
def Dj:PS X (.Break pos) Fd:=fun _ _ σ H _ I h=>wpAny_Break ⟨σ,H,I,h⟩
def Inv.quiet{pins:List (Addr×Obj)}{σ:St}{H:Hp}{s:Q5}(I:Inv X pins σ H s):interactive X.env=false:=by simp[interactive,I.ok.kind]
def Km(te:TE):TS:=fun D σ H=>te σ H fun _ H1=>D.nx σ H1
def Hu(he:PE X e te)(hs:XT e none pos.line X.env=pure false:=by rfl):PS X (.Expr e pos) (Km te):=by
 intro pins s σ H D I h;exact wpAny_Expr_any (thn (he pins s σ H _ I h) fun v s1 ⟨x,H1,I1,r1,q1⟩=>⟨σ,H1,I1,q1⟩) I.quiet hs
def PR(te:TE):TS:=fun D σ H=>te σ H D.rt
def KR(he:PE X e te):PS X (.Return (some e) pos) (PR te):=by
 intro pins s σ H D I h;exact wpAny_Return_some (thn (he pins s σ H _ I h) fun v s1 ⟨x,H1,I1,r1,q1⟩=>⟨x,σ,H1,I1,r1,q1⟩)
def PY(c:TT)(t u:TS):TS:=fun D σ H=>c σ H fun b H1=>if b=true then t D σ H1 else u D σ H1
def ON{c:ZR}{a b:List Zv}{tc:TT}(hc:PT X c tc)(ha:PSs X a t)(hb:PSs X b u):PS X (.If c a b pos) (PY tc t u):=by
 intro pins s σ H D I h;refine wpAny_If (thn (hc pins s σ H _ I h) fun d s1 ⟨H1,I1,q1⟩=>?_);cases d with
 |true=>exact ha pins s1 σ H1 D I1 q1
 |false=>exact hb pins s1 σ H1 D I1 q1
def E8:TS:=fun _ _ _=>False
def Di:PS X st E8:=fun _ _ _ _ _ _ h=>h.elim
end
abbrev TG:=V->St->Hp->(St->Hp->Prop)->Prop
abbrev TGs:=List V->St->Hp->(St->Hp->Prop)->Prop
def PG(X:Cx)(target:ZR)(t:TG):Prop:=
 ∀(pins:List (Addr×Obj)) (s:Q5) (σ:St) (H:Hp) (v:V) (u:Q4) (Q:St->Hp->Prop),Inv X pins σ H s->dk v u->t v σ H Q->
  wpAny (ZL X.prog X.w) X.A (assign target X.env u) (fun _ s'=>∃σ' H',Inv X pins σ' H' s'/\Q σ' H') X.xe s
def PGs(X:Cx)(ts:List ZR)(t:TGs):Prop:=
 ∀(pins:List (Addr×Obj)) (s:Q5) (σ:St) (H:Hp) (vs:List V) (us:List Q4) (Q:St->Hp->Prop),Inv X pins σ H s->cm vs us->t vs σ H Q->
  wpAny (ZL X.prog X.w) X.A (assignInOrder ((assignEach ts X.env).map (·.2)) us) (fun _ s'=>∃σ' H',Inv X pins σ' H' s'/\Q σ' H') X.xe s
abbrev Nr:=V->V->V->Hp->(Hp->Prop)->Prop
def PJ(X:Cx)(t:Nr):Prop:=
 ∀(pins:List (Addr×Obj)) (s:Q5) (σ:St) (H:Hp) (o i v:V) (ov iv u:Q4) (Q:Hp->Prop),Inv X pins σ H s->dk o ov->dk i iv->dk v u->t o i v H Q->
  wpAny (ZL X.prog X.w) X.A (setItem ov iv u) (fun _ s'=>∃H',Inv X pins σ H' s'/\Q H') X.xe s
def yz(i:Nat):TG:=fun v σ H Q=>Q (σ.set i (some v)) H
def HC{i:Nat}{x:Str}(hN:X.N.Nodup)(hi:X.N[i]?=some x)(hx:Loc X.env.scope x)(hf:X.fn x=true\/X.env.scope.names.lookup x=some .local:=by first|exact .inl rfl|exact .inr rfl|assumption):PG X (.Name x pos) (yz i):=by
 intro pins s σ H v u Q I r h;exact wpAny_assign_Name (wK I hN hi hx r (fun s' I'=>⟨_,H,I',h⟩) hf)
def Qp:TGs:=fun vs σ H Q=>vs=[]/\Q σ H
def Mp(t:TG)(u:TGs):TGs:=fun vs σ H Q=>∃v r,vs=v::r/\t v σ H fun σ' H'=>u r σ' H' Q
def HB:PGs X [] Qp:=by
 intro pins s σ H vs us Q I r h;obtain⟨e,h⟩:=h;subst e;cases r;exact assignInOrder_nil ⟨σ,H,I,h⟩
def Dr{e:ZR}{es:List ZR}{t:TG}{u:TGs}(h1:PG X e t)(h2:PGs X es u)
  (hs:(assignEach (e::es) X.env).map (·.2)=assign e X.env::(assignEach es X.env).map (·.2):=by rfl):PGs X (e::es) (Mp t u):=by
 intro pins s σ H vs us Q I r h;obtain⟨v,vr,e1,h⟩:=h;subst e1;cases r with
 |cons r rr=>
  rw[hs];refine assignInOrder_cons (thn (h1 pins s σ H _ _ _ I r h) fun _ s1 hz=>?_);obtain⟨σ1,H1,I1,q1⟩:=hz;exact h2 pins s1 σ1 H1 _ _ Q I1 rr q1
def Qn(K:Q3)(n:Nat)(t:TGs):TG:=fun v σ H Q=>∃a xs,v=.ref a/\SqT K H a xs/\xs.length=n/\t xs σ H Q
def K2{es:List ZR}{k:Nat}{t:TGs}{n:Nat}(hc:X.calm=true)(h:PGs X es t)
  (hn:(assignEach es X.env).length=n:=by rfl) (hst:(assignEach es X.env).findIdx? (·.1)=none:=by rfl):PG X (.Tuple es k pos) (Qn X.K n t):=by
 intro pins s σ H v u Q I r hw;obtain⟨a,xs,e1,hq,hl,hw⟩:=hw;subst e1;cases r;obtain⟨its,rv,ht,hz⟩:=I.tuple hq;refine assign_Tuple_tuple (I.ok.hd hc) ht (by simp[hn,<-hl,rv.length]) hst fun h' hx=>?_;have I1:Inv X pins σ H { s with heap:=h' }:=I.kept (t':=s.toks) fun b o e=>hx b o (Zq (ZX e)) e;exact h pins _ σ H xs _ Q I1 (by simpa using rv) hw
def Qo(to ti:TE)(t:Nr):TG:=fun v σ H Q=>to σ H fun o H1=>ti σ H1 fun i H2=>t o i v H2 fun H3=>Q σ H3
def K3{o i:ZR}{to ti:TE}{t:Nr}(ho:PE X o to)(hi:PE X i ti)(hs:PJ X t)
  (ha:∀v,assign (.Subscript o i pos) X.env v=(do
   let ov <-holding [v] (eval o X.env)
   let iv <-holding [v,ov] (eval i X.env)
   standAt pos
   holding [v,ov,iv] (setItem ov iv v)
   release [v,ov,iv] []):=by intro _;rfl):PG X (.Subscript o i pos) (Qo to ti t):=by
 intro pins s σ H v u Q I r h;rw[ha];refine Q8 (wpAny_holding (thn (ho pins s σ H _ I h) fun ov s1 hz=>?_));obtain⟨x,H1,I1,r1,q1⟩:=hz;refine Q8 (wpAny_holding (thn (hi pins s1 σ H1 _ I1 q1) fun iv s2 hz=>?_));obtain⟨y,H2,I2,r2,q2⟩:=hz;refine Q8 (wpAny_standAt (Q8 (wpAny_holding (thn (hs pins s2 σ H2 x y v ov iv u _ I2 r1 r2 r q2) fun _ s3 ⟨H3,I3,q3⟩=>?_))));exact wpAny_release ⟨σ,H3,I3,q3⟩
def M9(te:TE)(g:TG):TS:=fun D σ H=>te σ H fun x H1=>g x σ H1 D.nx
def KW{tg e:ZR}{te:TE}{g:TG}(he:PE X e te)(hg:PG X tg g)(hs:swapsWithSole [tg] e pos.line X.env=pure false:=by rfl)(hw:swappedStores [tg] e X.env=pure none:=by rfl)
  (h1:(assignEach [tg] X.env).map (·.2)=[assign tg X.env]:=by rfl):PS X (.Assign [tg] e pos) (M9 te g):=by
 intro pins s σ H D I h;refine wpAny_Assign_stores (thn (he pins s σ H _ I h) fun v s1 hz=>?_) hs hw;obtain⟨x,H1,I1,r1,q1⟩:=hz;rw[h1];exact thn (hg pins s1 σ H1 x v _ I1 r1 q1) fun _ s2 q=>q
def KQ{i:Nat}{x:Str}{e:ZR}{te:TE}{pos':Pos}(hN:X.N.Nodup)(hi:X.N[i]?=some x)(hx:Loc X.env.scope x)(he:PE X e te)(hs:XT e (some (.Name x pos')) pos.line X.env=pure false:=by rfl)(hf:X.fn x=true\/X.env.scope.names.lookup x=some .local:=by first|exact .inl rfl|exact .inr rfl|assumption) :
  PS X (.Assign [.Name x pos'] e pos) (M9 te (yz i)):=by
 intro pins s σ H D I h;refine wpAny_Assign_Name (thn (he pins s σ H _ I h) fun v s1 hz=>?_) hs;obtain⟨y,H1,I1,r1,q1⟩:=hz;exact wK I1 hN hi hx r1 (fun s2 I2=>⟨_,H1,I2,q1⟩) hf
def zK(c:TT)(tb:TS):TS:=fun D σ H=>∃W:Nat->St->Hp->Prop,(∃m,W m σ H)/\∀m σ H,W m σ H->
 c σ H fun b H1=>if b=true then ∃N:St->Hp->Prop,(∀σ' H',N σ' H'->∃m',m'<m/\W m' σ' H')/\tb { D with nx:=N,ct:=N,bk:=D.nx } σ H1 else D.nx σ H1
def Dh{c:ZR}{body:List Zv}{tc:TT}{tb:TS}(hp:PassesOwn (ZL X.prog X.w) X.A X.env X.xe)(hc:PT X c tc)(hb:PSs X body tb):PS X (.While c body [] pos) (zK tc tb):=by
 intro pins s σ H D I h;obtain⟨W,⟨m0,w0⟩,turn⟩:=h;refine wpAny_While (codeAny_whileLoop (fun n s'=>∃σ' H',Inv X pins σ' H' s'/\W n σ' H') ?_ m0 ⟨σ,H,I,w0⟩);rintro n s1 ⟨σ1,H1,I1,w1⟩;refine wpAny_passesOwn hp (thn (hc pins s1 σ1 H1 _ I1 (turn n σ1 H1 w1)) fun b s2 ⟨H2,I2,q2⟩=>?_);cases b with
 |true=>
  obtain⟨N,hN,q2⟩:=q2;rw[Xd rfl];refine wpAny_passesOwn hp (thn (hb pins s2 σ1 H2 _ I2 q2) fun f s3 q3=>?_);cases f with
  |next=>
   obtain⟨σ3,H3,I3,n3⟩:=q3;obtain⟨m',hm,w3⟩:=hN σ3 H3 n3;exact⟨m',hm,σ3,H3,I3,w3⟩
  |cont=>
   obtain⟨σ3,H3,I3,n3⟩:=q3;obtain⟨m',hm,w3⟩:=hN σ3 H3 n3;exact⟨m',hm,σ3,H3,I3,w3⟩
  |brk=>exact q3
  |ret v=>exact q3
 |false=>
  rw[Xf Z8];exact wpAny_execs_nil ⟨σ1,H2,I2,q2⟩
structure It where
 go:Nat->Hp->Prop
 yld:Nat->Hp->V->Hp->Prop
 stop:Nat->Hp->Prop
def yS(X:Cx)(pins:List (Addr×Obj))(H:Hp)(b:Addr):Prop:=
 H b=none/\b≠X.env.locals/\b∉X.fs/\(b∈X.ex\/X.s₀.heap.objs.size<=b)/\(∀x c,X.env.cells.lookup x=some c->c≠b)/\∀p∈X.pn++pins,p.1≠b
def Inv.fpOk{X:Cx}{pins:List (Addr×Obj)}{σ:St}{H H':Hp}{s:Q5}{b:Addr}(I:Inv X pins σ H s)(hb:s.heap.objs.size<=b)(hn:H' b=none):yS X pins H' b:=by
 refine⟨hn,Xj (ZE I.lt hb),I.nofs hb,.inr (Zw I.sz hb),fun x c e z=>?_,fun p hp z=>?_⟩;obtain⟨v,q⟩:=I.cell x c e;exact absurd (ZE q.lt (by rw[z];exact hb)) (XM _);exact absurd (ZE (ZX (I.pin p hp).1) (by rw[z];exact hb)) (XM _)
structure Js(P:ZI)(w:Zk)(K:Q3)(tg:ZR)(J:It)(fp:List Addr)(it:Addr)(tn:Nat->Heap->Prop):Prop where
 mem:it∈fp
 obj:∀i h,tn i h->∀b∈fp,∃o,h.get? b=some o/\∀v,o.data≠.cell v
 keep:∀i h h',tn i h->(∀b∈fp,∀o,h.get? b=some o->h'.get? b=some o)->tn i h'
 item:∀(X:Cx),X.prog=P->X.w=w->X.K=K->X.calm=true->∀(i:Nat) (pins:List (Addr×Obj)) (s:Q5) (σ:St) (H:Hp) (E:Q4->Q5->Prop),Inv X pins σ H s->(∀b∈fp,yS X pins H b)->tn i s.heap->J.go i H->
  wpAny (ZL P w) X.A (pyNext (.ref it)) (fun r s1=>∃u,r=some u/\
   wpAny (ZL P w) X.A (letOwnedTupleGo tg (.ref it) u) (fun _ s2=>∃x H',Inv X pins σ H' s2/\dk x u/\J.yld i H x H'/\tn (i+1) s2.heap/\∀b∈fp,H' b=none) E s1) E s
 done:∀(X:Cx),X.prog=P->X.w=w->X.K=K->X.calm=true->∀(i:Nat) (pins:List (Addr×Obj)) (s:Q5) (σ:St) (H:Hp) (E:Q4->Q5->Prop),Inv X pins σ H s->(∀b∈fp,yS X pins H b)->tn i s.heap->J.stop i H->
  wpAny (ZL P w) X.A (pyNext (.ref it)) (fun r s1=>r=none/\Inv X pins σ H s1) E s
 self:∀(A:Zy) (i:Nat) (s:Q5) (Q:Q4->Q5->Prop) (E:Q4->Q5->Prop),tn i s.heap->Q (.ref it) s->wpAny (ZL P w) A (pyIter (.ref it)) Q E s
abbrev TI:=St->Hp->(It->Hp->Prop)->Prop
def PIE(X:Cx)(pins:List (Addr×Obj))(σ:St)(tg:ZR)(R:It->Hp->Prop)(itv:Q4)(s2:Q5):Prop:=
 ∃(it:Addr) (fp:List Addr) (tn:Nat->Heap->Prop) (J:It) (H':Hp),itv=.ref it/\Inv X pins σ H' s2/\Js X.prog X.w X.K tg J fp it tn/\tn 0 s2.heap/\(∀b∈fp,yS X pins H' b)/\R J H'
def PI(X:Cx)(tg iter:ZR)(wi:TI):Prop:=
 ∀(pins:List (Addr×Obj)) (s:Q5) (σ:St) (H:Hp) (R:It->Hp->Prop),Inv X pins σ H s->wi σ H R->
  wpAny (ZL X.prog X.w) X.A (eval iter X.env) (fun v s1=>wpAny (ZL X.prog X.w) X.A (pyIter v) (PIE X pins σ tg R) X.xe s1) X.xe s
def Ei {M : Model} {A : Zy} {E : Q4 -> Q5 -> Prop} {s : Q5} {tg : ZR} {it : Addr} {u : Q4} {o : Obj} {n : String} {vs : Array Q4} {Q : Unit -> Q5 -> Prop} (ho : s.heap.get? it = some o) (hc : o.cls = .type n) (hd : o.data = .fields vs)
    (hn:["enumerate","zip","dict_itemiterator","dict_reverseitemiterator","odict_iterator","itertools.zip_longest","itertools.pairwise"].contains n=false) (hQ:Q () s):wpAny M A (letOwnedTupleGo tg (.ref it) u) Q E s:=by
  unfold letOwnedTupleGo;cases tg<;>first
    |exact ZC hQ
    | (cases u <;> first
        |exact ZC hQ
        | (refine Q8 (wpAny_load ho ?_)
           rw[hc,hd];show wpAny M A (if (["enumerate","zip","dict_itemiterator","dict_reverseitemiterator","odict_iterator","itertools.zip_longest","itertools.pairwise"].contains n&&vs[0]? == some (rawInt _))=true then _ else _) Q E s;rw[Xf (by intro h;rw[hn,YR]at h;cases h)];exact ZC hQ))
def Itl(K:Q3)(a:Addr):It:=
 ⟨fun i H=>∃xs x,SqL K H a xs/\xs[i]?=some x,fun i H x H'=>H'=H/\∀xs,SqL K H a xs->xs[i]?=some x,fun i H=>∃xs,SqL K H a xs/\xs.length<=i⟩
def Itt(K:Q3)(a:Addr):It:=
 ⟨fun i H=>∃xs x,SqT K H a xs/\xs[i]?=some x,fun i H x H'=>H'=H/\∀xs,SqT K H a xs->xs[i]?=some x,fun i H=>∃xs,SqT K H a xs/\xs.length<=i⟩
def Itr(lo:Int)(n:Nat):It:=⟨fun i _=>i<n,fun i H x H'=>H'=H/\x=.int (lo+i),fun i _=>n<=i⟩
def zC{P:ZI}{w:Zk}{K:Q3}{tg:ZR}(a it:Addr):Js P w K tg (Itl K a) [it] it (fun i h=>h.IsListIter it a i) where
 mem:=by simp
 obj:=fun i h st b hb=>by
  have e:b=it:=by simpa using hb
  subst e;obtain⟨o,e,c,d⟩:=st;exact⟨o,e,fun v z=>by rw[d]at z;cases z⟩
 keep:=fun i h h' st k=>st.at fun o e=>k it nofun o e
 item:=by
  intro X hP hw hK hc i pins s σ H E I hf st hg;subst hP hw hK;obtain⟨xs,x,hq,hx⟩:=hg;obtain⟨its,rv,p,hz⟩:=I.list hq;obtain⟨u,hu,ru⟩:=rv.get hx;obtain⟨f0,f1,f2,f3,f4,f5⟩:=hf it nofun;refine wpAny_pyNext_list_item st p.isList (x:=u) (by simpa using hu) fun h' st' sb=>?_;have I1:Inv X pins σ H { s with heap:=h' }:=I.turned (t':=s.toks) (fun b o hb e=>(sb.2 b hb).trans e) f0 f1 f3 f4 f5;obtain⟨o,e,c,d⟩:=id st';exact⟨u,rfl,Ei (s:={ s with heap:=h' }) e c d ∅ ⟨x,H,I1,ru,⟨rfl,fun ys hy=>by rw[I.list_inj hy hq];exact hx⟩,st',fun b hb=>(hf b hb).1⟩⟩
 done:=by
  intro X hP hw hK hc i pins s σ H E I hf st hg;subst hP hw hK;obtain⟨xs,hq,hx⟩:=hg;obtain⟨its,rv,p,hz⟩:=I.list hq;obtain⟨f0,f1,f2,f3,f4,f5⟩:=hf it nofun;have hl:=rv.length;exact wpAny_pyNext_list_end (I.ok.hd hc) st p.isList (by simp;omega) fun h' eb=>⟨rfl,I.turned (t':=s.toks) (fun b o hb e=>eb b o hb e) f0 f1 f3 f4 f5⟩
 self:=fun _ _ _ _ _ st h=>wpAny_pyIter_listiter st h
def ye{P:ZI}{w:Zk}{K:Q3}{tg:ZR}(a it:Addr):Js P w K tg (Itt K a) [it] it (fun i h=>h.IsTupleIter it a i) where
 mem:=by simp
 obj:=fun i h st b hb=>by
  have e:b=it:=by simpa using hb
  subst e;obtain⟨o,e,c,d⟩:=st;exact⟨o,e,fun v z=>by rw[d]at z;cases z⟩
 keep:=fun i h h' st k=>st.at fun o e=>k it nofun o e
 item:=by
  intro X hP hw hK hc i pins s σ H E I hf st hg;subst hP hw hK;obtain⟨xs,x,hq,hx⟩:=hg;obtain⟨its,rv,p,hz⟩:=I.tuple hq;obtain⟨u,hu,ru⟩:=rv.get hx;obtain⟨f0,f1,f2,f3,f4,f5⟩:=hf it nofun;refine wpAny_pyNext_tuple_item st (show s.heap.IsTuple a its.toArray from p) (x:=u) (by simpa using hu) fun h' st' sb=>?_;have I1:Inv X pins σ H { s with heap:=h' }:=I.turned (t':=s.toks) (fun b o hb e=>(sb.2 b hb).trans e) f0 f1 f3 f4 f5;obtain⟨o,e,c,d⟩:=id st';exact⟨u,rfl,Ei (s:={ s with heap:=h' }) e c d ∅ ⟨x,H,I1,ru,⟨rfl,fun ys hy=>by rw[I.tuple_inj hy hq];exact hx⟩,st',fun b hb=>(hf b hb).1⟩⟩
 done:=by
  intro X hP hw hK hc i pins s σ H E I hf st hg;subst hP hw hK;obtain⟨xs,hq,hx⟩:=hg;obtain⟨its,rv,p,hz⟩:=I.tuple hq;obtain⟨f0,f1,f2,f3,f4,f5⟩:=hf it nofun;have hl:=rv.length;exact wpAny_pyNext_tuple_end (I.ok.hd hc) st (show s.heap.IsTuple a its.toArray from p) (by simp;omega) fun h' eb=>⟨rfl,I.turned (t':=s.toks) (fun b o hb e=>eb b o hb e) f0 f1 f3 f4 f5⟩
 self:=fun _ _ _ _ _ st h=>wpAny_pyIter_tupleiter st h
def yf{P:ZI}{w:Zk}{K:Q3}{tg:ZR}(it:Addr)(lo:Int)(n:Nat):Js P w K tg (Itr lo n) [it] it (fun i h=>IsRangeIter h it (lo+(i:Nat)*1) ((n:Int)-(i:Nat)) 1) where
 mem:=by simp
 obj:=fun i h st b hb=>by
  have e:b=it:=by simpa using hb
  subst e;exact⟨_,st,fun v z=>by
   have z':Data.fields _=Data.cell v:=z;cases z'⟩
 keep:=fun i h h' st k=>k it nofun _ st
 item:=by
  intro X hP hw hK hc i pins s σ H E I hf st hg;subst hP hw hK;obtain⟨f0,f1,f2,f3,f4,f5⟩:=hf it nofun;have W:=Walks.range (prog:=X.prog) (w:=X.w) (I.ok.hd hc) it lo 1 n;refine W.item i s _ _ hg st fun v h' tk hv st' kk=>?_;obtain⟨t,rfl⟩:=hv;have I1:Inv X pins σ H { s with heap:=h',toks:=tk }:=I.turned (fun b o hb e=>kk b o (by simpa using hb) e) f0 f1 f3 f4 f5;refine⟨_,rfl,Ei (s:={ s with heap:=h',toks:=tk }) (n:="range_iterator") st' rfl rfl ∅ ⟨.int (lo+i),H,I1,⟨t,?_⟩,⟨rfl,rfl⟩,st',fun b hb=>(hf b hb).1⟩⟩;rw[Int.mul_one]
 done:=by
  intro X hP hw hK hc i pins s σ H E I hf st hg;subst hP hw hK;obtain⟨f0,f1,f2,f3,f4,f5⟩:=hf it nofun;exact wpAny_pyNext_range_end (I.ok.hd hc) st (by have:n<=i:=hg;omega) fun h' eb=>⟨rfl,I.turned (t':=s.toks) (fun b o hb e=>eb b o hb e) f0 f1 f3 f4 f5⟩
 self:=fun _ _ _ _ _ st h=>wpAny_pyIter_rangeiter st h
section
variable{tg:ZR}
def L7(K:Q3)(tl:TE):TI:=fun σ H R=>tl σ H fun x H1=>∃a,x=.ref a/\(∃xs,SqL K H1 a xs)/\R (Itl K a) H1
def Qm(K:Q3)(tl:TE):TI:=fun σ H R=>tl σ H fun x H1=>∃a,x=.ref a/\(∃xs,SqT K H1 a xs)/\R (Itt K a) H1
def HA{l:ZR}{tl:TE}(hl:PE X l tl):PI X tg l (L7 X.K tl):=by
 intro pins s σ H R I h;refine thn (hl pins s σ H _ I h) fun v s1 hz=>?_;obtain⟨x,H1,I1,r1,q1⟩:=hz;obtain⟨a,e,⟨xs,hq⟩,q⟩:=q1;subst e;cases r1;obtain⟨its,rv,p,hz⟩:=I1.list hq;refine wpAny_pyIter_list p.isList ?_;refine⟨s1.heap.objs.size,[s1.heap.objs.size],_,_,H1,rfl,I1.kept (t':=s1.toks) fun b o e=>Q9 _ e,zC a _,⟨_,ZT _ rfl,rfl,rfl⟩,fun b hb=>?_,q⟩;have e:b=s1.heap.objs.size:=by simpa using hb
 subst e;exact I1.fpOk (Z6 _) (I1.hok.fresh (Z6 _))
def KZ{l:ZR}{tl:TE}(hl:PE X l tl):PI X tg l (Qm X.K tl):=by
 intro pins s σ H R I h;refine thn (hl pins s σ H _ I h) fun v s1 hz=>?_;obtain⟨x,H1,I1,r1,q1⟩:=hz;obtain⟨a,e,⟨xs,hq⟩,q⟩:=q1;subst e;cases r1;obtain⟨its,rv,p,hz⟩:=I1.tuple hq;refine wpAny_pyIter_tuple (show s1.heap.IsTuple a its.toArray from p) ?_;refine⟨s1.heap.objs.size,[s1.heap.objs.size],_,_,H1,rfl,I1.kept (t':=s1.toks) fun b o e=>Q9 _ e,ye a _,⟨_,ZT _ rfl,rfl,rfl⟩,fun b hb=>?_,q⟩;have e:b=s1.heap.objs.size:=by simpa using hb
 subst e;exact I1.fpOk (Z6 _) (I1.hok.fresh (Z6 _))
def CZ{pins:List (Addr×Obj)}{σ:St}{H:Hp}{s:Q5}{R:It->Hp->Prop}{E:Q4->Q5->Prop}{lo hi:Int}{t u v:Tok}{tk:Nat}(I:Inv X pins σ H s)(h1:-(2^62)<=lo)(h2:lo<2^62)(h3:-(2^62)<=hi)(h4:hi<2^62)
  (q:R (Itr lo (hi-lo).toNat) H):wpAny (ZL X.prog X.w) X.A (pyIter (.ref s.heap.objs.size)) (PIE X pins σ tg R) E { s with heap:=s.heap.push { cls:=.type "range",data:=.fields #[.int lo t,.int hi u,.int 1 v] },toks:=tk }:=by
 refine wpAny_pyIter_range (IsRange.new ..) (small_one h1 h2 h3 h4) ?_;have I1:Inv X pins σ H { s with heap:=s.heap.push { cls:=.type "range",data:=.fields #[.int lo t,.int hi u,.int 1 v] },toks:=tk }:=I.kept fun b o e=>Q9 _ e;refine⟨(s.heap.push { cls:=.type "range",data:=.fields #[.int lo t,.int hi u,.int 1 v] }).objs.size,[(s.heap.push { cls:=.type "range",data:=.fields #[.int lo t,.int hi u,.int 1 v] }).objs.size],_,_,H,rfl,
  I1.kept (t':=tk) fun b o e=>Q9 _ e,yf _ lo (hi-lo).toNat,?_,fun b hb=>?_,q⟩
 ·have e1:lo+((0:Nat):Int)*1=lo:=by simp
  have e2:(((hi-lo).toNat:Nat):Int)-((0:Nat):Int)=Builtin.Range.rangeSize lo hi 1:=by rw[rangeSize_one];split<;>omega
  show IsRangeIter _ _ (lo+((0:Nat):Int)*1) ((((hi-lo).toNat:Nat):Int)-((0:Nat):Int)) 1;rw[e1,e2];exact ZT _ rfl
 have e:b=(s.heap.push { cls:=.type "range",data:=.fields #[.int lo t,.int hi u,.int 1 v] }).objs.size:=by simpa using hb
 subst e;exact I1.fpOk (Z6 _) (I1.hok.fresh (Z6 _))
def L6(ta:TA):TI:=fun σ H R=>ta σ H fun vs H1=>∃j:Int,vs=[.int j]/\-(2^62)<=j/\j<2^62/\R (Itr 0 j.toNat) H1
def Ai{a:ZR}{ta:TA}{p pos:Pos}(hg:Gl X "range")(hm:X.mg "range"=none)(ha:PA X [a] ta)(hs:Z9 [a] X.env=[(false,eval a X.env)]:=by rfl):PI X tg (.Call (.Name "range" p) [a] [] pos) (L6 ta):=by
 intro pins s σ H R I h;refine Call_ (uc I hg hm boot_range (PyProof.Rows.callWith_type1 (thn (ha pos pins s σ H _ I h) fun us s1 ⟨vs,H1,I1,r1,q1⟩=>?_) hs rfl));obtain⟨j,e,q1,q2,q⟩:=q1;subst e;cases r1 with
 |cons r rr=>
  cases rr;obtain⟨t,rfl⟩:=r;exact call_range_1 (CZ I1 ⋯ ⋯ q1 q2 (by simpa using q))
def MY(wi:TI)(g:TG)(tb:TS):TS:=fun D σ H=>wi σ H fun J H1=>∃W:Nat->Nat->St->Hp->Prop,(∃m,W 0 m σ H1)/\∀i m σ H,W i m σ H->
 (J.stop i H/\D.nx σ H)\/(J.go i H/\∃N:St->Hp->Prop,(∀σ' H',N σ' H'->∃m',m'<m/\W (i+1) m' σ' H')/\∀x H',J.yld i H x H'->g x σ H' fun σ2 H2=>tb { D with nx:=N,ct:=N,bk:=D.nx } σ2 H2)
def wN(fp:List Addr)(h:Heap):List (Addr×Obj):=fp.filterMap fun b=>(h.get? b).map fun o=>(b,o)
def f9{fp:List Addr}{h:Heap}{b:Addr}{o:Obj}(hb:b∈fp)(e:h.get? b=some o):(b,o)∈wN fp h:=List.mem_filterMap.mpr ⟨b,hb,by rw[e];rfl⟩
def Aw{fp:List Addr}{h:Heap}{p:Addr×Obj}(hp:p∈wN fp h):p.1∈fp/\h.get? p.1=some p.2:=by
 obtain⟨b,hb,e⟩:=List.mem_filterMap.mp hp;cases q:h.get? b with
 |none=>rw[q]at e;cases e
 |some o=>
  rw[q]at e;have e':(b,o)=p:=Yk e;subst e';exact⟨hb,q⟩
def Inv.pinned{pins:List (Addr×Obj)}{σ:St}{H:Hp}{s:Q5}{fp:List Addr}(I:Inv X pins σ H s)(hf:∀b∈fp,yS X pins H b)(ho:∀b∈fp,∃o,s.heap.get? b=some o/\∀v,o.data≠.cell v):Inv X (pins++wN fp s.heap) σ H s:=
 I.pins_of fun p hp=>(Zz.mp hp).elim (fun z=>I.pin p (ZH _ z)) fun z=>by
  obtain⟨hb,e⟩:=Aw z;obtain⟨f0,f1,f2,_⟩:=hf p.1 hb;obtain⟨o,e',d⟩:=ho p.1 hb;rw[e]at e';cases e';exact⟨e,f0,f1,f2,d⟩
def Inv.unpinned{pins pl:List (Addr×Obj)}{σ:St}{H:Hp}{s:Q5}(I:Inv X (pins++pl) σ H s):Inv X pins σ H s:=I.pins_of fun p hp=>I.pin p (ZH _ (List.mem_append_left _ hp))
def KS{iter:ZR}{body:List Zv}{wi:TI}{g:TG}{tb:TS}{pos:Pos}(hp:PassesOwn (ZL X.prog X.w) X.A X.env X.xe)(hc:X.calm=true)(hi:PI X tg iter wi)(hg:PG X tg g)(hb:PSs X body tb)
  (hs:∀x,foldedSetIterable iter X.env x=pure x:=by intro _;rfl):PS X (.For tg iter body [] pos) (MY wi g tb):=by
 intro pins s σ H D I h;refine wpAny_For (thn (hi pins s σ H _ I h) fun v s1 h1=>thn h1 fun itv s2 h2=>?_) hs;obtain⟨it,fp,tn,J,H2,e,I2,T,st2,f2,W,⟨m0,w0⟩,turn⟩:=h2;subst e;have stat:∀{H':Hp},(∀b∈fp,H' b=none)->∀b∈fp,yS X pins H' b:=fun hn b hb=>⟨hn b hb,(f2 b hb).2⟩;refine codeAny_forLoop_any (fun n s'=>∃i σ' H',Inv X pins σ' H' s'/\tn i s'.heap/\(∀b∈fp,H' b=none)/\W i n σ' H') ?_ m0 ⟨0,σ,H2,I2,st2,fun b hb=>(f2 b hb).1,w0⟩;rintro n s3 ⟨i,σ3,H3,I3,st3,fr3,w3⟩;rcases turn i n σ3 H3 w3 with⟨stop,qn⟩|⟨go,N,hN,step⟩;refine wpAny_passesOwn hp (thn (T.done X rfl rfl rfl hc i pins s3 σ3 H3 X.xe I3 (stat fr3) st3 stop) fun r s4 ⟨hr,I4⟩=>?_);subst hr;exact wpAny_execs_nil ⟨σ3,H3,I4,qn⟩
 ·refine wpAny_passesOwn hp (thn (T.item X rfl rfl rfl hc i pins s3 σ3 H3 X.xe I3 (stat fr3) st3 go) fun r s4 ⟨u,hr,h4⟩=>?_);subst hr;refine wpAny_passesOwn hp (thn h4 fun _ s5 hz=>?_);obtain⟨x,H5,I5,r5,y5,st5,fr5⟩:=hz;have I5':=I5.pinned (stat fr5) (T.obj _ _ st5);refine wpAny_passesOwn hp (thn (hg _ s5 σ3 H5 x u _ I5' r5 (step x H5 y5)) fun _ s6 hz=>?_);obtain⟨σ6,H6,I6,q6⟩:=hz;refine wpAny_passesOwn hp (thn (hb _ s6 σ6 H6 _ I6 q6) fun f s7 q7=>?_);have again:∀{σ7:St} {H7:Hp},Inv X (pins++wN fp s5.heap) σ7 H7 s7->N σ7 H7->∃m,m<n/\∃i σ' H',Inv X pins σ' H' s7/\tn i s7.heap/\(∀b∈fp,H' b=none)/\W i m σ' H':=fun{σ7 H7} I7 n7=>by
   obtain⟨m',hm,w7⟩:=hN σ7 H7 n7;refine⟨m',hm,i+1,σ7,H7,I7.unpinned,T.keep _ _ _ st5 fun b hb o e=>(I7.pin (b,o) (ZH _ (ZH _ (f9 hb e)))).1,fun b hb=>?_,w7⟩;obtain⟨o,e,d⟩:=T.obj _ _ st5 b hb;exact(I7.pin (b,o) (ZH _ (ZH _ (f9 hb e)))).2.1
  cases f with
  |next=>obtain⟨σ7,H7,I7,n7⟩:=q7;exact again I7 n7
  |cont=>obtain⟨σ7,H7,I7,n7⟩:=q7;exact again I7 n7
  |brk=>obtain⟨σ7,H7,I7,q7⟩:=q7;exact⟨σ7,H7,I7.unpinned,q7⟩
  |ret v=>obtain⟨x7,σ7,H7,I7,r7,q7⟩:=q7;exact⟨x7,σ7,H7,I7.unpinned,r7,q7⟩
end
abbrev R2:=V->V->Hp->VK->Prop
def OpR(X:Cx)(f:Q4->Q4->Sem Q4)(r:R2):Prop:=
 ∀(pins:List (Addr×Obj)) (s:Q5) (σ:St) (H:Hp) (x y:V) (v u:Q4) (Q:VK),Inv X pins σ H s->dk x v->dk y u->r x y H Q->
  wpAny (ZL X.prog X.w) X.A (f v u) (EP X pins σ Q) X.xe s
def hV(X:Cx)(f:Q4)(r:List V->Hp->VK->Prop):Prop:=
 ∀(pins:List (Addr×Obj)) (s:Q5) (σ:St) (H:Hp) (xs:List V) (us:List Q4) (Q:VK),Inv X pins σ H s->cm xs us->r xs H Q->
  wpAny (ZL X.prog X.w) X.A (call f us) (EP X pins σ Q) X.xe s
def tOp(r:R2)(ta tb:TE):TE:=fun σ H Q=>ta σ H fun x H1=>tb σ H1 fun y H2=>r x y H2 Q
def rI(C:Int->Int->Prop)(g:Int->Int->V):R2:=fun x y H Q=>∃i j,x=.int i/\y=.int j/\C i j/\Q (g i j) H
def rI0(g:Int->Int->V):R2:=fun x y H Q=>∃i j,x=.int i/\y=.int j/\Q (g i j) H
section
variable{a:ZR}
def PB(ha:PE X a ta)(hb:PE X b tb){pins:List (Addr×Obj)}{s:Q5}{σ:St}{H:Hp}{R:V->V->Hp->Prop}(I:Inv X pins σ H s)
  (h:ta σ H fun x H1=>tb σ H1 fun y H2=>R x y H2) {Q:Q4->Q5->Prop} {f:Q4->Q4->Sem Q4}
  (hf:∀v u s2 x y H2,Inv X pins σ H2 s2->dk x v->dk y u->R x y H2->wpAny (ZL X.prog X.w) X.A (f v u) Q X.xe s2) :
  wpAny (ZL X.prog X.w) X.A (eval a X.env) (fun v s₁=>wpAny (ZL X.prog X.w) X.A (eval b X.env) (fun u s₂=>wpAny (ZL X.prog X.w) X.A (f v u) Q X.xe s₂) X.xe s₁) X.xe s:=by
 refine thn (ha pins s σ H _ I h) fun v s1 hz=>?_;obtain⟨x,H1,I1,r1,q1⟩:=hz;refine thn (hb pins s1 σ H1 _ I1 q1) fun u s2 hz=>?_;obtain⟨y,H2,I2,r2,q2⟩:=hz;exact hf v u s2 x y H2 I2 r1 r2 q2
def OS{op:Operator}{r:R2}(ho:OpR X (binaryOp op) r)(ha:PE X a ta)(hb:PE X b tb):PE X (.BinOp a op b pos) (tOp r ta tb):=by
 intro pins s σ H Q I h;exact wpAny_BinOp (PB ha hb I h fun v u s2 x y H2 I2 rx ry q=>ho pins s2 σ H2 x y v u Q I2 rx ry q)
def opI{f:Q4->Q4->Sem Q4}{C:Int->Int->Prop}{g:Int->Int->Int}
  (rule:∀(i j:Int) (t u:Tok) (s:Q5) (Q:Q4->Q5->Prop) (E:Q4->Q5->Prop),C i j->Q (.int (g i j) s.toks) { s with toks:=s.toks+1 }->wpAny (ZL X.prog X.w) X.A (f (.int i t) (.int j u)) Q E s) :
  OpR X f (rI C fun i j=>.int (g i j)):=by
 intro pins s σ H x y v u Q I rx ry h;obtain⟨i,j,rfl,rfl,hc,q⟩:=h;obtain⟨t,rfl⟩:=rx;obtain⟨t',rfl⟩:=ry;exact rule i j t t' s _ _ hc ⟨.int (g i j),H,I.tok _,⟨_,rfl⟩,q⟩
def Qb{f:Q4->Q4->Sem Q4}{g:Int->Int->Int}
  (rule:∀(i j:Int) (t u:Tok) (s:Q5) (Q:Q4->Q5->Prop) (E:Q4->Q5->Prop),Q (.int (g i j) s.toks) { s with toks:=s.toks+1 }->wpAny (ZL X.prog X.w) X.A (f (.int i t) (.int j u)) Q E s) :
  OpR X f (rI0 fun i j=>.int (g i j)):=by
 intro pins s σ H x y v u Q I rx ry h;obtain⟨i,j,rfl,rfl,q⟩:=h;obtain⟨t,rfl⟩:=rx;obtain⟨t',rfl⟩:=ry;exact rule i j t t' s _ _ ⟨.int (g i j),H,I.tok _,⟨_,rfl⟩,q⟩
def Nf{f:Q4->Q4->Sem Q4}{g:Int->Int->Bool}
  (rule:∀(i j:Int) (t u:Tok) (s:Q5) (Q:Q4->Q5->Prop) (E:Q4->Q5->Prop),Q (.bool (g i j)) s->wpAny (ZL X.prog X.w) X.A (f (.int i t) (.int j u)) Q E s) :
  OpR X f (rI0 fun i j=>.bl (g i j)):=by
 intro pins s σ H x y v u Q I rx ry h;obtain⟨i,j,rfl,rfl,q⟩:=h;obtain⟨t,rfl⟩:=rx;obtain⟨t',rfl⟩:=ry;exact rule i j t t' s _ _ ⟨.bl (g i j),H,I,rfl,q⟩
def Qv(i j:Int):Prop:=0<=j/\j<=1000000/\i.natAbs<2^64
def B9(i j:Int):Prop:=(-(2^64)<i/\i<2^64)\/(-(2^64)<j/\j<2^64)
def B9.ok{i j:Int}(h:B9 i j):IntMulOk i j:=by
 rcases h with⟨h1,h2⟩|⟨h1,h2⟩;exact .of_left (intBits_le_64 h1 h2);exact .of_right (intBits_le_64 h1 h2)
def Lu:OpR X (binaryOp .Add) (rI0 fun i j=>.int (i+j)):=Qb fun _ _ _ _ _ _ _ q=>add_int q
def tV:OpR X (binaryOp .Sub) (rI0 fun i j=>.int (i-j)):=Qb fun _ _ _ _ _ _ _ q=>sub_int q
def kC:OpR X (binaryOp .Mult) (rI B9 fun i j=>.int (i*j)):=opI fun _ _ _ _ _ _ _ hc q=>mul_int q hc.ok
def og:OpR X (binaryOp .Mod) (rI (fun _ j=>0<j) fun i j=>.int (i % j)):=opI fun i j _ _ _ _ _ hc q=>by
 have h1:(0:Int)<j:=hc;exact mod_int' ⋯ (by rw[Int.fmod_eq_emod_of_nonneg i ⋯];exact q)
end
def OA:V->V->Bool
 |.non,.non=>true|.non,.int _=>true|.int _,.non=>true|.non,.bl _=>true|.bl _,.non=>true|.non,.str _=>true|.str _,.non=>true
 |.int _,.int _=>true|.bl _,.bl _=>true|.str _,.str _=>true|.byt _,.byt _=>true
 |.int _,.str _=>true|.str _,.int _=>true|.bl _,.str _=>true|.str _,.bl _=>true
 |_,_=>false
def rEq:R2:=fun x y H Q=>OA x y=true/\Q (.bl (decide (x=y))) H
def rNe:R2:=fun x y H Q=>OA x y=true/\Q (.bl (!decide (x=y))) H
def By{i j:Int}:decide (V.int i=V.int j)=(i == j):=by
 rw[XI];simp
def FW{i j:Bool}:decide (V.bl i=V.bl j)=(i == j):=by
 rw[XI];simp
def Bx{i j:Str}:decide (V.str i=V.str j)=(i == j):=by
 rw[XI];simp
def Bz{i j:Array UInt8}:decide (V.byt i=V.byt j)=(i.toList == j.toList):=by
 rw[XI];cases i;cases j;simp
section
variable{a c:ZR}
def bP{pins:List (Addr×Obj)}{σ:St}{H:Hp}{s:Q5}{Q:VK}{k k':Bool}(I:Inv X pins σ H s)(q:Q (.bl k) H)(e:k=k'):EP X pins σ Q (.bool k') s:=by
 subst e;exact⟨.bl k,H,I,rfl,q⟩
def eM:OpR X (compareOp .Eq) rEq:=by
 intro pins s σ H x y v u Q I rx ry h;obtain⟨hs,q⟩:=h;cases x with
 |non=>
  cases rx;cases y with
  |non=>cases ry;exact PySem.EqNone.eq_none_none (bP I q nofun)
  |bl j=>cases ry;exact PySem.EqNone.eq_none_bool (bP I q nofun)
  |int j=>obtain⟨t',rfl⟩:=ry;exact PySem.EqNone.eq_none_int (bP I q nofun)
  |str j=>obtain⟨t',rfl⟩:=ry;exact PySem.EqNone.eq_none_str (bP I q nofun)
  |_=>exact absurd (show false=true from hs) Z8
 |bl i=>
  cases rx;cases y with
  |non=>cases ry;exact PySem.EqNone.eq_bool_none (bP I q nofun)
  |bl j=>cases ry;exact eq_bool (bP I q FW)
  |str j=>obtain⟨t',rfl⟩:=ry;exact PySem.EqMixed.eq_bool_str (bP I q nofun)
  |_=>exact absurd (show false=true from hs) Z8
 |int i=>
  obtain⟨t,rfl⟩:=rx;cases y with
  |non=>cases ry;exact PySem.EqNone.eq_int_none (bP I q nofun)
  |int j=>obtain⟨t',rfl⟩:=ry;exact eq_int (bP I q By)
  |str j=>obtain⟨t',rfl⟩:=ry;exact PySem.EqMixed.eq_int_str (bP I q nofun)
  |_=>exact absurd (show false=true from hs) Z8
 |str i=>
  obtain⟨t,rfl⟩:=rx;cases y with
  |non=>cases ry;exact PySem.EqNone.eq_str_none (bP I q nofun)
  |bl j=>cases ry;exact PySem.EqMixed.eq_str_bool (bP I q nofun)
  |int j=>obtain⟨t',rfl⟩:=ry;exact PySem.EqMixed.eq_str_int (bP I q nofun)
  |str j=>obtain⟨t',rfl⟩:=ry;exact eq_str (bP I q Bx)
  |_=>exact absurd (show false=true from hs) Z8
 |byt i=>
  obtain⟨t,rfl⟩:=rx;cases y with
  |byt j=>obtain⟨t',rfl⟩:=ry;exact PySem.W.eq_bytes (bP I q Bz)
  |_=>exact absurd (show false=true from hs) Z8
 |_=>cases y<;>exact absurd (show false=true from hs) Z8
def HQ:OpR X (compareOp .NotEq) rNe:=by
 intro pins s σ H x y v u Q I rx ry h;obtain⟨hs,q⟩:=h;cases x with
 |non=>
  cases rx;cases y with
  |non=>cases ry;exact PySem.EqNone.ne_none_none (bP I q nofun)
  |bl j=>cases ry;exact PySem.EqNone.ne_none_bool (bP I q nofun)
  |int j=>obtain⟨t',rfl⟩:=ry;exact PySem.EqNone.ne_none_int (bP I q nofun)
  |str j=>obtain⟨t',rfl⟩:=ry;exact PySem.EqNone.ne_none_str (bP I q nofun)
  |_=>exact absurd (show false=true from hs) Z8
 |bl i=>
  cases rx;cases y with
  |non=>cases ry;exact PySem.EqNone.ne_bool_none (bP I q nofun)
  |bl j=>cases ry;exact ne_bool (bP I q (congrArg not FW))
  |str j=>obtain⟨t',rfl⟩:=ry;exact PySem.EqMixed.ne_bool_str (bP I q nofun)
  |_=>exact absurd (show false=true from hs) Z8
 |int i=>
  obtain⟨t,rfl⟩:=rx;cases y with
  |non=>cases ry;exact PySem.EqNone.ne_int_none (bP I q nofun)
  |int j=>obtain⟨t',rfl⟩:=ry;exact ne_int (bP I q (congrArg not By))
  |str j=>obtain⟨t',rfl⟩:=ry;exact PySem.EqMixed.ne_int_str (bP I q nofun)
  |_=>exact absurd (show false=true from hs) Z8
 |str i=>
  obtain⟨t,rfl⟩:=rx;cases y with
  |non=>cases ry;exact PySem.EqNone.ne_str_none (bP I q nofun)
  |bl j=>cases ry;exact PySem.EqMixed.ne_str_bool (bP I q nofun)
  |int j=>obtain⟨t',rfl⟩:=ry;exact PySem.EqMixed.ne_str_int (bP I q nofun)
  |str j=>obtain⟨t',rfl⟩:=ry;exact ne_str (bP I q (congrArg not Bx))
  |_=>exact absurd (show false=true from hs) Z8
 |byt i=>
  obtain⟨t,rfl⟩:=rx;cases y with
  |byt j=>obtain⟨t',rfl⟩:=ry;exact PySem.W.ne_bytes (bP I q (congrArg not Bz))
  |_=>exact absurd (show false=true from hs) Z8
 |_=>cases y<;>exact absurd (show false=true from hs) Z8
def Au:OpR X (compareOp .Lt) (rI0 fun i j=>.bl (decide (i<j))):=Nf fun _ _ _ _ _ _ _ q=>lt_int q
def Lo:OpR X (compareOp .LtE) (rI0 fun i j=>.bl (decide (i<=j))):=Nf fun _ _ _ _ _ _ _ q=>le_int q
def ym:OpR X (compareOp .Gt) (rI0 fun i j=>.bl (decide (j<i))):=Nf fun _ _ _ _ _ _ _ q=>gt_int q
def Lp:OpR X (compareOp .GtE) (rI0 fun i j=>.bl (decide (j<=i))):=Nf fun _ _ _ _ _ _ _ q=>ge_int q
def tY:OpR X (compareOp .Is) (fun x y H Q=>y=.non/\Q (.bl (decide (x=.non))) H):=by
 intro pins s σ H x y v u Q I rx ry h;obtain⟨rfl,q⟩:=h;cases ry;refine is_none_gen (bP I q ?_);cases x<;>first
  |(cases rx;rfl)
  |(obtain⟨t,rfl⟩:=rx;rfl)
def vA:OpR X (compareOp .IsNot) (fun x y H Q=>y=.non/\Q (.bl (!decide (x=.non))) H):=by
 intro pins s σ H x y v u Q I rx ry h;obtain⟨rfl,q⟩:=h;cases ry;refine isnot_none_gen (bP I q ?_);cases x<;>first
  |(cases rx;rfl)
  |(obtain⟨t,rfl⟩:=rx;rfl)
def OpR.or{f:Q4->Q4->Sem Q4}{r r':R2}(h:OpR X f r)(h':OpR X f r'):OpR X f (fun x y H Q=>r x y H Q\/r' x y H Q):=by
 intro pins s σ H x y v u Q I rx ry q;rcases q with q|q;exact h pins s σ H x y v u Q I rx ry q;exact h' pins s σ H x y v u Q I rx ry q
noncomputable def aV(b:ZR){op:CmpOp}(h:op≠.In:=by decide)(h2:op≠.NotIn:=by decide):behindInMarks op b=false:=by
 have e1:(op == CmpOp.In)=false:=by cases op<;>first|rfl|exact absurd rfl h
 have e2:(op == CmpOp.NotIn)=false:=by cases op<;>first|rfl|exact absurd rfl h2
 cases b<;>simp[behindInMarks,e1,e2]
def HG{op:CmpOp}{r:R2}(ho:OpR X (compareOp op) r)(ha:PE X a ta)(hb:PE X b tb)(hm:behindInMarks op b=false):PE X (.Compare a [op] [b] pos) (tOp r ta tb):=by
 intro pins s σ H Q I h;exact wpAny_Compare1 (PB ha hb I h fun v u s2 x y H2 I2 rx ry q=>ho pins s2 σ H2 x y v u Q I2 rx ry q) hm
def Kf(t:TE):TT:=fun σ H Q=>t σ H fun x H'=>∃k,x=.bl k/\Q k H'
def Hr{op:CmpOp}{r:R2}(ho:OpR X (compareOp op) r)(ha:PE X a ta)(hb:PE X b tb)(hm:behindInMarks op b=false):PT X (.Compare a [op] [b] pos) (Kf (tOp r ta tb)):=by
 intro pins s σ H Q I h;refine wpAny_isTrue_Compare1 (thn (ha pins s σ H _ I h) fun v s1 ⟨x,H1,I1,r1,q1⟩=>thn (hb pins s1 σ H1 _ I1 q1) fun u s2 ⟨y,H2,I2,r2,q2⟩=>
  thn (ho pins s2 σ H2 x y v u _ I2 r1 r2 q2) fun c s3 ⟨z,H3,I3,r3,k,e,q3⟩=>?_) hm
 subst e;cases r3;exact wpAny_truthy_bool ⟨H3,I3,q3⟩
def w8:(ZU:Nat)<2^63:=by rw[sizeLine_eq];decide
def yn:OpR X (binaryOp .Add) (fun x y H Q=>∃i j,x=.str i/\y=.str j/\i.length+j.length<=ZU/\Q (.str (i++j)) H):=by
 intro pins s σ H x y v u Q I rx ry h;obtain⟨i,j,rfl,rfl,hz,q⟩:=h;obtain⟨t,rfl⟩:=rx;obtain⟨t',rfl⟩:=ry;exact add_str (fun t' tk=>⟨.str (i++j),H,I.tok _,⟨_,rfl⟩,q⟩) hz
def m8{x:V}{us:List Q4}(r:cm [x] us):∃u,us=[u]/\dk x u:=by
 cases r with
 |cons r1 r2=>cases r2;exact⟨_,rfl,r1⟩
def J9{x y:V}{us:List Q4}(r:cm [x,y] us):∃u w',us=[u,w']/\dk x u/\dk y w':=by
 cases r with
 |cons r1 r2=>
  cases r2 with
  |cons r3 r4=>cases r4;exact⟨_,_,rfl,r1,r3⟩
def BF(hc:X.calm=true):hV X (.builtin "max") (fun xs H Q=>∃i j,xs=[.int i,.int j]/\Q (.int (if j>i then j else i)) H):=by
 intro pins s σ H xs us Q I r h;obtain⟨i,j,rfl,q⟩:=h;obtain⟨u,w',rfl,⟨t,rfl⟩,⟨t',rfl⟩⟩:=J9 r;refine max_two_ints (I.ok.hd hc) fun h' tk k=>⟨_,H,I.kept k,?_,q⟩;by_cases hj:j>i;rw[Xd hj,Xd hj];exact⟨_,rfl⟩;rw[Xf hj,Xf hj];exact⟨_,rfl⟩
def BE(hc:X.calm=true):hV X (.builtin "min") (fun xs H Q=>∃i j,xs=[.int i,.int j]/\Q (.int (if j<i then j else i)) H):=by
 intro pins s σ H xs us Q I r h;obtain⟨i,j,rfl,q⟩:=h;obtain⟨u,w',rfl,⟨t,rfl⟩,⟨t',rfl⟩⟩:=J9 r;refine min_two_ints (I.ok.hd hc) fun h' tk k=>⟨_,H,I.kept k,?_,q⟩;by_cases hj:j<i;rw[Xd hj,Xd hj];exact⟨_,rfl⟩;rw[Xf hj,Xf hj];exact⟨_,rfl⟩
def BH:hV X (.type "int") (fun xs H Q=>(∃i,xs=[.int i]/\Q (.int i) H)\/∃k,xs=[.bl k]/\Q (.int (if k then 1 else 0)) H):=by
 intro pins s σ H xs us Q I r h;rcases h with⟨i,rfl,q⟩|⟨k,rfl,q⟩;obtain⟨u,rfl,t,rfl⟩:=m8 r;exact call_int_int ⟨.int i,H,I,⟨_,rfl⟩,q⟩;obtain⟨u,rfl,r1⟩:=m8 r;cases r1;exact call_int_bool ⟨.int (if k then 1 else 0),H,I.tok _,⟨_,rfl⟩,q⟩
end
structure Jd(h:Heap)(x dx C:Addr)(mA:Str->Option Q4):Prop where
 obj:h.get? x=some (YD C dx)
 ns:h.Ns1 dx mA
 ne:dx≠x
def AE{h:Heap}{dx:Addr}{mA:Str->Option Q4}(n:h.Ns1 dx mA):∃od,h.get? dx=some od/\∀name,PySem.W.lookIn name od=some (mA name):=by
 obtain⟨o,es,ep,ho,hd,hk,_,hm⟩:=n;refine⟨o,ho,fun name=>?_⟩;have e:=hm name;unfold nsFind findBy at e;rw[<-Array.find?_toList]at e;unfold PySem.W.lookIn;rw[hd];dsimp only;split;rename_i y q;rw[q]at e;exact congrArg some e;rename_i q;rw[q]at e;have a:es.toList.any (·.refKey)=false:=by
  rw[List.any_eq_false];intro y hy;obtain⟨z,t,hkey⟩:=hk y (Array.mem_toList_iff.mp hy);simp[DictEntry.refKey,hkey]
 have a':¬es.toList.any (·.refKey)=true:=by rw[a];exact Z8
 rw[Xf a'];exact congrArg some e
def Jd.look{h:Heap}{x dx C:Addr}{mA:Str->Option Q4}(I:Jd h x dx C mA):∃od,PySem.W.InstAt h x (YD C dx) C (some od)/\∀name,PySem.W.lookIn name od=some (mA name):=
 let ⟨od,ho,hl⟩:=AE I.ns
 ⟨od,⟨I.obj,rfl,rfl,ho⟩,hl⟩
variable{A:Zy}{dx C f:Addr}
section
variable{prog:ZI}{w:Zk}{K:Q3}{mA:Str->Option Q4}{name:Str}{v:Q4}
def IH{expr:Bool}{Q:Q4->Q5->Prop}(X:K.In s.heap)(I:Jd s.heap x dx C mA)(hg:YG K C name=true)(hh:PySem.W.hasDictIn K C=true)
  (ha:Y0 K (.ref C) name=some none) (hv:mA name=some v) (hv':PySem.W.handedIn v=true) (h:Q v { s with toks:=s.toks+1 }) :
  wpAny (ZL prog w) A (getAttr (.ref x) name expr) Q E s:=by
 obtain⟨od,J,hl⟩:=I.look;exact PySem.W.get_value X J (PySem.W.plainGet_of hg).1 (PySem.W.findObj_own hh ha rfl (by rw[hl,hv])) hv' h
def Ej{pl:Sem Bool}{Q:Q4×List Q4->Q5->Prop}(X:K.In s.heap)(I:Jd s.heap x dx C mA)(hg:YG K C name=true)
  (hf:Y0 K (.ref C) name=some (some (.ref f))) (ht:YF K (.ref f)=true) (hv:mA name=none) (h:Q (.ref f,[.ref x]) s) :
  wpAny (ZL prog w) A (getMethod (.ref x) name pl) Q E s:=by
 obtain⟨od,J,hl⟩:=I.look;exact PySem.W.method_fn X J (PySem.W.plainGet_of hg).1 (PySem.W.plainGet_of hg).2 hf (beq_iff_eq.mp ht) (by show(PySem.W.lookIn name od).map (·.isSome)=some false;rw[hl,hv];rfl) h
def Hf{ns:List Str}{Q:Unit->Q5->Prop}(X:K.In s.heap)(I:Jd s.heap x dx C mA)
  (hs:Y0 K (.ref C) "__setattr__"=some (some (.builtin "object.__setattr__"))) (hp:PySem.W.plainOver K C=true) (ht:PySem.W.takerIn K C name=some none) (hh:PySem.W.hasDictIn K C=true)
  (hw:PySem.Within mA ns) (hsz:ns.length<=ZU)
  (h:∀h',Jd h' x dx C (fun y=>if y=name then some v else mA y)->Heap.SameBut dx s.heap h'->Q () { s with heap:=h',toks:=s.toks+2 }) :
  wpAny (ZL prog w) A (setAttr (.ref x) name v) Q E s:=by
 obtain⟨od,J,hl⟩:=I.look;refine PySem.W.set_plain X J hs (PySem.W.osa_open (s:={ s with toks:=s.toks+1 }) (r:=none) X J hp ht fun b=>?_);obtain⟨cd,hc,hd'⟩:=PySem.W.any_some hh;have hx:s.heap.get? x=some ⟨.ref C,some dx,.plain,#[]⟩:=I.obj;refine Q8 (ZC (Q8 (Q8 (wpAny_loadPart hx (Q8 (PySem.W.Looks.here (s:={ s with toks:=s.toks+1 }) (PySem.W.looks_clsIn X hc) ?_))))));rw[hd'];refine ZC (a:=some dx) (Q8 (ZC (Q8 ?_)));refine wpAny_nsSet1 (s:={ s with toks:=s.toks+1 }) I.ns fun h' hn2 hs2=>?_;obtain⟨oD,esD,epD,hoD,hdD,hcD⟩:=hn2.count (PySem.Within.cons name v hw);refine Q8 (wpAny_lookBehind hoD (by rw[hdD];exact pastItsLine_dict (Zw hcD (by rw[ZZ];omega))) ?_);exact ZC (h _ ⟨(hs2.2 _ (Ne.symm I.ne)).trans I.obj,hn2,I.ne⟩ hs2)
def DR{R:Result->Q5->Prop}{vs:List Q4}{kw:List (Str×Q4)}(X:K.In s.heap)(hm:PySem.W.makesIn K C=true)
  (hi:Y0 K (.ref C) "__init__"=some (some (.ref f))) (hf:PySem.W.typeIn K (.ref f)=some (.type "function"))
  (h:codeAny (ZL prog w) (A.under (.builtin "type.__call__" ⟨.ref C::vs,kw⟩)) (.call (.ref f) ⟨.ref (s.heap.objs.size+1)::vs,kw⟩) (PySem.W.InitBack (s.heap.objs.size+1) R)
   { s with heap:=(s.heap.push YA).push (YD C s.heap.objs.size) }) :
  codeAny (ZL prog w) A (.call (.ref C) ⟨vs,kw⟩) R s:=by
 obtain⟨hh,g,d,t,os⟩:=s;exact PySem.W.make_core (PySem.W.makes_of X hm) (PySem.W.looks_findIn X hi) (fun self=>PySem.W.bind_fn X self hf) (.inl rfl) h
end
noncomputable def oW(f:Str)(v:V):List (Str×V)->List (Str×V)
 |[]=>[(f,v)]
 |(g,x)::r=>if g=f then(g,v)::r else(g,x)::oW f v r
def jU(f g:Str)(v:V):∀fs:List (Str×V),(oW f v fs).lookup g=if g=f then some v else fs.lookup g
 |[]=>by
  show List.lookup g [(f,v)]=_;by_cases h:g=f;have hb:(g == f)=true:=beq_iff_eq.mpr h;simp only[List.lookup,hb,Xd h];have hb:(g == f)=false:=beq_eq_false_iff_ne.mpr h;simp only[List.lookup,hb,Xf h]
 |(k,x)::r=>by
  have ih:=jU f g v r;rw[show oW f v ((k,x)::r)=(if k=f then(k,v)::r else(k,x)::oW f v r)from rfl];by_cases hk:k=f
  ·rw[Xd hk];by_cases h:g=k;have hb:(g == k)=true:=beq_iff_eq.mpr h;simp only[List.lookup,hb,Xd (h.trans hk)];have hb:(g == k)=false:=beq_eq_false_iff_ne.mpr h;simp only[List.lookup,hb,Xf (fun e:g=f=>h (e.trans hk.symm))]
  ·rw[Xf hk];by_cases h:g=k;have hb:(g == k)=true:=beq_iff_eq.mpr h;simp only[List.lookup,hb,Xf (fun e:g=f=>hk (h.symm.trans e))];have hb:(g == k)=false:=beq_eq_false_iff_ne.mpr h;simp only[List.lookup,hb];exact ih
def gv(f:Str)(v:V):∀fs:List (Str×V),f∈(oW f v fs).map (·.1)/\∀g,g∈fs.map (·.1)->g∈(oW f v fs).map (·.1)
 |[]=>⟨by simp[oW],fun g h=>by simp at h⟩
 |(k,x)::r=>by
  obtain⟨i1,i2⟩:=gv f v r;rw[show oW f v ((k,x)::r)=(if k=f then(k,v)::r else(k,x)::oW f v r)from rfl];by_cases hk:k=f
  ·rw[Xd hk];subst hk;exact⟨nofun,fun g h=>by simpa using h⟩
  ·rw[Xf hk];refine⟨?_,fun g h=>?_⟩;rw[ZK];exact ZJ _ i1;rw[ZK]at h ⊢;rcases ZD.mp h with e|e;exact ZD.mpr (.inl e);exact ZJ _ (i2 g e)
def ow(f:Str)(v:V):∀fs:List (Str×V),(oW f v fs).length<=fs.length+1
 |[]=>by simp[oW]
 |(k,x)::r=>by
  have ih:=ow f v r;rw[show oW f v ((k,x)::r)=(if k=f then(k,v)::r else(k,x)::oW f v r)from rfl];by_cases hk:k=f
  ·rw[Xd hk,ZZ,ZZ];omega
  ·rw[Xf hk,ZZ,ZZ];omega
def se.some_of{v:V}{o:Option Q4}(r:se (some v) o):∃u,o=some u/\dk v u:=by
 cases o with
 |none=>exact(show False from r).elim
 |some u=>exact⟨u,rfl,r⟩
def se.none_of{o:Option Q4}(r:se none o):o=none:=by
 cases o with
 |none=>rfl
 |some u=>exact(show False from r).elim
def A9{v:V}{u:Q4}(r:dk v u):PySem.W.handedIn u=true:=by
 cases v with
 |non=>cases (show u=Value.none from r);rfl
 |bl b=>cases (show u=Value.bool b from r);rfl
 |int i=>obtain⟨t,e⟩:=(show ∃t,u=Value.int i t from r);cases e;rfl
 |str x=>obtain⟨t,e⟩:=(show ∃t,u=Value.str x t from r);cases e;rfl
 |byt b=>obtain⟨t,e⟩:=(show ∃t,u=Value.bytes b t from r);cases e;rfl
 |flt b=>obtain⟨t,e⟩:=(show ∃t,u=Value.float b t from r);cases e;rfl
 |ref a=>cases (show u=Value.ref a from r);rfl
 |ty n=>cases (show u=Value.type n from r);rfl
section
variable{w:Zk}{fs:List (Str×V)}
def vJ(hok:HOk P w H h)(e:H a=some (.ins C dx fs)):∃mA,Jd h a dx C mA/\(∀f,se (fs.lookup f) (mA f))/\PySem.Within mA (fs.map (·.1))/\fs.length<=1000/\H dx=some (.own a):=by
 obtain⟨d,z,ne,ob,mA,n,r,q⟩:=(show eN P w H h a (.ins C dx fs)from hok a _ e);exact⟨mA,⟨ob,n,ne⟩,r,q,z,d⟩
end
structure Cls(K:Q3)(C:Addr):Prop where
 pg:YG K C Str.empty=true
 hd:PySem.W.hasDictIn K C=true
 po:PySem.W.plainOver K C=true
 sa:Y0 K (.ref C) "__setattr__"=some (some (.builtin "object.__setattr__"))
def Cls.get{K:Q3}{C:Addr}(c:Cls K C)(f:Str):YG K C f=true:=c.pg
def jP(K:Q3)(C:Addr)(f:Str):Prop:=Y0 K (.ref C) f=some none
def jP.taker{K:Q3}{C:Addr}{f:Str}(n:jP K C f):PySem.W.takerIn K C f=some none:=by
 unfold PySem.W.takerIn;rw[show Y0 K (.ref C) f=some none from n];rfl
structure Je(K:Q3)(C:Addr)(m:Str)(f:Addr):Prop where
 at_:Y0 K (.ref C) m=some (some (.ref f))
 fn:YF K (.ref f)=true
 kp:YC K (.ref f)=true
section
variable{fs:List (Str×V)}{f:Str}{v:V}
def yx{b:Bool}{Q:Q4->Q5->Prop}(I:Inv X pins σ H s)(e:H a=some (.ins C dx fs))(c:Cls X.K C)(n:jP X.K C f)(l:fs.lookup f=some v)
  (h:∀u s',Inv X pins σ H s'->dk v u->Q u s'):wpAny (ZL X.prog X.w) A (getAttr (.ref a) f b) Q E s:=by
 obtain⟨mA,O,r,_,_,_⟩:=vJ I.hok e;obtain⟨u,hu,ru⟩:=se.some_of (v:=v) (o:=mA f) (by rw[<-l];exact r f);exact IH I.kIn O (c.get f) c.hd n hu (A9 ru) (h u _ (I.tok _) ru)
def qz{m:Str}{g:Addr}{pl:Sem Bool}{Q:Q4×List Q4->Q5->Prop}(I:Inv X pins σ H s)(e:H a=some (.ins C dx fs))(c:Cls X.K C)(k:Je X.K C m g)(l:fs.lookup m=none)
  (h:Q (.ref g,[.ref a]) s):wpAny (ZL X.prog X.w) A (getMethod (.ref a) m pl) Q E s:=by
 obtain⟨mA,O,r,_,_,_⟩:=vJ I.hok e;have hn:mA m=none:=se.none_of (by rw[<-l];exact r m);exact Ej I.kIn O (c.get m) k.at_ k.fn hn h
def yh{y:V}{u:Q4}{Q:Unit->Q5->Prop}(I:Inv X pins σ H s)(e:H a=some (.ins C dx fs))(c:Cls X.K C)(n:jP X.K C f)(hl:fs.length<1000)(ry:dk y u)
  (h:∀s',Inv X pins σ (upd H a (.ins C dx (oW f y fs))) s'->Q () s'):wpAny (ZL X.prog X.w) A (setAttr (.ref a) f u) Q E s:=by
 obtain⟨mA,O,r,wi,_,ho⟩:=vJ I.hok e;have hz:(fs.map (·.1)).length<=ZU:=by rw[Q7,sizeLine_eq];omega
 refine Hf I.kIn O c.sa c.po n.taker c.hd wi hz fun h' O' sb=>h _ ?_;have hd:∃o,h'.get? dx=some o:=let ⟨o,_,_,e',_⟩:=O'.ns;⟨o,e'⟩
 refine I.write (x:=a) (e:=dx) (by rw[e];exact True.intro) (.inr ho) (fun b q hb z=>(sb.2 b hb).trans z) hd ?_;refine⟨by rw[aM O.ne];exact ho,?_,O.ne,O'.obj,_,O'.ns,fun g=>?_,fun g hg=>?_⟩;have:=ow f y fs;omega;show se ((oW f y fs).lookup g) (if g=f then some u else mA g);rw[jU];by_cases q:g=f;rw[Xd q,Xd q];exact ry;rw[Xf q,Xf q];exact r g;by_cases q:g=f;rw[q];exact(gv f y fs).1;refine(gv f y fs).2 g (wi g fun z=>hg ?_);show(if g=f then some u else mA g)=none;rw[Xf q];exact z
def Inv.made(I:Inv X pins σ H s):Inv X pins σ (upd (upd H s.heap.objs.size (.own (s.heap.objs.size+1))) (s.heap.objs.size+1) (.ins C s.heap.objs.size []))
  { s with heap:=(s.heap.push YA).push (YD C s.heap.objs.size) }:=by
 have e1:(s.heap.push YA).get? s.heap.objs.size=some YA:=ZT s.heap rfl;have e2:((s.heap.push YA).push (YD C s.heap.objs.size)).get? (s.heap.objs.size+1)=some (YD C s.heap.objs.size):=by
  have:=ZT (s.heap.push YA) (o:=YD C s.heap.objs.size) rfl;rwa[Yd]at this
 have e3:(s.heap.push YA).Ns s.heap.objs.size (fun _=>none):=⟨YA,#[],_,e1,rfl,(fun e he=>absurd he nofun),fun _=>rfl⟩;have I1:=I.laid (a:=s.heap.objs.size) (o:=.own (s.heap.objs.size+1)) (h':=s.heap.push YA) (t':=s.toks) (fun b u q=>Q9 _ q) (Z6 _) ⟨_,e1⟩;refine I1.laid (a:=s.heap.objs.size+1) (o:=.ins C s.heap.objs.size []) (t':=s.toks) (fun b u q=>Q9 _ q) (Nat.le_of_eq (Yd _ _)) ?_;have ne:s.heap.objs.size≠s.heap.objs.size+1:=Zq (Nat.lt_succ_self _);refine⟨by rw[aM ne,aJ],Zp _,ne,e2,fun _=>none,(Heap.Ns1.of_empty e3).at fun o q=>Q9 _ q,fun _=>True.intro,fun y hy=>absurd rfl hy⟩
def Ja{prog:ZI}{w:Zk}{env:Env}{e:ZR}{f:Str}{pos:Pos}{s:Q5}{Q:Q4->Q5->Prop}(hb:attributeBase e f env (eval e env)=eval e env)
  (h:wpAny (ZL prog w) A (eval e env) (fun o s₁=>wpAny (ZL prog w) A (getAttr o f true) Q E s₁) E s):wpAny (ZL prog w) A (eval (.Attribute e f pos) env) Q E s:=
 Attribute_any_ h (by rw[arm_eval_Attribute,hb])
end
def PZ(K:Q3)(ta:TE)(f:Str):TE:=fun σ H Q=>ta σ H fun x H1=>∃a C dx fs v,x=.ref a/\H1 a=some (.ins C dx fs)/\Cls K C/\jP K C f/\fs.lookup f=some v/\Q v H1
def P6(K:Q3)(ta tv:TE)(f:Str):TS:=fun D σ H=>tv σ H fun y H1=>ta σ H1 fun x H2=>∃a C dx fs,x=.ref a/\H2 a=some (.ins C dx fs)/\Cls K C/\jP K C f/\fs.length<1000/\
 D.nx σ (upd H2 a (.ins C dx (oW f y fs)))
section
variable{o e value:ZR}{f:Str}{pos':Pos}{tv:TE}
def Lc(he:PE X e ta)(hb:attributeBase e f X.env (eval e X.env)=eval e X.env):PE X (.Attribute e f pos) (PZ X.K ta f):=by
 intro pins s σ H Q I h;refine Ja hb (thn (he pins s σ H _ I h) fun u s1 hz=>?_);obtain⟨x,H1,I1,rx,a,C,dx,fs,v,ex,ea,c,n,l,q⟩:=hz;subst ex;obtain rfl:u=Value.ref a:=rx;exact yx I1 ea c n l fun u' s2 I2 ru=>⟨v,H1,I2,ru,q⟩
def KU(ha:PE X o ta)(hv:PE X value tv)(hs:XT value (some (.Attribute o f pos')) pos.line X.env=pure false):PS X (.Assign [.Attribute o f pos'] value pos) (P6 X.K ta tv f):=by
 intro pins s σ H D I h;refine plainObj_wpAny_Assign_Attribute (thn (hv pins s σ H _ I h) fun u s1 ⟨y,H1,I1,ry,q⟩=>thn (ha pins s1 σ H1 _ I1 q) fun ov s2 hz=>?_) hs;obtain⟨x,H2,I2,rx,a,C,dx,fs,ex,ea,c,n,l,q2⟩:=hz;subst ex;obtain rfl:ov=Value.ref a:=rx;exact yh I2 ea c n l ry fun s3 I3=>⟨σ,_,I3,q2⟩
end
structure fb(k:Nat)(A:Zy):Prop where
 hd:A.handled=none
 dp:A.depth+3*k+5<recursionLimit
 un:A.units+16*k+200<cLine
 gd:A.guards=some []
def fb.mono{j k:Nat}{A:Zy}(r:fb k A)(h:j<=k):fb j A:=⟨r.hd,by have:=r.dp;omega,by have:=r.un;omega,r.gd⟩
def fb.deeper{k:Nat}{A:Zy}(r:fb (k+1) A)(env:Env):fb k (A.deeper env):=
 ⟨r.hd,by have:=r.dp;show A.depth+1+3*k+5<_;omega,by have:=r.un;show A.units+3+16*k+200<_;omega,r.gd⟩
def fb.in1{k:Nat}{A:Zy}(r:fb (k+1) A):fb k A.in1:=
 ⟨r.hd,by have:=r.dp;show A.depth+3*k+5<_;omega,by have:=r.un;show A.units+1+16*k+200<_;omega,r.gd⟩
def yq{A:Zy}{C:Addr}{us:List Q4}{kw:List (Str×Q4)}:(A.under (.builtin "type.__call__" ⟨.ref C::us,kw⟩)).depth=A.depth+1:=by
 first|rfl|simp[Around.under,Code.weight,Code.isCreation,Code.isGuard,Code.isCaller,Code.frames,Code.isFrame,guardIds]
def yp{A:Zy}{C:Addr}{us:List Q4}{kw:List (Str×Q4)}:(A.under (.builtin "type.__call__" ⟨.ref C::us,kw⟩)).units=A.units+1:=by
 first|rfl|simp[Around.under,Code.cUnits,Code.frames,Code.isFrame]
def fb.make{k:Nat}{A:Zy}(r:fb (k+1) A)(C:Addr)(us:List Q4)(kw:List (Str×Q4)):fb k (A.under (.builtin "type.__call__" ⟨.ref C::us,kw⟩)):=
 ⟨r.hd,by have:=r.dp;rw[yq];omega,by have:=r.un;rw[yp];omega,r.gd⟩
def fb.depth{k:Nat}{A:Zy}(r:fb k A):A.depth<recursionLimit:=by have:=r.dp;omega
def fb.units{k:Nat}{A:Zy}(r:fb k A):A.units+64<cLine:=by have:=r.un;omega
def MX:TA:=fun _ H Q=>Q [] H
def Ko(ta:TE)(tr:TA):TA:=fun σ H Q=>ta σ H fun x H1=>tr σ H1 fun xs H2=>Q (x::xs) H2
variable{es:List ZR}{t:TA}
section
variable{e:ZR}
def Li:PA X [] MX:=fun _ _ _ _ H Q I h=>Calls.spliced_nil ⟨[],H,I,.nil,h⟩
def HJ(ha:PE X e te)(hr:PA X es t)(hs:Z9 (e::es) X.env=(false,eval e X.env)::Z9 es X.env:=by rfl):PA X (e::es) (Ko te t):=by
 intro pos pins s σ H Q I h;rw[hs];show wpAny _ _ (spliced ((false,eval e X.env)::Zi pos (Z9 es X.env))) _ _ s;refine Calls.spliced_cons (thn (ha pins s σ H _ I h) fun u s1 hz=>?_);obtain⟨x,H1,I1,r1,q1⟩:=hz;exact thn (hr pos pins s1 σ H1 _ I1 q1) fun us s2 ⟨xs,H2,I2,r2,q2⟩=>⟨x::xs,H2,I2,.cons r1 r2,q2⟩
def PN(t:TA):TE:=fun σ H Q=>t σ H fun xs H1=>xs.length<=ZU/\∀p,H1 p=none->Q (.ref p) (upd H1 p (.tup xs))
def PX(t:TA):TE:=fun σ H Q=>t σ H fun xs H1=>xs.length<=ZU/\∀p,H1 p=none->Q (.ref p) (upd H1 p (.lst xs))
def K5{x1}(h:PA X es t):PE X (.Tuple es x1 pos) (PN t):=by
 intro pins s σ H Q I hq;refine wpAny_Tuple_spliced (thn (h pos pins s σ H _ I hq) fun us s1 ⟨xs,H1,I1,r,z,q⟩=>⟨by rw[<-r.length];exact z,?_⟩);have hf:H1 s1.heap.objs.size=none:=I1.hok.fresh (Z6 _);refine⟨.ref s1.heap.objs.size,upd H1 s1.heap.objs.size (.tup xs),I1.laid (t':=s1.toks) (fun b u e=>Q9 _ e) (Z6 _) ?_,rfl,q _ hf⟩;exact⟨z,us,r,⟨_,ZT _ rfl,rfl,_,rfl⟩⟩
def La(h:PA X es t):PE X (.List es pos) (PX t):=by
 intro pins s σ H Q I hq;refine wpAny_List_spliced (thn (h pos pins s σ H _ I hq) fun us s1 ⟨xs,H1,I1,r,z,q⟩=>⟨by rw[<-r.length];exact z,?_⟩);have hf:H1 s1.heap.objs.size=none:=I1.hok.fresh (Z6 _);refine⟨.ref s1.heap.objs.size,upd H1 s1.heap.objs.size (.lst xs),I1.laid (t':=s1.toks) (fun b u e=>Q9 _ e) (Z6 _) ?_,rfl,q _ hf⟩;exact⟨z,us,0,r,ZT _ rfl⟩
end
abbrev Sp:=List V->Hp->VK->XK->Prop
abbrev CXT:=List Env->Hp->Q5->XK->Q4->Q5->Prop
structure wj(P:ZI)(w:Zk)(K:Q3)(mg:Str->Option Q4)(base:Heap)(A:Zy)(outer:List Env)(s:Q5)(H:Hp):Prop where
 frames:A.frames=some outer
 mod:Mod K mg base
 bs:∀b o,base.get? b=some o->s.heap.get? b=some o/\H b=none
 bsz:base.objs.size<=s.heap.objs.size
 funs:s.heap.FunFrames base outer
 frf:∀b∈frs outer,H b=none
 hok:HOk P w H s.heap
 bare:AllBare s.gens
def CE(outer:List Env)(P:ZI)(w:Zk)(H:Hp)(s:Q5)(Q:VK)(u:Q4)(s':Q5):Prop:=
 ∃v H',s'.os=s.os/\AllBare s'.gens/\Un (frs outer) [] H H' s.heap s'.heap/\HOk P w H' s'.heap/\dk v u/\Q v H'
def CR(CX:CXT)(outer:List Env)(P:ZI)(w:Zk)(H:Hp)(s:Q5)(Q:VK)(E:XK)(r:Result)(s':Q5):Prop:=
 match r with
 |.ok (.ret u)=>CE outer P w H s Q u s'
 |.ok _=>False
 |.error e=>CX outer H s E e s'
structure lQ(P:ZI)(w:Zk)(K:Q3)(mg:Str->Option Q4)(base:Heap)(CX:CXT)(k:Nat)(f:Addr)(fd:XE)(ps:List Str)(sp:Sp):Prop where
 len:∀vs H Q E,sp vs H Q E->vs.length=ps.length
 run:∀(A:Zy) (outer:List Env) (s:Q5) (H:Hp) (args:Args) (us:List Q4) (vs:List V) (Q:VK) (E:XK),fb k A->wj P w K mg base A outer s H->BindsTo s fd args (ps.zip us)->cm vs us->sp vs H Q E->
  codeAny (ZL P w) A (.call (.ref f) args) (CR CX outer P w H s Q E) s
def lQ.mono{P:ZI}{w:Zk}{K:Q3}{mg:Str->Option Q4}{base:Heap}{CX:CXT}{j k:Nat}{f:Addr}{fd:XE}{ps:List Str}{sp:Sp}(F:lQ P w K mg base CX j f fd ps sp)(h:j<=k) :
  lQ P w K mg base CX k f fd ps sp:=⟨F.len,fun A outer s H args us vs Q E hr=>F.run A outer s H args us vs Q E (hr.mono h)⟩
def wj.make{P:ZI}{w:Zk}{K:Q3}{mg:Str->Option Q4}{base:Heap}{A:Zy}{outer:List Env}{s:Q5}{H:Hp}(e:wj P w K mg base A outer s H)(C:Addr)(us:List Q4)(kw:List (Str×Q4)) :
  wj P w K mg base (A.under (.builtin "type.__call__" ⟨.ref C::us,kw⟩)) outer s H:=⟨by first|exact e.frames|(simpa [Around.under,Code.envs,Code.isFrame,pushEnvs] using e.frames),e.mod,e.bs,e.bsz,e.funs,e.frf,e.hok,e.bare⟩
def wj.in1{P:ZI}{w:Zk}{K:Q3}{mg:Str->Option Q4}{base:Heap}{A:Zy}{outer:List Env}{s:Q5}{H:Hp}(e:wj P w K mg base A outer s H) :
  wj P w K mg base A.in1 outer s H:=⟨e.frames,e.mod,e.bs,e.bsz,e.funs,e.frf,e.hok,e.bare⟩
section
variable{s':Q5}
def Inv.env0(I:Inv X pins σ H s):wj X.prog X.w X.K X.mg X.base X.A X.stack s H:=
 ⟨I.ok.frames,I.ok.mod,I.bs,Zw I.ok.bsz I.sz,I.stack,I.stkFree,I.hok,I.bare⟩
def Inv.after{Q:VK}{u:Q4}(I:Inv X pins σ H s)(h:CE X.stack X.prog X.w H s Q u s'):EP X pins σ Q u s':=by
 obtain⟨v,H',os,bare,un,hok,r,q⟩:=h;obtain⟨hh,g,d,t,os'⟩:=s';obtain rfl:os'=s.os:=os;exact⟨v,H',I.call (h':=hh) (g':=g) (d':=d) (t':=t) (ch:=[]) un hok bare (fun b z=>absurd z nofun),r,q⟩
end
def Kq(sp:Sp)(dvs:List V)(E:XK)(t:TA):TE:=fun σ H Q=>t σ H fun vs H1=>sp (vs++dvs) H1 Q E
def zN(C:Addr)(m:Str)(sp:Sp)(dvs:List V)(E:XK)(ta:TE)(t:TA):TE:=fun σ H Q=>ta σ H fun x H1=>∃a dx fs,x=.ref a/\H1 a=some (.ins C dx fs)/\fs.lookup m=none/\
 t σ H1 fun vs H2=>sp (x::(vs++dvs)) H2 Q E
def G8(C:Addr)(sp:Sp)(dvs:List V)(E:XK)(t:TA):TE:=fun σ H Q=>t σ H fun vs H1=>∀x dx,H1 x=none->H1 dx=none->dx≠x->
 sp (.ref x::(vs++dvs)) (upd (upd H1 dx (.own x)) x (.ins C dx [])) (fun v H2=>v=.non/\Q (.ref x) H2) E
def iE(K:Q3)(fd:XE)(ps:List Str)(ds:List Q4):Prop:=
 ∀(s:Q5) (us:List Q4),K.In s.heap->(us++ds).length=ps.length->BindsTo s fd ⟨us,[]⟩ (ps.zip (us++ds))
def iE.all{K:Q3}{fd:XE}{ps:List Str}(h:∀us:List Q4,us.length=ps.length->bindArgs fd ⟨us,[]⟩=pure (ps.zip us)):iE K fd ps []:=fun s us _ hl=>by
 rw[Zj]at hl ⊢;exact .of_eq (h us hl)
def jN(CX:CXT)(X:Cx)(E:XK):Prop:=∀(pins:List (Addr×Obj)) (σ:St) (H:Hp) (s:Q5) (e:Q4) (s':Q5),Inv X pins σ H s->CX X.stack H s E e s'->X.xe e s'
variable{p:Pos}
section
variable{CX:CXT}{k:Nat}{fd:XE}{ps:List Str}{sp:Sp}{dvs:List V}{ds:List Q4}{E:XK}{x m:Str}{apos:Pos}{e o:ZR}
def zT{pins:List (Addr×Obj)}{σ:St}{H:Hp}{s:Q5}{Q:VK}{us:List Q4}{vs:List V}(F:lQ X.prog X.w X.K X.mg X.base CX k f fd ps sp)(hr:fb k X.A)(hb:iE X.K fd ps ds)(hd:cm dvs ds)(hx:jN CX X E)
  (I:Inv X pins σ H s) (r:cm vs us) (h:sp (vs++dvs) H Q E):wpAny (ZL X.prog X.w) X.A (call (.ref f) us) (EP X pins σ Q) X.xe s:=by
 have r2:cm (vs++dvs) (us++ds):=r.append hd;have hl:(us++ds).length=ps.length:=by rw[<-r2.length];exact F.len _ _ _ _ h
 refine wpAny_call (codeAny_mono (F.run X.A X.stack s H ⟨us,[]⟩ (us++ds) (vs++dvs) Q E hr I.env0 (hb s us I.kIn hl) r2 h) fun r s' hq=>?_);cases r with
 |error e=>exact hx pins σ H s e s' I hq
 |ok fl=>
  cases fl with
  |ret u=>exact I.after hq
  |next=>exact False.elim hq
  |brk=>exact False.elim hq
  |cont=>exact False.elim hq
def HH(F:lQ X.prog X.w X.K X.mg X.base CX k f fd ps sp)(hr:fb k X.A)(hg:Gl X x)(hm:X.mg x=some (.ref f))(hk:YC X.K (.ref f)=true)(hb:iE X.K fd ps ds)(hd:cm dvs ds)(hx:jN CX X E)
  (ha:PA X (e::es) t) (hdb:(x == ("__debug__":Str))=false:=by decide) (he:Z9 (e::es) X.env=(false,eval e X.env)::Z9 es X.env:=by rfl) (hpl:(Zi pos (Z9 es X.env)).any (·.1)=false:=by rfl) :
  PE X (.Call (.Name x p) (e::es) [] pos) (Kq sp dvs E t):=by
 intro pins s σ H Q I h;refine wpAny_Call_Name_kw (AG I hg hm ?_ hdb);refine PySem.W.callWith_K (h₀:=X.base) I.ok.mod.kin hk (thn (ha pos pins s σ H _ I h) fun us s1 ⟨vs,H1,I1,r,q⟩=>⟨I1.kIn,?_⟩) he hpl;exact zT F hr hb hd hx I1 r q
def HD{pl:Sem Bool}(he:PE X o ta)(c:Cls X.K C)(hm:Je X.K C m f)(F:lQ X.prog X.w X.K X.mg X.base CX k f fd ps sp)(hr:fb k X.A)(hb:iE X.K fd ps ds)(hd:cm dvs ds)(hx:jN CX X E)(ha:PA X (e::es) t)
  (hst:Z9 (e::es) X.env=(false,eval e X.env)::Z9 es X.env:=by rfl) (hpl:(Zi pos (Z9 es X.env)).any (·.1)=false:=by rfl)
  (ht:eval (.Call (.Attribute o m apos) (e::es) [] pos) X.env=(do
   let ov <-eval o X.env
   standAt apos.atName
   let (f,first) <-holding [ov] (getMethod ov m pl)
   callWith pos f first (Zi pos (Z9 (e::es) X.env)) (backToKw pos (keywordEach [] X.env))):=by rfl) :
  PE X (.Call (.Attribute o m apos) (e::es) [] pos) (zN C m sp dvs E ta t):=by
 intro pins s σ H Q I h;refine PySem.W.methodCall_KW (pl:=pl) (thn (he pins s σ H _ I h) fun u s1 hz=>?_) ht;obtain⟨x,H1,I1,rx,a,dx,fs,ex,ea,l,q⟩:=hz;subst ex;obtain rfl:u=Value.ref a:=rx;refine qz I1 ea c hm l ?_;refine PySem.W.callWith_K (first:=[.ref a]) (h₀:=X.base) I.ok.mod.kin hm.kp (thn (ha pos pins s1 σ H1 _ I1 q) fun us s2 ⟨vs,H2,I2,r,q2⟩=>⟨I2.kIn,?_⟩) hst hpl;exact zT (us:=.ref a::us) (vs:=.ref a::vs) F hr hb hd hx I2 (.cons rfl r) q2
def Dv{pl:Sem Bool}(he:PE X o ta)(c:Cls X.K C)(hm:Je X.K C m f)(F:lQ X.prog X.w X.K X.mg X.base CX k f fd ps sp)(hr:fb k X.A)(hb:iE X.K fd ps ds)(hd:cm dvs ds)(hx:jN CX X E)
  (ht:eval (.Call (.Attribute o m apos) [] [] pos) X.env=(do
   let ov <-eval o X.env
   standAt apos.atName
   let (f,first) <-holding [ov] (getMethod ov m pl)
   callWith pos f first (Zi pos (Z9 [] X.env)) (backToKw pos (keywordEach [] X.env))):=by rfl) :
  PE X (.Call (.Attribute o m apos) [] [] pos) (zN C m sp dvs E ta MX):=by
 intro pins s σ H Q I h;refine PySem.W.methodCall_KW (pl:=pl) (thn (he pins s σ H _ I h) fun u s1 hz=>?_) ht;obtain⟨x,H1,I1,rx,a,dx,fs,ex,ea,l,q⟩:=hz;subst ex;obtain rfl:u=Value.ref a:=rx;refine qz I1 ea c hm l ?_;exact PySem.W.callWith_K0 (first:=[.ref a]) I1.kIn hm.kp (zT (us:=[.ref a]) (vs:=[.ref a]) F hr hb hd hx I1 (.cons rfl .nil) q)
structure Mk(K:Q3)(C f:Addr):Prop where
 makes:PySem.W.makesIn K C=true
 init:Y0 K (.ref C) "__init__"=some (some (.ref f))
 fn:YF K (.ref f)=true
 kp:YC K (.ref C)=true
def CY{pins:List (Addr×Obj)}{σ:St}{H:Hp}{s:Q5}{Q:VK}{us:List Q4}{vs:List V}(M:Mk X.K C f)(F:lQ X.prog X.w X.K X.mg X.base CX k f fd ps sp)(hr:fb (k+1) X.A)(hb:iE X.K fd ps ds)(hd:cm dvs ds)
  (hx:jN CX X E) (I:Inv X pins σ H s) (r:cm vs us)
  (h:∀x dx,H x=none->H dx=none->dx≠x->sp (.ref x::(vs++dvs)) (upd (upd H dx (.own x)) x (.ins C dx [])) (fun v H2=>v=.non/\Q (.ref x) H2) E) :
  wpAny (ZL X.prog X.w) X.A (call (.ref C) us) (EP X pins σ Q) X.xe s:=by
 have hq:=h (s.heap.objs.size+1) s.heap.objs.size (I.hok.fresh (Xg _)) (I.hok.fresh (Z6 _)) (Zq (Nat.lt_succ_self _));have I2:=Inv.made (C:=C) I;have r2:cm (V.ref (s.heap.objs.size+1)::(vs++dvs)) (Value.ref (s.heap.objs.size+1)::(us++ds)):=.cons rfl (r.append hd);have hl:(Value.ref (s.heap.objs.size+1)::us++ds).length=ps.length:=by
  have e:=r2.length;rw[F.len _ _ _ _ hq]at e;exact e.symm
 refine wpAny_call (DR (f:=f) I.kIn M.makes M.init (beq_iff_eq.mp M.fn) (codeAny_mono (F.run _ X.stack _ _ ⟨Value.ref (s.heap.objs.size+1)::us,[]⟩ (Value.ref (s.heap.objs.size+1)::(us++ds)) _ _ E (hr.make C us [])
  (I2.env0.make C us []) (hb _ (Value.ref (s.heap.objs.size+1)::us) I2.kIn hl) r2 hq) fun r s' hq'=>?_))
 cases r with
 |error e=>exact hx pins σ _ _ e s' I2 hq'
 |ok fl=>
  cases fl with
  |ret u=>
   obtain⟨v,H',I3,rv,ev,q3⟩:=I2.after hq';subst ev;exact⟨rv,⟨V.ref (s.heap.objs.size+1),H',I3,rfl,q3⟩⟩
  |next=>exact False.elim hq'
  |brk=>exact False.elim hq'
  |cont=>exact False.elim hq'
def HE(M:Mk X.K C f)(F:lQ X.prog X.w X.K X.mg X.base CX k f fd ps sp)(hr:fb (k+1) X.A)(hg:Gl X x)(hm:X.mg x=some (.ref C))(hb:iE X.K fd ps ds)(hd:cm dvs ds)(hx:jN CX X E)
  (ha:PA X (e::es) t) (hdb:(x == ("__debug__":Str))=false:=by decide) (he:Z9 (e::es) X.env=(false,eval e X.env)::Z9 es X.env:=by rfl) (hpl:(Zi pos (Z9 es X.env)).any (·.1)=false:=by rfl) :
  PE X (.Call (.Name x p) (e::es) [] pos) (G8 C sp dvs E t):=by
 intro pins s σ H Q I h;refine wpAny_Call_Name_kw (AG I hg hm ?_ hdb);refine PySem.W.callWith_K (h₀:=X.base) I.ok.mod.kin M.kp (thn (ha pos pins s σ H _ I h) fun us s1 ⟨vs,H1,I1,r,q⟩=>⟨I1.kIn,?_⟩) he hpl;exact CY M F hr hb hd hx I1 r q
end
structure cP(N P:List Str)(sc:Xz):Prop where
 kind:sc.kind=.function
 co:sc.isCoroutine=false
 gen:sc.isGenerator=false
 nd:N.Nodup
 pre:N.take P.length=P
 par:∀x∈P,sc.names.lookup x=some .local\/sc.names.lookup x=some .cell
 nofree:∀y∈sc.names,y.2≠.free
def uO{kindOf:Str->Option NameKind}{x:Str}:∀{binds:List (Str×Q4)} {m:Str->Option Q4},(∀v,(x,v)∉binds)->bindL kindOf binds m x=m x
 |[],_,_=>rfl
 |(n,v)::r,m,h=>by
  unfold bindL;rw[uO fun w hw=>h w (ZJ _ hw)];split
  ·have:x≠n:=by rintro rfl;exact h v ZG
   simp[this]
  ·rfl
def uQ{kindOf:Str->Option NameKind}{x:Str}:∀{binds:List (Str×Q4)} {m:Str->Option Q4},(∀v,(x,v)∉binds)->bindC kindOf binds m x=m x
 |[],_,_=>rfl
 |(n,v)::r,m,h=>by
  unfold bindC;rw[uQ fun w hw=>h w (ZJ _ hw)];split
  ·rfl
  ·have:x≠n:=by rintro rfl;exact h v ZG
   simp[this]
def uP{kindOf:Str->Option NameKind}{x:Str}{v:Q4}:∀{P:List Str} {vs:List Q4} {i:Nat} {m:Str->Option Q4},P.Nodup->P[i]?=some x->vs[i]?=some v->kindOf x=some .local->
  bindL kindOf (P.zip vs) m x=some v
 |[],_,_,_,_,h,_,_=>by simp at h
 |_::_,[],_,_,_,_,h,_=>by simp at h
 |p::P,w::vs,0,m,nd,h1,h2,hk=>by
  simp at h1 h2;subst h1;subst h2;show bindL kindOf ((p,w)::P.zip vs) m p=_;unfold bindL;rw[uO fun v hv=>(Xv.mp nd).1 (List.of_mem_zip hv).1,Xd hk];simp
 |p::P,w::vs,i+1,m,nd,h1,h2,hk=>by
  show bindL kindOf ((p,w)::P.zip vs) m x=_;unfold bindL;exact uP (i:=i) (Xv.mp nd).2 (by simpa using h1) (by simpa using h2) hk
def uS{kindOf:Str->Option NameKind}{x:Str}{v:Q4}:∀{P:List Str} {vs:List Q4} {i:Nat} {m:Str->Option Q4},P.Nodup->P[i]?=some x->vs[i]?=some v->kindOf x≠some .local->
  bindC kindOf (P.zip vs) m x=some v
 |[],_,_,_,_,h,_,_=>by simp at h
 |_::_,[],_,_,_,_,h,_=>by simp at h
 |p::P,w::vs,0,m,nd,h1,h2,hk=>by
  simp at h1 h2;subst h1;subst h2;show bindC kindOf ((p,w)::P.zip vs) m p=_;unfold bindC;rw[uQ fun v hv=>(Xv.mp nd).1 (List.of_mem_zip hv).1,Xf hk];simp
 |p::P,w::vs,i+1,m,nd,h1,h2,hk=>by
  show bindC kindOf ((p,w)::P.zip vs) m x=_;unfold bindC;exact uS (i:=i) (Xv.mp nd).2 (by simpa using h1) (by simpa using h2) hk
def j9(N:List Str)(vs:List V):St:=vs.map some++ZQ (N.length-vs.length) none
def oK(CX:CXT)(P:ZI)(w:Zk)(K:Q3)(mg:Str->Option Q4)(base:Heap)(N:List Str)(qual:Str)(scope:Xz)(f:Addr)(cd:Q4)(A:Zy)(outer:List Env)(s:Q5)(H:Hp)(E:XK):Cx where
 prog:=P
 w:=w
 K:=K
 mg:=mg
 base:=base
 A:=A.deeper (envOfC qual scope s.heap.objs.size f cd)
 N:=N
 s₀:=s
 H₀:=H
 env:=envOfC qual scope s.heap.objs.size f cd
 outer:=outer
 stack:=envOfC qual scope s.heap.objs.size f cd::outer
 ex:=[]
 calm:=true
 fn:=fun _=>true
 pn:=[]
 xe:=fun e s'=>wpAny (ZL P w) (A.deeper (envOfC qual scope s.heap.objs.size f cd)) (leaving (envOfC qual scope s.heap.objs.size f cd) e) (fun _ s''=>CX outer H s E e s'') (fun e' s''=>CX outer H s E e' s'') s'
def xH{sc:Xz}{n:Nat}{x:Str}(h:sc.names.lookup x=some .cell):∃c,(cellsFrom n sc.names []).lookup x=some c:=by
 have q:=PySem.W.cellsFrom_some sc.names n [] (.inl h);exact Zl.mp q
def A1{CX:CXT}{P:ZI}{w:Zk}{K:Q3}{mg:Str->Option Q4}{base:Heap}{N ps:List Str}{qual:Str}{scope:Xz}{f:Addr}{cd:Q4}{A:Zy}{outer:List Env}{s s1:Q5}{H:Hp}{E:XK}{us:List Q4}{vs:List V}
  (S:cP N ps scope) (hd:A.handled=none) (e0:wj P w K mg base A outer s H) (hl:vs.length=ps.length) (r:cm vs us)
  (x:InCallC s s.heap.objs.size (bindL (envOfC qual scope s.heap.objs.size f cd).kindOf (ps.zip us) fun _=>none) (cellsFrom (s.heap.objs.size+1) scope.names []) (bindC (envOfC qual scope s.heap.objs.size f cd).kindOf (ps.zip us) fun _=>none) s1) :
  Inv (oK CX P w K mg base N qual scope f cd A outer s H E) [] (j9 N vs) H s1:=by
 have hpl:ps.length<=N.length:=by have:=congrArg List.length S.pre;rw[List.length_take]at this;omega
 obtain⟨h1,tk,rfl,hk⟩:=x.done;have noA:∀b:Addr,b∉(oK CX P w K mg base N qual scope f cd A outer s H E).ex:=fun b z=>absurd (show b∈([]:List Addr)from z) nofun;refine⟨⟨e0.mod,S.kind,rfl,rfl,Z6 _,fun y z c h1 h2=>?_,fun y hy=>?_,fun y c _ h=>?_,fun _=>hd,Around.frames_deeper e0.frames,.inr ⟨rfl,rfl⟩,fun b z=>absurd z (noA b),e0.bs,e0.bsz,fun b _ _=>noA b,fun b z=>absurd z (noA b),e0.funs,e0.frf⟩,
  rfl,e0.bare,Un.kept hk,⟨_,x.toInCall.ns,fun i y v h1 h2 h3=>?_⟩,fun y c h=>⟨_,x.cell y c h⟩,e0.hok.fresh (Z6 _),fun y c h=>?_,fun p hp=>absurd (show p∈([]:List (Addr×Obj))from hp) nofun,e0.hok.kept hk,?_⟩
 exact name_of_addr x.apart (YI h1) (YI h2);have hy:scope.names.lookup y=some .cell\/scope.names.lookup y=some .free:=hy;rcases hy with hy|hy;exact xH hy;exact absurd rfl (S.nofree _ (YI hy));exact YU (x.above y c (YI h))
 ·have hi:i<vs.length:=by
   unfold j9 at h2;by_cases hi:i<vs.length;exact hi
   ·rw[Zu (by simpa using hi)]at h2;rw[XG]at h2;split at h2<;>cases h2
  have ha:vs[i]?=some v:=by
   unfold j9 at h2;rw[Zh (by simpa using hi),ZP]at h2;cases e:vs[i]? with
   |none=>rw[e]at h2;cases h2
   |some a=>rw[e]at h2;cases h2;rfl
  obtain⟨u,hu,rv⟩:=r.get ha;have hp:ps[i]?=some y:=by
   rw[<-S.pre,List.getElem?_take_of_lt ⋯];exact h1
  have ndP:ps.Nodup:=by rw[<-S.pre];exact S.nd.sublist (List.take_sublist _ _)
  refine⟨u,rv,?_⟩;rcases S.par y (XJ hp)with k|k;exact .inl ⟨k,uP ndP hp hu k⟩;obtain⟨c,e⟩:=xH (n:=s.heap.objs.size+1) k;refine .inr ⟨.inl k,c,e,?_⟩;have q:=x.cell y c e;rw[uS ndP hp hu (by show scope.names.lookup y≠_;rw[k];decide)]at q;exact q
 exact e0.hok.fresh (YU (x.above y c (YI h)));unfold j9;show _=N.length;rw[ZY,Q7,YX];omega
def IJ{CX:CXT}{P:ZI}{w:Zk}{K:Q3}{mg:Str->Option Q4}{base:Heap}{k:Nat}{f:Addr}{name qual:Str}{params:Arguments}{body:List Zv}{scope:Xz}{dV kV doc pm cdv ct oc:Q4}{an od:Option Addr}
  {osl:Array (Option Q4)} {N ps:List Str} {sp:Sp} (lk:K.lookup f=some ⟨oc,od,.func (YB name qual params body scope dV kV doc pm an cdv ct),osl⟩) (hcd:YE K cdv qual=true) (S:cP N ps scope)
  (len:∀vs H Q E,sp vs H Q E->vs.length=ps.length)
  (hbody:∀(A:Zy) (outer:List Env) (s:Q5) (H:Hp) (vs:List V) (Q:VK) (E:XK),fb k (A.deeper (envOfC qual scope s.heap.objs.size f cdv))->sp vs H Q E->
   ∃t,PSs (oK CX P w K mg base N qual scope f cdv A outer s H E) body t/\t { nx:=fun _ H'=>Q .non H',rt:=Q } (j9 N vs) H) :
  lQ P w K mg base CX (k+1) f (YB name qual params body scope dV kV doc pm an cdv ct) ps sp:=by
 refine⟨len,fun A outer s H args us vs Q E hr e0 hb r hsp=>?_⟩;have hl:=len _ _ _ _ hsp;have KX:K.In s.heap:=e0.mod.kin.keeps fun b o e=>(e0.bs b o e).1;have lim:s.heap.NoLimit:=e0.mod.nolimit.keeps fun b o e=>(e0.bs b o e).1;have hkind:∀y∈ps.zip us,scope.names.lookup y.1=some .local\/(scope.names.lookup y.1=some .cell/\((cellsFrom (s.heap.objs.size+1) scope.names []).lookup y.1).isSome=true):=fun⟨n,v⟩ hy=>by
  rcases S.par n (List.of_mem_zip hy).1 with q|q;exact .inl q;exact .inr ⟨q,PySem.W.cellsFrom_some _ _ _ (.inl q)⟩
 refine codeAny_call_function hr.depth (KX _ _ lk) rfl S.co S.gen rfl (PySem.W.codeRec_of KX hcd) (hb _ _ _ _ ?_);refine wpAny_newFunctionEnv_cells S.kind hkind fun env he s1 x=>?_;subst he;refine⟨lim.keeps x.toInCall.keep,codeAny_func ?_⟩;obtain⟨t,ht,hq⟩:=hbody A outer s H vs Q E (hr.deeper _) hsp;have I:Inv (oK CX P w K mg base N qual scope f cdv A outer s H E) [] (j9 N vs) H s1:=A1 S hr.hd e0 hl r x;refine XX (ht [] s1 (j9 N vs) H _ I hq) (fun fl s' hs=>?_) fun e s' hs=>hs;have fin:∀{σ':St} {H':Hp} {v:V} {u:Q4},Inv (oK CX P w K mg base N qual scope f cdv A outer s H E) [] σ' H' s'->dk v u->Q v H'->CE outer P w H s Q u s':=
  fun{σ' H' v u} J rv q=>⟨v,H',J.os,J.bare,J.base,J.hok,rv,q⟩
 cases fl with
 |ret u=>
  obtain⟨v,σ',H',J,rv,q⟩:=hs;exact fin J rv q
 |next=>
  obtain⟨σ',H',J,q⟩:=hs;exact fin (v:=V.non) (u:=Value.none) J rfl q
 |brk=>
  obtain⟨_,_,_,q⟩:=hs;exact False.elim q
 |cont=>
  obtain⟨_,_,_,q⟩:=hs;exact False.elim q
section
variable{x:Str}{e:ZR}{id T:String}{r:List V->Hp->VK->Prop}
def tCB(r:List V->Hp->VK->Prop)(t:TA):TE:=fun σ H Q=>t σ H fun vs H1=>r vs H1 Q
def Dz(hc:hV X (.builtin id) r)(hg:Gl X x)(hm:X.mg x=none)(hv:Zn x=some (.builtin id))(ha:PA X (e::es) t)(hn:x≠"__name__":=by decide)(hdb:(x == ("__debug__":Str))=false:=by decide)
  (he:Z9 (e::es) X.env=(false,eval e X.env)::Z9 es X.env:=by rfl) (hpl:(Zi pos (Z9 es X.env)).any (·.1)=false:=by rfl):PE X (.Call (.Name x p) (e::es) [] pos) (tCB r t):=by
 intro pins s σ H Q I h;refine wpAny_Call_Name_kw (uc I hg hm hv ?_ hn hdb);exact PyProof.Rows.callWith_builtin1 (thn (ha pos pins s σ H _ I h) fun us s1 ⟨vs,H1,I1,r1,q1⟩=>hc pins s1 σ H1 vs us Q I1 r1 q1) he hpl
def Aj(hc:hV X (.type T) r)(hg:Gl X x)(hm:X.mg x=none)(hv:Zn x=some (.type T))(ha:PA X (e::es) t)(hn:x≠"__name__":=by decide)(hdb:(x == ("__debug__":Str))=false:=by decide)
  (he:Z9 (e::es) X.env=(false,eval e X.env)::Z9 es X.env:=by rfl) (hpl:(Zi pos (Z9 es X.env)).any (·.1)=false:=by rfl):PE X (.Call (.Name x p) (e::es) [] pos) (tCB r t):=by
 intro pins s σ H Q I h;refine wpAny_Call_Name_kw (uc I hg hm hv ?_ hn hdb);exact PyProof.Rows.callWith_type1 (thn (ha pos pins s σ H _ I h) fun us s1 ⟨vs,H1,I1,r1,q1⟩=>hc pins s1 σ H1 vs us Q I1 r1 q1) he hpl
end
end L2
namespace HT
open PySem PyProof.Rows
section
variable{prog:ZI}{w:Zk}{A:Zy}{E:Q4->Q5->Prop}{s:Q5}
def cat_tup{t b:Addr}{vs ws:List Q4}{Q:Q4->Q5->Prop}(ht:IsTup s.heap t vs.toArray)(hb:IsTup s.heap b ws.toArray)(hv:vs≠[])
  (h1:ws=[]->Q (.ref t) s) (h2:ws≠[]->Q (.ref s.heap.objs.size) { s with heap:=s.heap.push { cls:=.type "tuple",data:=.seq (vs++ws).toArray } })
  (hsz:vs.length+ws.length<=ZU):wpAny (ZL prog w) A (binaryOp .Add (.ref t) (.ref b)) Q E s:=by
 obtain⟨⟨cls,dd,data,sl⟩,ho,hc,n,hd⟩:=id ht;obtain⟨⟨cls2,dd2,data2,sl2⟩,ho2,hc2,n2,hd2⟩:=id hb;simp only at hc hd hc2 hd2;subst hc hd hc2 hd2;have e:vs.toArray++ws.toArray=(vs++ws).toArray:=by simp
 by_cases hw:ws=[];exact concat_meets ⟨_,ho,rfl⟩ ⟨_,ho2,rfl⟩ noFill_tuple_add seq_tuple_add PySem.F.slot_tuple_add YM (YL _ _)
  (tuple_addW1 t b vs.toArray ws.toArray n n2 dd dd2 sl sl2 (by simpa using hv) (by simp[hw])) ⟨ho,ho2,h1 hw⟩
 refine concat_meets ⟨_,ho,rfl⟩ ⟨_,ho2,rfl⟩ noFill_tuple_add seq_tuple_add PySem.F.slot_tuple_add YM (YL _ _)
  (tuple_addW2 t b vs.toArray ws.toArray n n2 dd dd2 sl sl2 (by simpa using hv) (by simpa using hw) (by rw[ZV,ZV];exact hsz)) ⟨ho,ho2,?_⟩
 rw[e];exact h2 hw
def sIx(n d:Nat):Option Int->Nat
 |none=>d
 |some v=>if v<0 then(v+(n:Int)).toNat else min v.toNat n
def sIx_none(n d:Nat):sIx n d none=d:=rfl
def sIx_nat(n d k:Nat):sIx n d (some (k:Int))=min k n:=by
 show(if (k:Int)<0 then((k:Int)+(n:Int)).toNat else min (k:Int).toNat n)=min k n;rw[Xf ⋯,YV]
def Kv(n d:Nat)(hd:d<=n)(o:Option Int):sIx n d o<=n:=by
 cases o with
 |none=>exact hd
 |some v=>
  show(if v<0 then(v+(n:Int)).toNat else min v.toNat n)<=n;by_cases hv:v<0;rw[Xd hv];omega;rw[Xf hv];exact Nat.min_le_right _ _
def BC(v:Int)(n d:Nat):(if v<0 then max (v+(n:Int)) 0 else min v (n:Int))=((sIx n d (some v):Nat):Int):=by
 show(if v<0 then max (v+(n:Int)) 0 else min v (n:Int))=(((if v<0 then(v+(n:Int)).toNat else min v.toNat n):Nat):Int);by_cases hv:v<0;simp only[Xd hv];omega;simp only[Xf hv];omega
def yI(lo hi:Option Int)(n:Nat):Builtin.Slice.sliceAdjust lo hi 1 (n:Int)=(((sIx n 0 lo:Nat):Int),((sIx n n hi:Nat):Int)):=by
 have h1:¬((1:Int)<0):=by omega
 unfold Builtin.Slice.sliceAdjust;simp only[h1,if_false];refine Prod.ext ?_ ?_;cases lo with
 |none=>rfl
 |some v=>exact BC v n 0
 cases hi with
 |none=>rfl
 |some v=>exact BC v n n
def yk(i j:Nat):Builtin.Slice.slicePlaces (i:Int) (j:Int) 1=j-i:=by
 unfold Builtin.Slice.slicePlaces;have h1:(1:Int)>0:=by omega
 simp only[h1,if_true,Int.ediv_one];split<;>omega
def p7{v:Q4}{o:Option Int}{Q:Option Int->Q5->Prop}(p:IsPart v o)(h:Q o s):wpAny (ZL prog w) A (Builtin.Slice.slicePartIndex v) Q E s:=by
 cases p with
 |none=>exact slicePart_none h
 |int i t=>exact slicePart_int h
def mJ{sl:Addr}{vl vu:Q4}{lo hi:Option Int}{n:Nat}{Q:Int×Int×Nat->Q5->Prop}(hs:s.heap.IsSliceOf sl vl vu .none)(pl:IsPart vl lo)(pu:IsPart vu hi)
  (h:Q (((sIx n 0 lo:Nat):Int),1,sIx n n hi-sIx n 0 lo) s):wpAny (ZL prog w) A (Builtin.Slice.sliceApplied (.ref sl) (pure (n:Int))) Q E s:=by
 obtain⟨os,hos,hcs,hds⟩:=id hs;unfold Builtin.Slice.sliceApplied Builtin.Slice.sliceFields;refine Q8 (Q8 (wpAny_field hos hds (x:=vl) rfl (Q8 (wpAny_field hos hds (x:=vu) rfl (Q8 (wpAny_field hos hds (x:=.none) rfl (ZC ?_)))))));refine Q8 (slicePart_none ?_);show wpAny _ _ (if ((1:Int) == 0)=true then _ else _) _ _ s;rw[Xf ∅];refine Q8 (p7 pl (Q8 (p7 pu (Q8 (ZC ?_)))));show wpAny _ _ (match Builtin.Slice.sliceAdjust lo hi 1 (n:Int)with|(lo,hi)=>pure (lo,(1:Int),Builtin.Slice.slicePlaces lo hi 1)) _ _ s;rw[yI lo hi n];show wpAny _ _ (pure (((sIx n 0 lo:Nat):Int),(1:Int),Builtin.Slice.slicePlaces ((sIx n 0 lo:Nat):Int) ((sIx n n hi:Nat):Int) 1)) _ _ s;rw[yk];exact ZC h
def Dq(xs:Array Q4)(i k:Nat):((ZF k).filterMap fun(m:Nat)=>xs[((i:Int)+(m:Int)*1).toNat]?).toArray=((xs.toList.drop i).take k).toArray:=by
 have e:(fun(m:Nat)=>xs[((i:Int)+(m:Int)*1).toNat]?)=fun m=>xs[i+m]?:=by
  funext m;have:((i:Int)+(m:Int)*1).toNat=i+m:=by omega
  rw[this]
 rw[e];have:=pick_run xs i k;rw[List.filterMap_map]at this;have e2:((fun x=>xs[x]?) ∘ fun x=>i+x)=fun m=>xs[i+m]?:=rfl;rw[e2]at this;rw[this]
def getItem_tuple_cut{t sl:Addr}{items:Array Q4}{vl vu:Q4}{lo hi:Option Int}{Q:Q4->Q5->Prop}(ht:IsTup s.heap t items)(hs:s.heap.IsSliceOf sl vl vu .none)(pl:IsPart vl lo)(pu:IsPart vu hi)
  (hw:¬(sIx items.size 0 lo=0/\sIx items.size items.size hi=items.size))
  (h:Q (.ref s.heap.objs.size) { s with heap:=s.heap.push { cls:=.type "tuple",data:=.seq ((items.toList.drop (sIx items.size 0 lo)).take (sIx items.size items.size hi-sIx items.size 0 lo)).toArray } })
  (hsz:items.size<=ZU):wpAny (ZL prog w) A (getItem (.ref t) (.ref sl)) Q E s:=by
 have htake:sizeOk (.seq ((items.toList.drop (sIx items.size 0 lo)).take (sIx items.size items.size hi-sIx items.size 0 lo)).toArray):=by
  show((items.toList.drop (sIx items.size 0 lo)).take (sIx items.size items.size hi-sIx items.size 0 lo)).toArray.size<=ZU;rw[ZV,List.length_take,List.length_drop,Zm];omega
 have hj:sIx items.size items.size hi<=items.size:=Kv _ _ (Z6 _) hi;obtain⟨os,hos,hcs,hds⟩:=id hs;have hTs:s.TypeIs (.ref sl) "slice":=⟨os,hos,hcs⟩;unfold getItem;try with_reducible refine wpAny_holding ?_
 first|refine Q8 (ZC ?_)|skip
 refine Q8 (wpAny_sequenceKey ht.typeIs ∅ ?_);refine Q8 (wpAny_callSpecial?_slot (name:=Str.ofString "__getitem__") ht.typeIs PyProof.Rows.slot_tuple_getitem
  (wpAny_call_entry PyProof.Rows.slot_tuple_getitem ht.typeIs entry_tuple_getitem ?_ (args_tuple_getitem _ _)))
 show wpAny _ _ (Builtin.Tuple.tupleItemsOf (.ref t) >>= _) _ _ s;refine Q8 (tupleItemsOf_ ht ?_);refine Q8 (wpAny_typeOf hTs ?_);rw[Xd ∅];refine Q8 (mJ hs pl pu ?_);have hno:¬((((sIx items.size 0 lo:Nat):Int) == 0&&(1:Int) == 1&&(sIx items.size items.size hi-sIx items.size 0 lo) == items.size)=true):=by
  intro q;rw[Xx,Xx]at q;have q1:((sIx items.size 0 lo:Nat):Int)=0:=eq_of_beq q.1.1;have q2:sIx items.size items.size hi-sIx items.size 0 lo=items.size:=eq_of_beq q.2;exact hw ⟨⋯,⋯⟩
 show wpAny _ _ (if (((sIx items.size 0 lo:Nat):Int) == 0&&(1:Int) == 1&&(sIx items.size items.size hi-sIx items.size 0 lo) == items.size)=true then _ else _) _ _ s;rw[Xf hno,Dq];first
  |exact Q8 (m:=Builtin.Tuple.tupleExact _) (wpAny_newObj_type (ZC ⟨_,rfl,ZC h⟩) htake)
  |exact Q8 (m:=Builtin.Tuple.tupleExact _) (wpAny_newObj_type (Q8 (ZC (ZC ⟨_,rfl,ZC h⟩))) htake)
  |exact Q8 (Q8 (m:=Builtin.Tuple.tupleExact _) (wpAny_newObj_type (ZC (ZC ⟨_,rfl,ZC h⟩)) htake))
  |exact Q8 (Q8 (m:=Builtin.Tuple.tupleExact _) (wpAny_newObj_type (ZC ⟨_,rfl,ZC h⟩) htake))
end
end HT
namespace L2
open PySem PySem.Spec PyProof.Rows
abbrev TO:=St->Hp->(Option Int->Hp->Prop)->Prop
def PO(X:Cx)(e:Option ZR)(t:TO):Prop:=
 ∀(pins:List (Addr×Obj)) (s:Q5) (σ:St) (H:Hp) (Q:Option Int->Hp->Prop),Inv X pins σ H s->t σ H Q->
  wpAny (ZL X.prog X.w) X.A (evalPart e X.env) (fun u s'=>∃o H',Inv X pins σ H' s'/\IsPart u o/\Q o H') X.xe s
def zM:TO:=fun _ H Q=>Q none H
def Kg(t:TE):TO:=fun σ H Q=>t σ H fun x H1=>∃i,x=.int i/\Q (some i) H1
variable{X:Cx}{e:ZR}{pos:Pos}
section
variable{te:TE}{lo hi:Option ZR}{tl th:TO}{p2:Pos}
def Hz:PO X none zM:=by
 intro pins s σ H Q I h;rw[evalPart_none];exact ZC ⟨none,H,I,.none,h⟩
def Hy(h:PE X e te):PO X (some e) (Kg te):=by
 intro pins s σ H Q I hw;rw[evalPart_some];refine thn (h pins s σ H _ I hw) fun u s1 hz=>?_;obtain⟨x,H1,I1,r1,q1⟩:=hz;obtain⟨i,rfl,q⟩:=q1;obtain⟨t,rfl⟩:=r1;exact⟨some i,H1,I1,.int i t,q⟩
def SlR(X:Cx)(r:V->Option Int->Option Int->Hp->VK->Prop):Prop:=
 ∀(pins:List (Addr×Obj)) (s:Q5) (σ:St) (H:Hp) (x:V) (v vl vu:Q4) (lo hi:Option Int) (sl:Addr) (Q:VK),Inv X pins σ H s->dk x v->s.heap.IsSliceOf sl vl vu .none->IsPart vl lo->IsPart vu hi->r x lo hi H Q->
  ∃T id,typeLookup (.type T) "__getitem__"=pure (some (.builtin id))/\s.TypeIs v T/\wpAny (ZL X.prog X.w) X.A (getItem v (.ref sl)) (EP X pins σ Q) X.xe s
def SlR.or{r r':V->Option Int->Option Int->Hp->VK->Prop}(h:SlR X r)(h':SlR X r'):SlR X (fun x lo hi H Q=>r x lo hi H Q\/r' x lo hi H Q):=by
 intro pins s σ H x v vl vu lo hi sl Q I rx hs pl pu q;rcases q with q|q;exact h pins s σ H x v vl vu lo hi sl Q I rx hs pl pu q;exact h' pins s σ H x v vl vu lo hi sl Q I rx hs pl pu q
def tSl(r:V->Option Int->Option Int->Hp->VK->Prop)(te:TE)(tl th:TO):TE:=fun σ H Q=>te σ H fun x H1=>tl σ H1 fun l H2=>th σ H2 fun u H3=>r x l u H3 Q
def Du{r:V->Option Int->Option Int->Hp->VK->Prop}(hr:SlR X r)(he:PE X e te)(hl:PO X lo tl)(hu:PO X hi th):PE X (.Subscript e (.Slice lo hi none p2) pos) (tSl r te tl th):=by
 intro pins s σ H Q I h;refine Subscript_ (thn (he pins s σ H _ I h) fun v s1 hz=>?_);obtain⟨x,H1,I1,r1,q1⟩:=hz;refine wpAny_Slice (thn (hl pins s1 σ H1 _ I1 q1) fun vl s2 ⟨l,H2,I2,pl,q2⟩=>thn (hu pins s2 σ H2 _ I2 q2) fun vu s3 hz=>?_);obtain⟨u,H3,I3,pu,q3⟩:=hz;rw[evalPart_none];refine ZC ?_;have I4:Inv X pins σ H3 { s3 with heap:=s3.heap.push { cls:=.type "slice",data:=.fields #[vl,vu,.none] } }:=I3.kept (t':=s3.toks) fun b ob q=>Q9 _ q;obtain⟨T,id,hT,ht,hg⟩:=hr pins { s3 with heap:=s3.heap.push { cls:=.type "slice",data:=.fields #[vl,vu,.none] } } σ H3 x v vl vu l u s3.heap.objs.size Q I4 r1 (Heap.IsSliceOf.new ..) pl pu q3;show wpAny (ZL X.prog X.w) X.A (subscriptTail e (.Slice lo hi none p2) v (.ref s3.heap.objs.size)) (EP X pins σ Q) X.xe { s3 with heap:=s3.heap.push { cls:=.type "slice",data:=.fields #[vl,vu,.none] } };exact tail_any (ops:=[.ref s3.heap.objs.size,v]) ht hT hg (by with_unfolding_all rfl)
def FZ(xs:List V)(lo hi:Option Int):List V:=(xs.drop (HT.sIx xs.length 0 lo)).take (HT.sIx xs.length xs.length hi-HT.sIx xs.length 0 lo)
def oM(xs:List V)(lo hi:Option Int):(FZ xs lo hi).length<=xs.length:=by
 unfold FZ;rw[List.length_take,List.length_drop];omega
def QK(K:Q3):V->Option Int->Option Int->Hp->VK->Prop:=fun x lo hi H Q=>∃a xs,x=.ref a/\SqT K H a xs/\
 ¬(HT.sIx xs.length 0 lo=0/\HT.sIx xs.length xs.length hi=xs.length)/\∀p,H p=none->Q (.ref p) (upd H p (.tup (FZ xs lo hi)))
def Kt:SlR X (QK X.K):=by
 intro pins s σ H x v vl vu lo hi sl Q I rx hs pl pu h;obtain⟨a,xs,rfl,hx,hw,q⟩:=h;cases rx;obtain⟨its,r,ht,hz⟩:=I.tuple hx;have hlen:its.toArray.size=xs.length:=by rw[ZV];exact r.length.symm
 refine⟨"tuple",_,PyProof.Rows.slot_tuple_getitem.lookup,ht.typeIs,?_⟩;refine HT.getItem_tuple_cut ht hs pl pu (by rw[hlen];exact hw) ?_ (by rw[hlen];exact hz);rw[hlen];refine⟨.ref s.heap.objs.size,_,I.laid (t':=s.toks) (o:=.tup (FZ xs lo hi)) (fun b ob q=>Q9 _ q) (Z6 _) ?_,rfl,q _ (I.hok.fresh (Z6 _))⟩;exact⟨Zw (oM xs lo hi) hz,_,(r.drop (HT.sIx xs.length 0 lo)).take (HT.sIx xs.length xs.length hi-HT.sIx xs.length 0 lo),IsTup.new _ _⟩
def OF(K:Q3):R2:=fun x y H Q=>∃a b xs ys,x=.ref a/\y=.ref b/\SqT K H a xs/\SqT K H b ys/\xs≠[]/\xs.length+ys.length<=ZU/\
 (ys=[]->Q (.ref a) H)/\(ys≠[]->∀p,H p=none->Q (.ref p) (upd H p (.tup (xs++ys))))
def cm.nil_iff{xs:List V}{us:List Q4}(r:cm xs us):us=[]↔xs=[]:=by
 cases r with
 |nil=>simp
 |cons _ _=>simp
def HR:OpR X (binaryOp .Add) (OF X.K):=by
 intro pins s σ H x y v u Q I rx ry h;obtain⟨a,b,xs,ys,rfl,rfl,ha,hb,hx,hz,q1,q2⟩:=h;cases rx;cases ry;obtain⟨its,r1,p1,_⟩:=I.tuple ha;obtain⟨its2,r2,p2,_⟩:=I.tuple hb;refine HT.cat_tup p1 p2 (fun z=>hx (r1.nil_iff.mp z)) (fun z=>⟨.ref a,H,I,rfl,q1 (r2.nil_iff.mp z)⟩) (fun z=>?_) (by rw[<-r1.length,<-r2.length];exact hz);refine⟨.ref s.heap.objs.size,_,I.laid (t':=s.toks) (o:=.tup (xs++ys)) (fun b ob q=>Q9 _ q) (Z6 _) ?_,rfl,q2 (fun w=>z (r2.nil_iff.mpr w)) _ (I.hok.fresh (Z6 _))⟩;exact⟨by rw[ZY];exact hz,_,r1.append r2,IsTup.new _ _⟩
end
def ixN(n:Nat)(i:Int):Option Nat:=if 0<=i then(if i<n then some i.toNat else none)else if -(n:Int)<=i then some (i+n).toNat else none
def atI{α:Type}(xs:List α)(i:Int):Option α:=(ixN xs.length i).bind fun j=>xs[j]?
def AY{n:Nat}{i:Int}{j:Nat}(h:ixN n i=some j):seqIndex? i n=some j/\j<n/\-(n:Int)<=i/\i<n:=by
 unfold ixN at h;by_cases h0:0<=i;rw[Xd h0]at h;by_cases h1:i<n;rw[Xd h1]at h;have e:i.toNat=j:=Yk h;exact⟨by rw[seqIndex_of h0 h1,e],⋯,⋯,h1⟩;rw[Xf h1]at h;cases h;rw[Xf h0]at h;by_cases h1:-(n:Int)<=i;rw[Xd h1]at h;have e:(i+n).toNat=j:=Yk h;exact⟨by rw[seqIndex_neg ⋯ h1,e],⋯,h1,⋯⟩;rw[Xf h1]at h;cases h
def BR{α:Type}{xs:List α}{i:Int}{v:α}(h:atI xs i=some v):∃j,seqIndex? i xs.length=some j/\xs[j]?=some v/\j<xs.length/\-(xs.length:Int)<=i/\i<xs.length:=by
 unfold atI at h;cases e:ixN xs.length i with
 |none=>rw[e]at h;cases h
 |some j=>
  rw[e]at h;obtain⟨h1,h2,h3,h4⟩:=AY e;exact⟨j,h1,h,h2,h3,h4⟩
def iW{α:Type}{xs:List α}{j:Nat}{v:α}(h:xs[j]?=some v):atI xs (j:Int)=some v:=by
 have hj:j<xs.length:=(Q6.mp h).1;have e:ixN xs.length (j:Int)=some j:=by
  unfold ixN;rw[Xd ⋯,Xd ⋯];simp
 unfold atI;rw[e];exact h
def v7(b:ZR):Prop:=∀o i,subscripted b false o i=operate [o,i] (getItem o i)
def IxR(X:Cx)(r:R2):Prop:=
 ∀(value slice:ZR) (pins:List (Addr×Obj)) (s:Q5) (σ:St) (H:Hp) (x y:V) (v u:Q4) (Q:VK),Inv X pins σ H s->dk x v->dk y u->r x y H Q->
  subscripted slice false v u=operate [v,u] (getItem v u)->wpAny (ZL X.prog X.w) X.A (subscriptTail value slice v u) (EP X pins σ Q) X.xe s
def MtR(X:Cx)(id:String)(r:V->List V->Hp->VK->Prop):Prop:=
 ∀(pins:List (Addr×Obj)) (s:Q5) (σ:St) (H:Hp) (x:V) (xs:List V) (v:Q4) (us:List Q4) (Q:VK),Inv X pins σ H s->dk x v->cm xs us->r x xs H Q->
  wpAny (ZL X.prog X.w) X.A (call (.builtin id) (v::us)) (EP X pins σ Q) X.xe s
variable{o:ZR}{apos cpos:Pos}
section
variable{a b:ZR}{ta tb:TE}
def IxR.or{r r':R2}(h:IxR X r)(h':IxR X r'):IxR X (fun x y H Q=>r x y H Q\/r' x y H Q):=by
 intro value slice pins s σ H x y v u Q I rx ry q hs;rcases q with q|q;exact h value slice pins s σ H x y v u Q I rx ry q hs;exact h' value slice pins s σ H x y v u Q I rx ry q hs
def OT{r:R2}(hr:IxR X r)(ha:PE X a ta)(hb:PE X b tb)(hs:v7 b):PE X (.Subscript a b pos) (tOp r ta tb):=by
 intro pins s σ H Q I h;exact Subscript_ (PB ha hb I h fun v u s2 x y H2 I2 rx ry q=>hr a b pins s2 σ H2 x y v u Q I2 rx ry q (hs _ _))
def QN(K:Q3):R2:=fun x y H Q=>∃p xs i v,x=.ref p/\y=.int i/\SqL K H p xs/\atI xs i=some v/\Q v H
def QM(K:Q3):R2:=fun x y H Q=>∃p xs i v,x=.ref p/\y=.int i/\SqT K H p xs/\atI xs i=some v/\Q v H
def Iw:IxR X (QN X.K):=by
 intro value slice pins s σ H x y v u Q I rx ry h hs;obtain⟨p,xs,i,z,rfl,rfl,hq,he,q⟩:=h;cases rx;obtain⟨t,rfl⟩:=ry;obtain⟨its,r,pl,hz⟩:=I.list hq;obtain⟨j,h1,h2,h3,h4,h5⟩:=BR he;obtain⟨w,ew,rw'⟩:=r.get h2;have hl:=r.length;have hn:=w8;have fin:EP X pins σ Q w s:=⟨z,H,I,rw',q⟩;by_cases h0:0<=i;have hj:i.toNat=j:=by
  rw[seqIndex_of h0 h5]at h1;exact Yk h1
 exact item_listR pl.isList h0 ⋯ (by rw[hj];simpa using ew) fin hs
 ·have hj:(i+(its.toArray.size:Int)).toNat=j:=by
   rw[seqIndex_neg ⋯ h4]at h1;rw[ZV,<-hl];exact Yk h1
  exact subscriptTail_builtinR (x:=w) pl.isList.typeIs slot_list_getitem.lookup
   (wpAny_getItem_list_neg (Q:=fun r s'=>r=w/\EP X pins σ Q r s') pl.isList ⋯ (by rw[ZV]<;>omega) ⋯ (by rw[hj];simpa using ew) ⟨rfl,fin⟩) hs
def LY:IxR X (QM X.K):=by
 intro value slice pins s σ H x y v u Q I rx ry h hs;obtain⟨p,xs,i,z,rfl,rfl,hq,he,q⟩:=h;cases rx;obtain⟨t,rfl⟩:=ry;obtain⟨its,r,pl,hz⟩:=I.tuple hq;obtain⟨j,h1,h2,h3,h4,h5⟩:=BR he;obtain⟨w,ew,rw'⟩:=r.get h2;have hl:=r.length;have hn:=w8;have fin:EP X pins σ Q w s:=⟨z,H,I,rw',q⟩;exact subscriptTail_builtinR (x:=w) pl.typeIs slot_tuple_getitem.lookup
  (getItem_tuple (j:=j) (Q:=fun r s'=>r=w/\EP X pins σ Q r s') pl ⋯ ⋯ (by rw[ZV,<-hl];exact h1) (by simpa using ew) ⟨rfl,fin⟩) hs
def yo(its:List Q4)(n j:Nat)(u:Q4):Ye (·.setIfInBounds j u) { cls:=.type "list",data:=.seq its.toArray n }={ cls:=.type "list",data:=.seq (its.set j u).toArray n }:=by
 simp[Ye]
def Inv.lst{pins:List (Addr×Obj)}{σ:St}{H:Hp}{s:Q5}{p:Addr}{xs:List V}(I:Inv X pins σ H s)(h:H p=some (.lst xs)) :
  ∃(its:List Q4) (n:Nat),cm xs its/\s.heap.get? p=some { cls:=.type "list",data:=.seq its.toArray n }/\xs.length<=ZU:=by
 obtain⟨z,its,n,r,e⟩:=I.hok p _ h;exact⟨its,n,r,e,z⟩
def Inv.lstUpd{pins:List (Addr×Obj)}{σ:St}{H:Hp}{s:Q5}{p:Addr}{xs ys:List V}{its its':List Q4}{n n':Nat}{f:Obj->Obj}(I:Inv X pins σ H s)(h:H p=some (.lst xs))
  (ho:s.heap.get? p=some { cls:=.type "list",data:=.seq its.toArray n }) (hf:f { cls:=.type "list",data:=.seq its.toArray n }={ cls:=.type "list",data:=.seq its'.toArray n' }) (r:cm ys its') (hz:ys.length<=ZU) (t:Nat) :
  Inv X pins σ (upd H p (.lst ys)) { s with heap:=s.heap.update p f,toks:=t }:=by
 have e:(s.heap.update p f).get? p=some { cls:=.type "list",data:=.seq its'.toArray n' }:=by
  rw[Heap.get?_update_self f ho (by rw[hf]<;>rfl),hf]
 refine I.write (x:=p) (e:=p) (by rw[h];trivial) (.inl rfl) (fun b u hb q=>(Heap.get?_update_other _ _ (Ne.symm hb)).trans q) ⟨_,e⟩ ?_;exact⟨hz,its',n',r,e⟩
def OC:V->V->V->Hp->(Hp->Prop)->Prop:=fun o i v H Q=>∃p xs k j,o=.ref p/\i=.int k/\H p=some (.lst xs)/\ixN xs.length k=some j/\Q (upd H p (.lst (xs.set j v)))
def CV:PJ X OC:=by
 intro pins s σ H o i v ov iv u Q I ro ri rv h;obtain⟨p,xs,k,j,rfl,rfl,hp,hj,q⟩:=h;cases ro;obtain⟨t,rfl⟩:=ri;obtain⟨its,n,r,ho,hz⟩:=I.lst hp;obtain⟨h1,h2,h3,h4⟩:=AY hj;have hl:=r.length;have hn:=w8;have I':Inv X pins σ (upd H p (.lst (xs.set j v))) { s with heap:=s.heap.update p (Ye (·.setIfInBounds j u)) }:=
  I.lstUpd hp ho (yo its n j u) (r.set rv j) (by rw[Zx];exact hz) s.toks
 by_cases h0:0<=k;have hk:k.toNat=j:=by
  rw[seqIndex_of h0 h4]at h1;exact Yk h1
 exact PySem.W.ki_setAt ho h0 ⋯ (by rw[ZV,<-hl];exact h4) (by rw[hk];exact⟨_,I',q⟩);have hk:(k+(its.toArray.size:Int)).toNat=j:=by
  rw[seqIndex_neg ⋯ h3]at h1;rw[ZV,<-hl];exact Yk h1
 exact PySem.W.ki_setBack ho ⋯ (by rw[ZV,<-hl];exact h3) ⋯ (by rw[hk];exact⟨_,I',q⟩)
def tD(lo hi:Option Int)(n:Nat):(sliceBounds lo hi none n).1=((HT.sIx n 0 lo:Nat):Int)/\(sliceBounds lo hi none n).2.1=((HT.sIx n n hi:Nat):Int)/\(sliceBounds lo hi none n).2.2=1:=by
 refine⟨?_,?_,rfl⟩
 ·cases lo with
  |none=>simp[sliceBounds,HT.sIx]
  |some i=>
   simp only[sliceBounds,HT.sIx,Option.getD_none,show(1:Int)>0 by decide,if_true];by_cases h:i<0
   ·simp only[h,if_true]<;>omega
   ·simp only[h,if_false]<;>omega
 ·cases hi with
  |none=>simp[sliceBounds,HT.sIx]
  |some i=>
   simp only[sliceBounds,HT.sIx,Option.getD_none,show(1:Int)>0 by decide,if_true];by_cases h:i<0
   ·simp only[h,if_true]<;>omega
   ·simp only[h,if_false]<;>omega
def qV(its:List Q4)(lo hi:Option Int):slicePick its.toArray lo hi none=((its.drop (HT.sIx its.length 0 lo)).take (HT.sIx its.length its.length hi-HT.sIx its.length 0 lo)).toArray:=by
 obtain⟨h1,h2,h3⟩:=tD lo hi its.toArray.size;unfold slicePick;rw[h1,h2,h3];simp only[sliceRange_one,pick_run,ZV]<;>rfl
def QL(K:Q3):V->Option Int->Option Int->Hp->VK->Prop:=fun x lo hi H Q=>∃a xs,x=.ref a/\SqL K H a xs/\∀p,H p=none->Q (.ref p) (upd H p (.lst (FZ xs lo hi)))
def Hd:SlR X (QL X.K):=by
 intro pins s σ H x v vl vu lo hi sl Q I rx hs pl pu h;obtain⟨a,xs,rfl,hx,q⟩:=h;cases rx;obtain⟨its,r,ht,hz⟩:=I.list hx;have hlen:=r.length;refine⟨"list",_,slot_list_getitem.lookup,ht.isList.typeIs,?_⟩;refine wpAny_getItem_list_slice ht.isList hs pl pu .none nofun ?_ (by rw[ZV]<;>omega);rw[qV,<-hlen];refine⟨.ref s.heap.objs.size,_,I.laid (t':=s.toks) (o:=.lst (FZ xs lo hi)) (fun b ob q=>Q9 _ q) (Z6 _) ?_,rfl,q _ (I.hok.fresh (Z6 _))⟩;exact⟨Zw (oM xs lo hi) hz,_,0,(r.drop (HT.sIx xs.length 0 lo)).take (HT.sIx xs.length xs.length hi-HT.sIx xs.length 0 lo),ZT _ rfl⟩
def pG:V->Bool
 |.non=>true
 |.bl _=>true
 |.int _=>true
 |.str _=>true
 |_=>false
def eqV:V->V->Bool
 |.non,.non=>true
 |.bl a,.bl b=>a == b
 |.bl a,.int b=>(if a then 1 else 0) == b
 |.int a,.bl b=>a == (if b then 1 else 0)
 |.int a,.int b=>a == b
 |.str a,.str b=>a == b
 |_,_=>false
def Mv{A:Zy}{s:Q5}{y x:V}{u v:Q4}(ry:dk y u)(rx:dk x v)(fy:pG y=true)(fx:pG x=true):SeqAt.EqAt A s u v (eqV y x):=by
 cases y with
 |non=>
  cases ry;cases x with
  |non=>cases rx;exact SeqAt.EqAt.same _
  |bl b=>cases rx;exact SeqAt.EqAt.none_bool b
  |int b=>obtain⟨t,rfl⟩:=rx;exact SeqAt.EqAt.none_int b t
  |str b=>obtain⟨t,rfl⟩:=rx;exact SeqAt.EqAt.none_str b t
  |_=>exact absurd (show false=true from fx) Z8
 |bl a=>
  cases ry;cases x with
  |non=>cases rx;exact SeqAt.EqAt.bool_none a
  |bl b=>cases rx;exact SeqAt.EqAt.bool_bool a b
  |int b=>obtain⟨t,rfl⟩:=rx;exact SeqAt.EqAt.bool_int a b t
  |str b=>obtain⟨t,rfl⟩:=rx;exact SeqAt.EqAt.bool_str a b t
  |_=>exact absurd (show false=true from fx) Z8
 |int a=>
  obtain⟨t',rfl⟩:=ry;cases x with
  |non=>cases rx;exact SeqAt.EqAt.int_none a t'
  |bl b=>cases rx;exact SeqAt.EqAt.int_bool a t' b
  |int b=>obtain⟨t,rfl⟩:=rx;exact SeqAt.EqAt.int_int a t' b t
  |str b=>obtain⟨t,rfl⟩:=rx;exact SeqAt.EqAt.int_str a t' b t
  |_=>exact absurd (show false=true from fx) Z8
 |str a=>
  obtain⟨t',rfl⟩:=ry;cases x with
  |non=>cases rx;exact SeqAt.EqAt.str_none a t'
  |bl b=>cases rx;exact SeqAt.EqAt.str_bool a t' b
  |int b=>obtain⟨t,rfl⟩:=rx;exact SeqAt.EqAt.str_int a t' b t
  |str b=>obtain⟨t,rfl⟩:=rx;exact SeqAt.EqAt.str_str a t' b t
  |_=>exact absurd (show false=true from fx) Z8
 |_=>exact absurd (show false=true from fy) Z8
def eqU(x:V)(u:Q4):Bool:=match u with
 |.none=>eqV .non x
 |.bool b=>eqV (.bl b) x
 |.int i _=>eqV (.int i) x
 |.str z _=>eqV (.str z) x
 |_=>false
def FT{x y:V}{u:Q4}(r:dk y u)(f:pG y=true):eqU x u=eqV y x:=by
 cases y with
 |non=>cases r;rfl
 |bl b=>cases r;rfl
 |int i=>obtain⟨t,rfl⟩:=r;rfl
 |str z=>obtain⟨t,rfl⟩:=r;rfl
 |_=>exact absurd (show false=true from f) Z8
def oR{x:V}:∀{xs:List V} {us:List Q4},cm xs us->xs.all pG=true->us.any (eqU x)=xs.any fun y=>eqV y x
 |_,_,.nil,_=>rfl
 |y::xs,u::us,.cons r t,f=>by
  rw[List.all_cons,Xx]at f;rw[XN,XN,FT r f.1,oR t f.2]
def kF{A:Zy}{s:Q5}{x:V}{v:Q4}(rx:dk x v)(fx:pG x=true):∀{xs:List V} {us:List Q4},cm xs us->xs.all pG=true->∀u∈us,SeqAt.EqAt A s u v (eqU x u)
 |_,_,.nil,_=>fun u hu=>by cases hu
 |y::xs,u::us,.cons r t,f=>fun u' hu=>by
  rw[List.all_cons,Xx]at f;rcases ZD.mp hu with rfl|hu;rw[FT r f.1];exact Mv r rx f.1 fx;exact kF rx fx t f.2 u' hu
def inV(x:V)(xs:List V):Bool:=xs.any fun y=>eqV y x
def rIn(K:Q3)(neg:Bool):R2:=fun x y H Q=>∃p xs,y=.ref p/\(SqL K H p xs\/SqT K H p xs)/\pG x=true/\xs.all pG=true/\Q (.bl (if neg then !inV x xs else inV x xs)) H
def tZ:OpR X (compareOp .In) (rIn X.K false):=by
 intro pins s σ H x y v u Q I rx ry h;obtain⟨p,xs,rfl,hq,fx,fs,q⟩:=h;cases ry;rcases hq with hq|hq;obtain⟨its,r,pl,hz⟩:=I.list hq;refine SeqAt.in_listAt (eqU x) pl.isList (fun w hw=>kF rx fx r fs w (by simpa using hw)) ⟨.bl _,H,I,rfl,?_⟩;rw[show its.toArray.any (eqU x)=its.any (eqU x)by simp,oR r fs];exact q;obtain⟨its,r,pl,hz⟩:=I.tuple hq;refine SeqAt.in_tupleAt (eqU x) pl (fun w hw=>kF rx fx r fs w (by simpa using hw)) ⟨.bl _,H,I,rfl,?_⟩;rw[show its.toArray.any (eqU x)=its.any (eqU x)by simp,oR r fs];exact q
def tW:OpR X (compareOp .NotIn) (rIn X.K true):=by
 intro pins s σ H x y v u Q I rx ry h;obtain⟨p,xs,rfl,hq,fx,fs,q⟩:=h;cases ry;rcases hq with hq|hq;obtain⟨its,r,pl,hz⟩:=I.list hq;refine SeqAt.notIn_listAt (eqU x) pl.isList (fun w hw=>kF rx fx r fs w (by simpa using hw)) ⟨.bl _,H,I,rfl,?_⟩;rw[show its.toArray.any (eqU x)=its.any (eqU x)by simp,oR r fs];exact q;obtain⟨its,r,pl,hz⟩:=I.tuple hq;refine SeqAt.notIn_tupleAt (eqU x) pl (fun w hw=>kF rx fx r fs w (by simpa using hw)) ⟨.bl _,H,I,rfl,?_⟩;rw[show its.toArray.any (eqU x)=its.any (eqU x)by simp,oR r fs];exact q
def uM:hV X (.builtin "len") (fun xs H Q=>∃p ys,xs=[.ref p]/\(SqL X.K H p ys\/SqT X.K H p ys)/\Q (.int ys.length) H):=by
 intro pins s σ H xs us Q I r h;obtain⟨p,ys,rfl,hq,q⟩:=h;obtain⟨u,rfl,rx⟩:=m8 r;cases rx;have hn:=w8;rcases hq with hq|hq
 ·obtain⟨its,r',pl,hz⟩:=I.list hq;have hlen:=r'.length;exact Calls.call_len_list pl.isList (by simp only[ZV]<;>omega) ⟨.int ys.length,H,I.tok _,⟨s.toks+1,by rw[ZV,hlen]⟩,q⟩
 ·obtain⟨its,r',pl,hz⟩:=I.tuple hq;have hlen:=r'.length;exact len_tuple pl (by simp only[ZV]<;>omega) ⟨.int ys.length,H,I.tok _,⟨s.toks+1,by rw[ZV,hlen]⟩,q⟩
def hV.or{f:Q4}{r r':List V->Hp->VK->Prop}(h:hV X f r)(h':hV X f r'):hV X f (fun xs H Q=>r xs H Q\/r' xs H Q):=by
 intro pins s σ H xs us Q I rs q;rcases q with q|q;exact h pins s σ H xs us Q I rs q;exact h' pins s σ H xs us Q I rs q
def ji:hV X (.type "list") (fun xs H Q=>∃p ys,xs=[.ref p]/\(SqL X.K H p ys\/SqT X.K H p ys)/\∀l,H l=none->Q (.ref l) (upd H l (.lst ys))):=by
 intro pins s σ H xs us Q I r h;obtain⟨p,ys,rfl,hq,q⟩:=h;obtain⟨u,rfl,rx⟩:=m8 r;cases rx;have fin:∀(its:List Q4),cm ys its->ys.length<=ZU->∀(h':Heap) (c':Nat),(∀b o',s.heap.get? b=some o'->h'.get? b=some o')->
   h'.get? s.heap.objs.size=some { cls:=.type "list",dict:=none,data:=.seq its.toArray c',slots:=#[] }->EP X pins σ Q (.ref s.heap.objs.size) { s with heap:=h' }:=fun its r' hz h' c' kp e=>
  ⟨.ref s.heap.objs.size,_,I.laid (t':=s.toks) kp (Z6 _) (show eN X.prog X.w _ h' _ (.lst ys)from⟨hz,its,c',r',e⟩),rfl,q _ (I.hok.fresh (Z6 _))⟩
 rcases hq with hq|hq
 ·obtain⟨its,r',pl,hz⟩:=I.list hq;have hlen:=r'.length;obtain⟨o,ho,hc,n,hd⟩:=pl.isList;exact call_list_seq p (.inl rfl) ho hc hd (fun h' c' kp e=>fin its r' hz h' c' kp e) (by simp only[ZV]<;>omega)
 ·obtain⟨its,r',pl,hz⟩:=I.tuple hq;have hlen:=r'.length;obtain⟨o,ho,hc,n,hd⟩:=pl;exact call_list_seq p (.inr rfl) ho hc hd (fun h' c' kp e=>fin its r' hz h' c' kp e) (by simp only[ZV]<;>omega)
def iL:hV X (.type "tuple") (fun xs H Q=>∃p ys,xs=[.ref p]/\((SqL X.K H p ys/\∀l,H l=none->Q (.ref l) (upd H l (.tup ys)))\/(SqT X.K H p ys/\Q (.ref p) H))):=by
 intro pins s σ H xs us Q I r h;obtain⟨p,ys,rfl,h⟩:=h;obtain⟨u,rfl,rx⟩:=m8 r;cases rx;rcases h with⟨hq,q⟩|⟨hq,q⟩
 ·obtain⟨its,r',pl,hz⟩:=I.list hq;have hlen:=r'.length;refine call_tuple_list pl.isList (fun h' kp=>?_) (by simp only[ZV]<;>omega);have I1:Inv X pins σ H { s with heap:=h' }:=I.kept (t':=s.toks) kp;have I2:Inv X pins σ (upd H h'.objs.size (.tup ys)) { s with heap:=h'.push { cls:=.type "tuple",data:=.seq its.toArray } }:=
   I1.laid (t':=s.toks) (fun b o e=>Q9 _ e) (Z6 _) (show eN X.prog X.w _ _ _ (.tup ys)from⟨hz,its,r',IsTup.new _ _⟩)
  exact⟨.ref h'.objs.size,_,I2,rfl,q _ (I1.hok.fresh (Z6 _))⟩
 obtain⟨its,r',pl,hz⟩:=I.tuple hq;exact call_tuple_same pl ⟨.ref p,H,I,rfl,q⟩
def tyV(K:Q3)(T:String)(x:V)(H:Hp):Prop:=match x with
 |.str _=>T="str"
 |.int _=>T="int"
 | .ref p=>(T="list"/\∃xs,SqL K H p xs)\/(T="tuple"/\∃o,K.lookup p=some o/\o.cls=.type "tuple"/\o.dict=none)\/
   (T="dict"/\((∃kvs,H p=some (.dK kvs))\/∃kvs,H p=some (.dT kvs)))\/(T="set"/\∃S n,H p=some (.set S n))
 |_=>False
def E4{pins:List (Addr×Obj)}{σ:St}{H:Hp}{s:Q5}{T:String}{x:V}{v:Q4}(I:Inv X pins σ H s)(r:dk x v)(ty:tyV X.K T x H) :
  s.TypeIs v T/\∀a,v=.ref a->∃ob,s.heap.get? a=some ob/\ob.dict=none:=by
 cases x with
 |str z=>
  obtain⟨t,rfl⟩:=r;cases (show T="str" from ty);exact⟨typeIs_str s z t,fun _ e=>nomatch e⟩
 |int i=>
  obtain⟨t,rfl⟩:=r;cases (show T="int" from ty);exact⟨typeIs_int s i t,fun _ e=>nomatch e⟩
 |ref p=>
  cases r;rcases ty with⟨rfl,xs,hq⟩|⟨rfl,o,hk,hc,hd⟩|⟨rfl,hk⟩|⟨rfl,S,n,hk⟩;obtain⟨its,_,pl,_⟩:=I.list hq;refine⟨pl.isList.typeIs,fun a e=>?_⟩;cases e;obtain⟨o,n,e,c,hd,_⟩:=pl;exact⟨o,e,hd⟩;refine⟨⟨o,I.kIn p o hk,hc⟩,fun a e=>?_⟩;cases e;exact⟨o,I.kIn _ o hk,hd⟩;have z:∃o,s.heap.get? p=some o/\o.ExactDict:=by
   rcases hk with⟨kvs,hk⟩|⟨kvs,hk⟩;obtain⟨_,_,_,_,o,_,_,e,ex,_⟩:=I.hok p _ hk;exact⟨o,e,ex⟩;obtain⟨_,_,_,_,o,_,_,e,ex,_⟩:=I.hok p _ hk;exact⟨o,e,ex⟩
  obtain⟨o,e,ex⟩:=z;refine⟨⟨o,e,ex.1⟩,fun a e2=>?_⟩;cases e2;exact⟨o,e,ex.2.1⟩;obtain⟨o,_,_,_,e,ex,_⟩:=I.hok p _ hk;refine⟨⟨o,e,ex.1⟩,fun a e2=>?_⟩;cases e2;exact⟨o,e,ex.2.1⟩
 |_=>exact False.elim ty
def P4(K:Q3)(T:String)(r:V->List V->Hp->VK->Prop)(to:TE):TE:=fun σ H Q=>to σ H fun x H1=>tyV K T x H1/\r x [] H1 Q
def tBM(K:Q3)(T:String)(r:V->List V->Hp->VK->Prop)(to:TE)(t:TA):TE:=fun σ H Q=>to σ H fun x H1=>tyV K T x H1/\t σ H1 fun xs H2=>r x xs H2 Q
variable{es:List ZR}{to:TE}{t:TA}{name:Str}{T id:String}{r:V->List V->Hp->VK->Prop}
def Le(pa:PlainAttrs T)(slot:Slot T name id)(hty:typeOf (.builtin id)=pure (.type "method_descriptor"))(hm:MtR X id r)(ho:PE X o to)
  (hbase:attributeBase o name X.env (eval o X.env)=eval o X.env:=by rfl) (hline:(apos.endLine == cpos.line)=true:=by rfl):PE X (.Call (.Attribute o name apos) [] [] cpos) (P4 X.K T r to):=by
 intro pins s σ H Q I h;refine wpAny_Call_method0_late hbase hline (thn (ho pins s σ H _ I h) fun v s1 hz=>?_);obtain⟨x,H1,I1,r1,ty,q1⟩:=hz;obtain⟨h1,h2⟩:=E4 I1 r1 ty;exact⟨T,id,pa,slot,hty,h1,h2,Calls.callWith_builtin rfl (PySem.evalArgs_none (hm pins s1 σ H1 x [] v [] Q I1 r1 .nil q1))⟩
def OU(pa:PlainAttrs T)(slot:Slot T name id)(hty:typeOf (.builtin id)=pure (.type "method_descriptor"))(hm:MtR X id r)(ho:PE X o to)(ha:PA X (e::es) t)
  (hbase:attributeBase o name X.env (eval o X.env)=eval o X.env:=by rfl)
  (hfew:((Zi cpos (Z9 (e::es) X.env)).all (fun x=>!x.1)&&(backToKw cpos (keywordEach [] X.env)).all (fun x=>x.1.isSome)
   && decide ((e::es).length+([]:List Keyword).length+(if ([]:List Keyword).isEmpty then 0 else 1)<30))=true:=by rfl)
  (hline:(apos.endLine == cpos.line)=true:=by rfl) (hs:Z9 (e::es) X.env=(false,eval e X.env)::Z9 es X.env:=by rfl) (hplain:(Zi cpos (Z9 es X.env)).any (·.1)=false:=by rfl) :
  PE X (.Call (.Attribute o name apos) (e::es) [] cpos) (tBM X.K T r to t):=by
 intro pins s σ H Q I h;refine wpAny_Call_method_late hbase hfew hline rfl (thn (ho pins s σ H _ I h) fun v s1 hz=>?_);obtain⟨x,H1,I1,r1,ty,q1⟩:=hz;obtain⟨h1,h2⟩:=E4 I1 r1 ty;refine⟨T,id,pa,slot,hty,h1,h2,?_⟩;have hA:=ha cpos pins s1 σ H1 _ I1 q1;rw[hs]at hA ⊢;refine Calls.callWith_builtin (by show(false||(Zi cpos (Z9 es X.env)).any (·.1))=false;rw[hplain]<;>rfl) (Calls.evalArgs_plain ?_);exact thn hA fun us s2 ⟨vs,H2,I2,r2,q2⟩=>hm pins s2 σ H2 x vs v us Q I2 r1 r2 q2
end
def MtM(X:Cx)(id:String)(r:V->List V->Hp->VK->Prop):Prop:=
 ∀(pins:List (Addr×Obj)) (s:Q5) (σ:St) (H:Hp) (x:V) (xs:List V) (v:Q4) (us:List Q4) (Q:VK),Inv X pins σ H s->dk x v->cm xs us->r x xs H Q->
  wpAny (ZL X.prog X.w) X.A (call (.builtin id) (v::us)) (EP X pins σ Q) X.xe s
def cm.one:∀{x:V} {us:List Q4},cm [x] us->∃u,us=[u]/\dk x u
 |_,_,.cons r .nil=>⟨_,rfl,r⟩
def cm.zero:∀{us:List Q4},cm [] us->us=[]
 |_,.nil=>rfl
def cm.eraseIdx:∀{xs:List V} {us:List Q4} (i:Nat),cm xs us->cm (xs.eraseIdx i) (us.eraseIdx i)
 |_,_,_,.nil=>.nil
 |_,_,0,.cons _ t=>t
 |_,_,i+1,.cons r t=>.cons r (cm.eraseIdx i t)
def cm.rep{xs:List V}{us:List Q4}(h:cm xs us):∀k:Nat,cm (ZQ k xs).flatten (ZQ k us).flatten
 |0=>.nil
 |k+1=>by
  rw[XO,XO,Xu,Xu];exact cm.append h (cm.rep h k)
def ub{α:Type}:∀(l:List α) (i:Nat),(l.eraseIdx i).length<=l.length
 |[],_=>Z6 _
 |_::_,0=>Xg _
 |_::r,i+1=>Nat.succ_le_succ (ub r i)
def oE(its:List Q4):∀(k:Nat) (acc:List Q4),
  List.foldl (fun x1 x2=>x1++x2) acc.toArray (ZQ k its.toArray)=(acc++(ZQ k its).flatten).toArray
 |0,acc=>by simp
 |k+1,acc=>by
  have e:acc.toArray++its.toArray=(acc++its).toArray:=by simp
  have e2:(acc++its)++(ZQ k its).flatten=acc++(ZQ (k+1) its).flatten:=by
   rw[XO,Xu,ZO]
  rw[<-e2,<-oE its k (acc++its),<-e,XO,List.foldl_cons]
variable{pins:List (Addr×Obj)}{σ:St}{H:Hp}{s:Q5}
section
variable{l:Addr}{xs ys:List V}
def Inv.lset{its its':List Q4}{n:Nat}{f:Array Q4->Array Q4}{t':Nat}(I:Inv X pins σ H s)(hH:H l=some (.lst xs))
  (e:s.heap.get? l=some { cls:=.type "list",data:=.seq its.toArray n }) (hf:f its.toArray=its'.toArray) (hv:cm ys its') (hz:ys.length<=ZU) :
  Inv X pins σ (upd H l (.lst ys)) { s with heap:=s.heap.update l (Ye f),toks:=t' }:=by
 have q:=PySem.IsL.update e f;rw[hf]at q;refine I.write (x:=l) (e:=l) (by rw[hH];exact trivial) (.inl rfl) (fun b' u hb hu=>(Heap.get?_update_other s.heap (Ye f) (Ne.symm hb)).trans hu) ⟨_,q⟩ ?_;exact⟨hz,its',_,hv,q⟩
def Inv.lnew{its:List Q4}{t':Nat}(I:Inv X pins σ H s)(hv:cm ys its)(hz:ys.length<=ZU) :
  Inv X pins σ (upd H s.heap.objs.size (.lst ys)) { s with heap:=s.heap.push { cls:=.type "list",data:=.seq its.toArray },toks:=t' }:=
 I.laid (fun _ _ q=>Q9 _ q) (Z6 _) ⟨hz,its,0,hv,ZT _ rfl⟩
def Inv.fresh(I:Inv X pins σ H s):H s.heap.objs.size=none:=I.hok.fresh (Z6 _)
def Inv.lstM(I:Inv X pins σ H s)(hH:H l=some (.lst xs)):xs.length<=ZU/\∃(its:List Q4) (n:Nat),cm xs its/\xs.length=its.length/\s.heap.get? l=some { cls:=.type "list",data:=.seq its.toArray n }:=by
 obtain⟨z,its,n,r,e⟩:=I.hok l _ hH;exact⟨z,its,n,r,r.length,e⟩
def wW{n:Nat}(h:n<=ZU):Builtin.List.listTooLong n=false:=by
 unfold Builtin.List.listTooLong;exact Xa ⋯
end
def zY:V->List V->Hp->VK->Prop:=fun x vs H Q=>∃l xs y,x=.ref l/\vs=[y]/\H l=some (.lst xs)/\xs.length<ZU/\Q .non (upd H l (.lst (xs++[y])))
def oj:MtM X "list.append" zY:=by
 intro pins s σ H x vs v us Q I rx rv h;obtain⟨l,xs,y,rfl,rfl,hH,hz,q⟩:=h;cases rx;obtain⟨u,rfl,ru⟩:=rv.one;obtain⟨z,its,n,r,hl,e⟩:=I.lstM hH;refine call_meets F.slot_list_append ⟨_,e,rfl⟩ F.entry_list_append (F.args_list_append_2 _ _) (PySem.list_append l its.toArray n u (by rw[ZV];omega)) ⟨e,?_⟩;refine⟨.non,_,I.lset (its':=its++[u]) hH e nofun (r.append (.cons ru .nil)) ?_,rfl,q⟩;rw[ZY,Xk];omega
def zX:V->List V->Hp->VK->Prop:=fun x vs H Q=>∃l b xs zs,x=.ref l/\vs=[.ref b]/\H l=some (.lst xs)/\H b=some (.lst zs)/\xs.length+zs.length<=ZU/\Q .non (upd H l (.lst (xs++zs)))
def AA:MtM X "list.extend" zX:=by
 intro pins s σ H x vs v us Q I rx rv h;obtain⟨l,b,xs,zs,rfl,rfl,hH,hB,hz,q⟩:=h;cases rx;obtain⟨u,rfl,ru⟩:=rv.one;cases ru;obtain⟨z,its,n,r,hl,e⟩:=I.lstM hH;obtain⟨z2,its2,n2,r2,hl2,e2⟩:=I.lstM hB;have hsz:its.toArray.size+its2.toArray.size<=ZU:=by rw[ZV,ZV];omega
 have hlong:¬(!its.toArray.isEmpty&&Builtin.List.listTooLong (its.toArray.size+its2.toArray.size))=true:=by
  rw[wW hsz,Bool.and_false];exact Z8
 refine call_meets F.slot_list_extend ⟨_,e,rfl⟩ F.entry_list_extend (F.args_list_extend_2 _ _)
  (AutoSeq1.list_extend_list_list_0 l its.toArray n b its2.toArray n2 hlong (by rw[ZV];omega) ⋯) ⟨e,e2,?_⟩
 refine⟨.non,_,I.lset (its':=its++its2) hH e nofun (r.append r2) ?_,rfl,q⟩;rw[ZY];omega
def Fl:V->List V->Hp->VK->Prop:=fun x vs H Q=>∃l xs i k y,x=.ref l/\vs=[.int i]/\H l=some (.lst xs)/\-(2^63)<=i/\i<2^63/\seqIndex? i xs.length=some k/\xs[k]?=some y/\Q y (upd H l (.lst (xs.eraseIdx k)))
def DO:MtM X "list.pop" Fl:=by
 intro pins s σ H x vs v us Q I rx rv h;obtain⟨l,xs,i,k,y,rfl,rfl,hH,h1,h2,hk,hy,q⟩:=h;cases rx;obtain⟨u,rfl,ru⟩:=rv.one;obtain⟨t,rfl⟩:=ru;obtain⟨z,its,n,r,hl,e⟩:=I.lstM hH;obtain⟨w,hw,rw'⟩:=r.get hy;refine call_meets F.slot_list_pop ⟨_,e,rfl⟩ F.entry_list_pop (F.args_list_pop_2 _ _)
  (MeetsSeq.list_pop_at l its.toArray n i t k w (fitsIndex_both h1 h2) (by rw[ZV,<-hl];exact hk) (by rw[<-Array.getElem?_toList];exact hw) (by rw[ZV];omega)) ⟨e,?_⟩
 refine⟨y,_,I.lset (its':=its.eraseIdx k) hH e ?_ (r.eraseIdx k) ?_,rw',q⟩;show its.toArray.eraseIdxIfInBounds k=(its.eraseIdx k).toArray;rw[List.eraseIdxIfInBounds_toArray];have:=ub xs k;omega
def Na:R2:=fun x y H Q=>∃l b xs zs,x=.ref l/\y=.ref b/\H l=some (.lst xs)/\H b=some (.lst zs)/\xs.length+zs.length<=ZU/\∀p,H p=none->Q (.ref p) (upd H p (.lst (xs++zs)))
def Ls:OpR X (binaryOp .Add) Na:=by
 intro pins s σ H x y v u Q I rx ry h;obtain⟨l,b,xs,zs,rfl,rfl,hH,hB,hz,q⟩:=h;cases rx;cases ry;obtain⟨z,its,n,r,hl,e⟩:=I.lstM hH;obtain⟨z2,its2,n2,r2,hl2,e2⟩:=I.lstM hB;refine PySem.P.add_list e e2 ?_ (by rw[ZV,ZV];omega);have ea:its.toArray++its2.toArray=(its++its2).toArray:=by simp
 rw[ea];exact⟨.ref _,_,I.lnew (t':=s.toks) (r.append r2) (by rw[ZY];omega),rfl,q _ I.fresh⟩
def OD:R2:=fun x y H Q=>∃l k xs,x=.ref l/\y=.int k/\H l=some (.lst xs)/\-(2^63)<=k/\k<2^63/\xs.length*k.toNat<=ZU/\
 ∀p,H p=none->Q (.ref p) (upd H p (.lst (ZQ k.toNat xs).flatten))
def vF{α:Type}(xs:List α)(k:Nat):(ZQ k xs).flatten.length=k*xs.length:=by
 induction k with
 |zero=>simp
 |succ k ih=>rw[XO,Xu,ZY,ih,Nat.succ_mul,Nat.add_comm]
def Ln:OpR X (binaryOp .Mult) OD:=by
 intro pins s σ H x y v u Q I rx ry h;obtain⟨l,k,xs,rfl,rfl,hH,h1,h2,hz,q⟩:=h;cases rx;obtain⟨t,rfl⟩:=ry;obtain⟨z,its,n,r,hl,e⟩:=I.lstM hH;have hlen:its.toArray.size*k.toNat<=ZU:=by rw[ZV,<-hl];exact hz
 have hcap:¬its.toArray.size*k.toNat>(2^63-1) / 8:=by
  have:(ZU:Nat)<=(2^63-1) / 8:=by decide
  omega
 have hfit:¬(!Builtin.List.listFitsIndex k)=true:=by
  rw[fitsIndex_both h1 h2];exact Z8
 have hlong:¬Builtin.List.listTooLong (its.toArray.size*k.toNat)=true:=by
  rw[wW hlen];exact Z8
 have hnew:List.foldl (fun x1 x2=>x1++x2) #[] (ZQ (if its.toArray.isEmpty=true then 0 else k.toNat) its.toArray)=(ZQ k.toNat its).flatten.toArray:=by
  have f0:∀m:Nat,List.foldl (fun x1 x2=>x1++x2) #[] (ZQ m its.toArray)=(ZQ m its).flatten.toArray:=fun m=>by
   have:=oE its m [];rw[Zf]at this;exact this
  rw[f0];cases its with
  |nil=>simp
  |cons a r'=>rw[Xf nofun]
 refine wpAny_binaryOp_repeat_ref (T:="list") (U:="int") ∅ ⟨_,e,rfl⟩ (fun s'=>typeIs_int s' k t) noFill_list_mul F.fills_int_mul F.slot_int_rmul repeat_list F.slot_int_index.lookup
  (call_meets F.slot_int_rmul (typeIs_int s k t) F.entry_int_rmul (F.args_int_rmul_2 _ _) (int___rmul___int_list k t l its.toArray n)
   ⟨e,rfl,⟨_,e,rfl⟩,call_meets F.slot_list_mul ⟨_,e,rfl⟩ F.entry_list_mul (F.args_list_mul_2 _ _) (AutoListH.list___mul___list_int_3 l its.toArray n k t hfit hcap hlong) ⟨e,?_⟩⟩)
 rw[hnew];exact⟨.ref _,_,I.lnew (t':=s.toks) (r.rep k.toNat) (by rw[vF,Nat.mul_comm];exact hz),rfl,q _ I.fresh⟩
section
variable{κ:Type}[DecidableEq κ]
def jw(kvs:List (κ×V))(k:κ):Option V:=(kvs.find? fun kv=>decide (kv.1=k)).map (·.2)
def sN(kvs:List (κ×V))(k:κ)(v:V):List (κ×V):=
 if (kvs.any fun kv=>decide (kv.1=k))=true then kvs.map (fun kv=>if kv.1=k then(kv.1,v)else kv)else kvs++[(k,v)]
def rP(kvs:List (κ×V))(k:κ):List (κ×V):=kvs.filter fun kv=>decide (kv.1≠k)
def d7{p:κ×V}{r:List (κ×V)}{k:κ}(e:p.1=k):jw (p::r) k=some p.2:=by simp[jw,Zg,e]
def d8{p:κ×V}{r:List (κ×V)}{k:κ}(e:¬p.1=k):jw (p::r) k=jw r k:=by simp[jw,Zg,e]
def mP(k:κ):∀kvs:List (κ×V),(kvs.any fun kv=>decide (kv.1=k))=(jw kvs k).isSome
 |[]=>rfl
 |p::r=>by
  rw[XN];by_cases e:p.1=k;simp only[d7 e,Xc e,Bool.true_or,Option.isSome_some];rw[d8 e,Xa e,YS];exact mP k r
def wF(k j:κ)(y:V):∀kvs:List (κ×V),jw (kvs.map fun kv=>if kv.1=k then(kv.1,y)else kv) j=(jw kvs j).map fun x=>if j=k then y else x
 |[]=>rfl
 |p::r=>by
  have ih:=wF k j y r;rw[ZK];by_cases h:p.1=k;rw[Xd h];by_cases e:p.1=j;rw[d7 (p:=(p.1,y)) e,d7 e,XR,Xd (e.symm.trans h)];rw[d8 (p:=(p.1,y)) e,d8 e,ih];rw[Xf h];by_cases e:p.1=j;rw[d7 (p:=p) e,d7 e,XR,Xf (fun z=>h (e.trans z))];rw[d8 (p:=p) e,d8 e,ih]
def sX(k j:κ)(y:V):∀kvs:List (κ×V),jw kvs k=none->jw (kvs++[(k,y)]) j=if j=k then some y else jw kvs j
 |[],_=>by
  by_cases e:k=j;rw[Xd e.symm];exact d7 (p:=(k,y)) e;rw[Xf (fun z=>e z.symm)];exact d8 (p:=(k,y)) e
 |p::r,hn=>by
  rw[XZ];have hk:¬p.1=k:=fun z=>by rw[d7 z]at hn;cases hn
  rw[d8 hk]at hn;have ih:=sX k j y r hn;by_cases e:p.1=j;rw[d7 e,d7 e,Xf (fun z=>hk (e.trans z))];rw[d8 e,d8 e,ih]
def CL(kvs:List (κ×V))(k j:κ)(y:V):jw (sN kvs k y) j=if j=k then some y else jw kvs j:=by
 unfold sN;by_cases a:(kvs.any fun kv=>decide (kv.1=k))=true;rw[Xd a,wF];rw[mP]at a;by_cases e:j=k;obtain⟨x,hx⟩:=Zl.mp a;rw[Xd e,e,hx,XR,Xd rfl];rw[Xf e];cases jw kvs j with
 |none=>rfl
 |some x=>rw[XR,Xf e]
 rw[Xf a];refine sX k j y kvs ?_;rw[mP]at a;cases q:jw kvs k with
 |none=>rfl
 |some x=>rw[q]at a;exact(a rfl).elim
def oo(kvs:List (κ×V))(k:κ)(v:V):(sN kvs k v).length<=kvs.length+1:=by
 unfold sN;split;rw[Q7];omega;rw[ZY,ZZ,XF];omega
def se.isSome_eq{o:Option V}{u:Option Q4}(r:se o u):o.isSome=u.isSome:=by
 cases o with
 |none=>cases u with
  |none=>rfl
  |some _=>exact(show False from r).elim
 |some _=>cases u with
  |none=>exact(show False from r).elim
  |some _=>rfl
def se.getD{o:Option V}{u:Option Q4}{d:V}{d':Q4}(r:se o u)(rd:dk d d'):dk (o.getD d) (u.getD d'):=by
 cases o with
 |none=>cases u with
  |none=>exact rd
  |some _=>exact(show False from r).elim
 |some _=>cases u with
  |none=>exact(show False from r).elim
  |some _=>exact r
def KV.val{kvs:List (κ×V)}{vs:List (κ×Q4)}(r:KV kvs vs)(k:κ):se (jw kvs k) (valueAt vs k):=by
 unfold KV at r;induction r with
 |nil=>exact True.intro
 |@cons p q ps qs h t ih=>
  obtain⟨h1,h2⟩:=h;by_cases e:p.1=k;have e':q.1=k:=h1.symm.trans e;have b:valueAt (q::qs) k=some q.2:=by simp[valueAt,Zg,e']
  rw[d7 e,b];exact h2;have e':¬q.1=k:=fun z=>e (h1.trans z);have b:valueAt (q::qs) k=valueAt qs k:=by simp[valueAt,Zg,e']
  rw[d8 e,b];exact ih
def KV.any{kvs:List (κ×V)}{vs:List (κ×Q4)}(r:KV kvs vs)(k:κ):(kvs.any fun kv=>decide (kv.1=k))=vs.any fun kv=>decide (kv.1=k):=by
 unfold KV at r;induction r with
 |nil=>rfl
 |cons h t ih=>rw[XN,XN,ih,h.1]
def KV.repl{kvs:List (κ×V)}{vs:List (κ×Q4)}(r:KV kvs vs)(k:κ){y:V}{u:Q4}(ry:dk y u) :
  KV (kvs.map fun kv=>if kv.1=k then(kv.1,y)else kv) (vs.map fun kv=>if kv.1=k then(kv.1,u)else kv):=by
 unfold KV at r ⊢;induction r with
 |nil=>exact .nil
 |@cons p q ps qs h t ih=>
  rw[ZK,ZK];refine .cons ?_ ih;obtain⟨h1,h2⟩:=h;by_cases e:p.1=k;rw[Xd e,Xd (h1.symm.trans e)];exact⟨h1,ry⟩;rw[Xf e,Xf (fun z=>e (h1.trans z))];exact⟨h1,h2⟩
def KV.put{kvs:List (κ×V)}{vs:List (κ×Q4)}(r:KV kvs vs)(k:κ){y:V}{u:Q4}(ry:dk y u):KV (sN kvs k y) (stored vs k u):=by
 unfold sN stored;rw[r.any k];by_cases e:(vs.any fun kv=>decide (kv.1=k))=true;rw[Xd e,Xd e];exact r.repl k ry;rw[Xf e,Xf e];exact Paired.snoc r ⟨rfl,ry⟩
def KV.drop{kvs:List (κ×V)}{vs:List (κ×Q4)}(r:KV kvs vs)(k:κ):KV (rP kvs k) (without vs k):=by
 unfold KV at r ⊢;unfold rP without;induction r with
 |nil=>exact .nil
 |@cons p q ps qs h t ih=>
  obtain⟨h1,h2⟩:=h;rw[List.filter_cons,List.filter_cons];by_cases e:p.1=k;have a:¬decide (p.1≠k)=true:=by simp[e]
  have b:¬decide (q.1≠k)=true:=by simp[h1.symm.trans e]
  rw[Xf a,Xf b];exact ih;have e':¬q.1=k:=fun z=>e (h1.trans z);have a:decide (p.1≠k)=true:=by simp[e]
  have b:decide (q.1≠k)=true:=by simp[e']
  rw[Xd a,Xd b];exact .cons ⟨h1,h2⟩ ih
def KV.length{kvs:List (κ×V)}{vs:List (κ×Q4)}(r:KV kvs vs):kvs.length=vs.length:=Paired.length r
def Es(kvs:List (κ×V))(k:κ):(rP kvs k).length<=kvs.length:=Xy _ _
end
def vH{P:ZI}{w:Zk}{k:Key}{u:Q4}(r:dk (kV k) u):(cV P w).is k u=true:=by
 cases k with
 |inl i=>obtain⟨t,e⟩:=(show ∃t,u=Value.int i t from r);subst e;exact vE P w i t
 |inr x=>obtain⟨t,e⟩:=(show ∃t,u=Value.str x t from r);subst e;exact vD P w x t
def uf{P:ZI}{w:Zk}:∀{ks:List Key} {us:List Q4},cm (ks.map kV) us->ItemsAre (cV P w) ks us
 |[],_,r=>by rw[XU]at r;cases r;exact .nil
 |k::ks,_,r=>by
  rw[ZK]at r;cases r with
  |cons h t=>exact .cons (vH h) (uf t)
abbrev KT(H:Hp):List (List Key×V)->List (List Key×Addr×Q4)->Prop:=Paired fun p q=>p.1=q.1/\H q.2.1=some (.tup (p.1.map kV))/\dk p.2 q.2.2
def KT.val{H:Hp}{kvs:List (List Key×V)}{xs:List (List Key×Addr×Q4)}(r:KT H kvs xs)(k:List Key):se (jw kvs k) ((atKey xs k).map (·.2)):=by
 induction r with
 |nil=>exact True.intro
 |@cons p q ps qs h t ih=>
  obtain⟨h1,_,h2⟩:=h;by_cases e:p.1=k;have e':q.1=k:=h1.symm.trans e;have b:atKey (q::qs) k=some q.2:=by simp[atKey,Zg,e']
  rw[d7 e,b];exact h2;have e':¬q.1=k:=fun z=>e (h1.trans z);have b:atKey (q::qs) k=atKey qs k:=by simp[atKey,Zg,e']
  rw[d8 e,b];exact ih
def KT.repl{H:Hp}{kvs:List (List Key×V)}{xs:List (List Key×Addr×Q4)}(r:KT H kvs xs)(k:List Key){y:V}{u:Q4}(ry:dk y u) :
  KT H (kvs.map fun kv=>if kv.1=k then(kv.1,y)else kv) (xs.map (putAt k u)):=by
 induction r with
 |nil=>exact .nil
 |@cons p q ps qs h t ih=>
  rw[ZK,ZK];refine .cons ?_ ih;obtain⟨h1,h2,h3⟩:=h;unfold putAt;by_cases e:p.1=k;rw[Xd e,Xd (h1.symm.trans e)];exact⟨h1,h2,ry⟩;rw[Xf e,Xf (fun z=>e (h1.trans z))];exact⟨h1,h2,h3⟩
def KT.put{H:Hp}{kvs:List (List Key×V)}{xs:List (List Key×Addr×Q4)}(r:KT H kvs xs)(k:List Key){b:Addr}{y:V}{u:Q4}(hb:H b=some (.tup (k.map kV)))(ry:dk y u) :
  KT H (sN kvs k y) (storedH xs k b u):=by
 have e:(kvs.any fun kv=>decide (kv.1=k))=(atKey xs k).isSome:=by
  rw[mP,(r.val k).isSome_eq,Option.isSome_map]
 unfold sN storedH;rw[e];by_cases q:(atKey xs k).isSome=true;rw[Xd q,Xd q];exact r.repl k ry;rw[Xf q,Xf q];exact Paired.snoc r ⟨rfl,hb,ry⟩
def KT.keeps{H H':Hp}{kvs:List (List Key×V)}{xs:List (List Key×Addr×Q4)}(r:KT H kvs xs)(ht:∀b ys,H b=some (.tup ys)->H' b=some (.tup ys)):KT H' kvs xs:=
 Paired.mapP r fun _ _ z=>⟨z.1,ht _ _ z.2.1,z.2.2⟩
variable{a:Addr}
section
variable{P:ZI}{w:Zk}{h:Heap}
def Ky{u:HO}(ok:HOk P w H h)(e:Rd H a u):eN P w H h a u:=e.ok ok
def uG{kvs:List (Key×V)}(ok:HOk P w H h)(e:Rd H a (.dK kvs)):kvs.length<=ZU/\(a == sysModules)=false/\∃vs,KV kvs vs/\h.DictOf (cV P w) a vs:=
 show eN P w H h a (.dK kvs)from Ky ok e
def Bw{kvs:List (Key×V)}(ok:HOk P w H h)(e:H a=some (.dK kvs)):kvs.length<=ZU/\(a == sysModules)=false/\∃vs,KV kvs vs/\h.DictOf (cV P w) a vs:=uG ok (.inl e)
def qu{ks:List Key}(ok:HOk P w H h)(e:H a=some (.tup (ks.map kV))):(tupleKind (cV P w)).is h ks a:=by
 obtain⟨_,its,r,o,h1,h2,n,h3⟩:=(show eN P w H h a (.tup (ks.map kV))from ok a _ e);exact⟨o,its.toArray,n,h1,h2,h3,by simpa using uf r⟩
def vQ{kvs:List (List Key×V)}(ok:HOk P w H h)(e:Rd H a (.dT kvs)):kvs.length<=ZU/\(a == sysModules)=false/\
  ∃xs,KT H kvs xs/\h.DictOfH (tupleKind (cV P w)) a xs:=by
 obtain⟨z,y,xs,r,o,es,ep,h1,h2,h3,h4,h5⟩:=(show eN P w H h a (.dT kvs)from Ky ok e);refine⟨z,y,xs,r,o,es,ep,h1,h2,h3,h4,fun x hx=>?_,h5⟩;have all:∀{l:List (List Key×V)} {m:List (List Key×Addr×Q4)},KT H l m->∀x∈m,(tupleKind (cV P w)).is h x.1 x.2.1:=by
  intro l m q;induction q with
  |nil=>intro x hx;exact nomatch hx
  |@cons p q ps qs hq t ih=>
   intro x hx;rcases ZD.mp hx with e|hx;subst e;exact qu ok (by rw[<-hq.1];exact hq.2.1);exact ih x hx
 exact all r x hx
def Pq{kvs:List (List Key×V)}(ok:HOk P w H h)(e:H a=some (.dT kvs)):kvs.length<=ZU/\(a == sysModules)=false/\
  ∃xs,KT H kvs xs/\h.DictOfH (tupleKind (cV P w)) a xs:=vQ ok (.inl e)
end
def DGet(H:Hp)(a:Addr)(y:V)(r:Option V):Prop:=
 (∃kvs k,Rd H a (.dK kvs)/\y=kV k/\r=jw kvs k)\/∃kvs k b,Rd H a (.dT kvs)/\y=.ref b/\H b=some (.tup (k.map kV))/\r=jw kvs k
def MT(H:Hp)(a:Addr)(y v:V)(H':Hp):Prop:=
 (∃kvs k,H a=some (.dK kvs)/\y=kV k/\kvs.length<ZU/\H'=upd H a (.dK (sN kvs k v)))\/
 ∃kvs k b,H a=some (.dT kvs)/\y=.ref b/\H b=some (.tup (k.map kV))/\kvs.length<ZU/\H'=upd H a (.dT (sN kvs k v))
def DGet.k{H:Hp}{a:Addr}{kvs:List (Key×V)}{k:Key}(e:H a=some (.dK kvs)):DGet H a (kV k) (jw kvs k):=.inl ⟨kvs,k,.inl e,rfl,rfl⟩
def MT.k{H:Hp}{a:Addr}{kvs:List (Key×V)}{k:Key}{v:V}(e:H a=some (.dK kvs))(hl:kvs.length<ZU):MT H a (kV k) v (upd H a (.dK (sN kvs k v))):=.inl ⟨kvs,k,e,rfl,hl,rfl⟩
variable{r:Q4}{A:Zy}{E:Q4->Q5->Prop}
section
variable{y v:V}{u:Q4}{o:Option V}
def Inv.big(I:Inv X pins σ H s):sysModules<s.heap.objs.size:=by
 have h:mainGlobals<s.heap.objs.size:=(I.mod.glob.keeps I.bk).lt;exact Nat.lt_trans ∅ h
def BB{Q:Q4->Q5->Prop}(hu:A.units+1<cLine)(I:Inv X pins σ H s)(g:DGet H a y (some v))(ry:dk y u)(h:∀w' s',Inv X pins σ H s'->dk v w'->Q w' s') :
  wpAny (ZL X.prog X.w) A (getItem (.ref a) u) Q E s:=by
 rcases g with⟨kvs,k,e,ey,l⟩|⟨kvs,k,b,e,ey,eb,l⟩;subst ey;obtain⟨z,hd,vs,rel,dd⟩:=uG I.hok e;obtain⟨w',hw,rw'⟩:=se.some_of (v:=v) (o:=valueAt vs k) (by rw[l];exact rel.val k);exact wpAny_getItem_of (vH ry) dd.mapOf hw (h w' _ (I.tok _) rw');subst ey;cases (show u=Value.ref b from ry);obtain⟨z,hd,xs,rel,dd⟩:=vQ I.hok e;obtain⟨w',hw,rw'⟩:=se.some_of (v:=v) (o:=(atKey xs k).map (·.2)) (by rw[l];exact rel.val k);obtain⟨p,hp,hp2⟩:=XH.mp hw;refine wpAny_getItem_heap (tupleKind_room_in1 hu) (qu I.hok eb) dd hp ?_;rw[hp2];exact h w' _ (I.tok _) rw'
def QZ{Q:Q4->Q5->Prop}(hu:A.units+1<cLine)(I:Inv X pins σ H s)(g:DGet H a y o)(ry:dk y u)(h:∀s',Inv X pins σ H s'->Q (.bool o.isSome) s') :
  wpAny (ZL X.prog X.w) A (compareOp .In u (.ref a)) Q E s:=by
 rcases g with⟨kvs,k,e,ey,l⟩|⟨kvs,k,b,e,ey,eb,l⟩;subst ey;obtain⟨z,hd,vs,rel,dd⟩:=uG I.hok e;refine wpAny_in_of (vH ry) hd dd.mapOf ?_;rw[<-(rel.val k).isSome_eq,<-l];exact h _ (I.tok _);subst ey;cases (show u=Value.ref b from ry);obtain⟨z,hd,xs,rel,dd⟩:=vQ I.hok e;refine wpAny_in_heap (tupleKind_room_in1 hu) (qu I.hok eb) hd dd ?_;have q:=(rel.val k).isSome_eq;rw[Option.isSome_map]at q;rw[<-q,<-l];exact h _ (I.tok _)
def IU{Q:Q4->Q5->Prop}(hu:A.units+1<cLine)(I:Inv X pins σ H s)(g:DGet H a y o)(ry:dk y u)(h:∀s',Inv X pins σ H s'->Q (.bool (!o.isSome)) s') :
  wpAny (ZL X.prog X.w) A (compareOp .NotIn u (.ref a)) Q E s:=by
 rcases g with⟨kvs,k,e,ey,l⟩|⟨kvs,k,b,e,ey,eb,l⟩;subst ey;obtain⟨z,hd,vs,rel,dd⟩:=uG I.hok e;refine wpAny_notIn_of (vH ry) hd dd.mapOf ?_;rw[<-(rel.val k).isSome_eq,<-l];exact h _ (I.tok _);subst ey;cases (show u=Value.ref b from ry);obtain⟨z,hd,xs,rel,dd⟩:=vQ I.hok e;refine wpAny_notIn_heap (tupleKind_room_in1 hu) (qu I.hok eb) hd dd ?_;have q:=(rel.val k).isSome_eq;rw[Option.isSome_map]at q;rw[<-q,<-l];exact h _ (I.tok _)
def vT{h':Heap}{t':Nat}{ob:HO}(I:Inv X pins σ H s)(mu:Mut (H a))(hs:Heap.SameBut a s.heap h')(he:∃q,h'.get? a=some q)(new:eN X.prog X.w (upd H a ob) h' a ob) :
  Inv X pins σ (upd H a ob) { s with heap:=h',toks:=t' }:=
 I.write (x:=a) (e:=a) mu (.inl rfl) (fun b q hb z=>(hs.2 b hb).trans z) he new
def FV{P:ZI}{w:Zk}{H':Hp}{h':Heap}{kvs:List (Key×V)}{vs:List (Key×Q4)}(z:kvs.length<=ZU)(hd:(a == sysModules)=false)(rel:KV kvs vs)(dd:h'.DictOf (cV P w) a vs) :
  eN P w H' h' a (.dK kvs):=⟨z,hd,vs,rel,dd⟩
def BA{H':Hp}{Q:Unit->Q5->Prop}(hu:A.units+1<cLine)(I:Inv X pins σ H s)(g:MT H a y v H')(ry:dk y u)(rv:dk v r)(h:∀s',Inv X pins σ H' s'->Q () s') :
  wpAny (ZL X.prog X.w) A (setItem (.ref a) u r) Q E s:=by
 rcases g with⟨kvs,k,e,ey,l,eH⟩|⟨kvs,k,b,e,ey,eb,l,eH⟩;subst ey eH;obtain⟨z,hd,vs,rel,dd⟩:=Bw I.hok e;have hz:vs.length<=ZU:=by rw[<-rel.length];exact z
 have hl:(sN kvs k v).length<=ZU:=by have:=oo kvs k v;omega
 refine wpAny_setItem_pairs (hsz:=hz) (vH ry) dd fun h' dd' hs=>h _ ?_;have he:∃q,h'.get? a=some q:=let ⟨q,_,_,hq,_⟩:=dd';⟨q,hq⟩
 exact vT I (by rw[e];exact True.intro) hs he (FV hl hd (rel.put k rv) dd');subst ey eH;cases (show u=Value.ref b from ry);obtain⟨z,hd,xs,rel,dd⟩:=Pq I.hok e;have hz:xs.length<=ZU:=by rw[<-Paired.length rel];exact z
 have hl:(sN kvs k v).length<=ZU:=by have:=oo kvs k v;omega
 refine wpAny_setItem_heap (hsz:=hz) (tupleKind_room_in1 hu) (qu I.hok eb) dd fun h' dd' hs=>h _ ?_;obtain⟨q,es,ep,hq,h2,h3,h4,_,h5⟩:=dd';refine vT I (by rw[e];exact True.intro) hs ⟨q,hq⟩ ⟨hl,hd,_,(rel.put k eb rv).keeps fun c ys ec=>?_,q,es,ep,hq,h2,h3,h4,h5⟩;rw[aM (O2 ec e (fun z=>nomatch z))];exact ec
end
section
variable{kvs:List (Key×V)}{k:Key}{u:Q4}
def Pu{v:V}{more:List Q4}{Q:Q4->Q5->Prop}(I:Inv X pins σ H s)(e:H a=some (.dK kvs))(ry:dk (kV k) u)(l:jw kvs k=some v)(hm:more=[]\/∃x,more=[x])
  (h:∀w' s',Inv X pins σ (upd H a (.dK (rP kvs k))) s'->dk v w'->Q w' s'):wpAny (ZL X.prog X.w) A (call (.builtin "dict.pop") (.ref a::u::more)) Q E s:=by
 obtain⟨z,hd,vs,rel,dd⟩:=Bw I.hok e;obtain⟨w',hw,rw'⟩:=se.some_of (v:=v) (o:=valueAt vs k) (by rw[<-l];exact rel.val k);have hp:(keyPart u).isSome=true:=by
  cases k with
  |inl i=>obtain⟨t,q⟩:=(show ∃t,u=Value.int i t from ry);subst q;rfl
  |inr x=>obtain⟨t,q⟩:=(show ∃t,u=Value.str x t from ry);subst q;rfl
 have ha:argsOk "dict.pop" ⟨.ref a::u::more,[]⟩:=by
  rcases hm with q|⟨x,q⟩;subst q;exact PySem.F.args_dict_pop_2 _ _;subst q;exact PySem.F.args_dict_pop_3 _ _ _
 refine call_meetsIn PySem.F.slot_dict_pop dd.typeIs PySem.F.entry_dict_pop ha (meets_dict_pop_there (cV X.prog X.w) a (vH ry) more hm hp)
  ⟨vs,w',dd,by rw[<-rel.length];exact z,hw,fun h' dd' hs=>h w' _ ?_ rw'⟩
 have he:∃q,h'.get? a=some q:=let ⟨q,_,_,hq,_⟩:=dd';⟨q,hq⟩
 exact vT I (by rw[e];exact True.intro) hs he (FV (Zw (Es kvs k) z) hd (rel.drop k) dd')
def Pw{Q:Q4->Q5->Prop}(I:Inv X pins σ H s)(e:Rd H a (.dK kvs))(h:∀t s',Inv X pins σ H s'->Q (.int kvs.length t) s'):wpAny (ZL X.prog X.w) A (call (.builtin "len") [.ref a]) Q E s:=by
 obtain⟨z,hd,vs,rel,dd⟩:=uG I.hok e;refine call_len_dict hd dd (by rw[<-rel.length];rw[sizeLine_eq]at z;omega) ?_;rw[<-rel.length];exact h _ _ (I.tok _)
end
def MK(i:ZR):Prop:=∀ov iv,subscripted i false ov iv=operate [ov,iv] (getItem ov iv)
def G9{prog:ZI}{w:Zk}{A:Zy}{E:Q4->Q5->Prop}{s:Q5}{env:Env}{value slice:ZR}{pos:Pos}{T id:String}{Q:Q4->Q5->Prop}
  (hl:typeLookup (.type T) "__getitem__"=pure (some (.builtin id))) (hs:MK slice)
  (h:wpAny (ZL prog w) A (eval value env) (fun o s₁=>wpAny (ZL prog w) A (eval slice env) (fun i s₂=>s₂.TypeIs o T/\wpAny (ZL prog w) A (getItem o i) Q E s₂) E s₁) E s) :
  wpAny (ZL prog w) A (eval (.Subscript value slice pos) env) Q E s:=by
 refine Subscript_ (XX h (fun o s₁ h₁=>XX h₁ (fun i s₂ h₂=>?_) fun _ _ x=>x) fun _ _ x=>x);obtain⟨hT,h₂⟩:=h₂;unfold subscriptTail;refine Q8 ?_;rw[getitemInPython_of_ne hT.not_modules];refine Q8 (wpAny_specialOf hT hl ?_);have fin:wpAny (ZL prog w) A (subscripted slice false o i) (fun r s₃=>wpAny (ZL prog w) A (letTemporaryGo value o r >>= fun _=>pure r) Q E s₃) E s₂:=by
  rw[hs o i];exact wpAny_operating (XX h₂ (fun r s₃ h₃=>Q8 (wpAny_letTemporaryGo (ZC h₃))) fun _ _ x=>x)
 first
  |exact ZC (Q8 fin)
  |exact Q8 (ZC (Q8 fin))
  |exact Q8 fin
def vS{X:Cx}{pins:List (Addr×Obj)}{σ:St}{H:Hp}{s:Q5}{a:Addr}{y:V}{o:Option V}(I:Inv X pins σ H s)(g:DGet H a y o):s.TypeIs (.ref a) "dict":=by
 rcases g with⟨kvs,k,e,_,_⟩|⟨kvs,k,b,e,_,_,_⟩;obtain⟨_,_,vs,_,dd⟩:=uG I.hok e;exact dd.typeIs;obtain⟨_,_,xs,_,dd⟩:=vQ I.hok e;exact dd.typeIs
def Kn(td ty:TE):TE:=fun σ H Q=>td σ H fun x H1=>ty σ H1 fun y H2=>∃a v,x=.ref a/\DGet H2 a y (some v)/\Q v H2
def MZ(ty td:TE):TE:=fun σ H Q=>ty σ H fun y H1=>td σ H1 fun x H2=>∃a o,x=.ref a/\DGet H2 a y o/\Q (.bl o.isSome) H2
def vj(ty td:TE):TE:=fun σ H Q=>ty σ H fun y H1=>td σ H1 fun x H2=>∃a o,x=.ref a/\DGet H2 a y o/\Q (.bl (!o.isSome)) H2
def Kx(td ty tv:TE):TS:=fun D σ H=>tv σ H fun v H1=>td σ H1 fun x H2=>ty σ H2 fun y H3=>∃a H4,x=.ref a/\MT H3 a y v H4/\D.nx σ H4
variable{td ty:TE}
section
variable{i value:ZR}{pos':Pos}{tv:TE}
def HF(hu:X.A.units+1<cLine)(ho:PE X o td)(hi:PE X i ty)(hs:MK i):PE X (.Subscript o i pos) (Kn td ty):=by
 intro pins s σ H Q I h;refine G9 PySem.F.slot_dict_getitem.lookup hs (thn (ho pins s σ H _ I h) fun u s1 ⟨x,H1,I1,rx,q1⟩=>thn (hi pins s1 σ H1 _ I1 q1) fun iv s2 hz=>?_);obtain⟨y,H2,I2,ry,a,v,ex,g,q2⟩:=hz;subst ex;obtain rfl:u=Value.ref a:=rx;exact⟨vS I2 g,BB hu I2 g ry fun w' s3 I3 rw'=>⟨v,H2,I3,rw',q2⟩⟩
def Lg(hu:X.A.units+1<cLine)(hi:PE X i ty)(ho:PE X o td):PC X .In i o (MZ ty td):=by
 intro pins s σ H Q I h;refine thn (hi pins s σ H _ I h) fun iv s1 ⟨y,H1,I1,ry,q1⟩=>thn (ho pins s1 σ H1 _ I1 q1) fun u s2 hz=>?_;obtain⟨x,H2,I2,rx,a,ov,ex,g,q2⟩:=hz;subst ex;obtain rfl:u=Value.ref a:=rx;exact QZ hu I2 g ry fun s3 I3=>⟨.bl ov.isSome,H2,I3,rfl,q2⟩
def Ak(hu:X.A.units+1<cLine)(hi:PE X i ty)(ho:PE X o td):PC X .NotIn i o (vj ty td):=by
 intro pins s σ H Q I h;refine thn (hi pins s σ H _ I h) fun iv s1 ⟨y,H1,I1,ry,q1⟩=>thn (ho pins s1 σ H1 _ I1 q1) fun u s2 hz=>?_;obtain⟨x,H2,I2,rx,a,ov,ex,g,q2⟩:=hz;subst ex;obtain rfl:u=Value.ref a:=rx;exact IU hu I2 g ry fun s3 I3=>⟨.bl (!ov.isSome),H2,I3,rfl,q2⟩
def Hv(hu:X.A.units+1<cLine)(ho:PE X o td)(hi:PE X i ty)(hv:PE X value tv)(hs:XT value (some (.Subscript o i pos')) pos.line X.env=pure false) :
  PS X (.Assign [.Subscript o i pos'] value pos) (Kx td ty tv):=by
 intro pins s σ H D I h;refine wpAny_Assign_Subscript (thn (hv pins s σ H _ I h) fun r s1 ⟨v,H1,I1,rv,q1⟩=>thn (ho pins s1 σ H1 _ I1 q1) fun u s2 ⟨x,H2,I2,rx,q2⟩=>thn (hi pins s2 σ H2 _ I2 q2) fun iv s3 hz=>?_) hs;obtain⟨y,H3,I3,ry,a,H4,ex,g,q3⟩:=hz;subst ex;obtain rfl:u=Value.ref a:=rx;exact BA hu I3 g ry rv fun s4 I4=>⟨σ,H4,I4,q3⟩
end
def Eu{P:ZI}{w:Zk}{H:Hp}(h:Heap)(hb:sysModules<h.objs.size):eN P w H (h.push { cls:=.type "dict",data:=.dict #[] }) h.objs.size (.dK []):=
 ⟨Zp _,beq_eq_false_iff_ne.mpr (Ne.symm (Zq hb)),[],.nil,Heap.DictOf.new h⟩
def Fb:TE:=fun _ H Q=>∀p,H p=none->Q (.ref p) (upd H p (.dK []))
def Dx:PE X (.Dict [] [] pos) Fb:=fun pins s σ H Q I h=>
 wpAny_Dict_empty ⟨.ref s.heap.objs.size,_,I.laid (a:=s.heap.objs.size) (o:=.dK []) (t':=s.toks) (fun _ _ q=>Q9 _ q) (Z6 _) (Eu s.heap I.big),rfl,h _ (I.hok.fresh (Z6 _))⟩
structure M1(X:Cx)(o:ZR)(m:Str)(apos:Pos)(e:ZR)(cpos:Pos):Prop where
 base:attributeBase o m X.env (eval o X.env)=eval o X.env
 few:((Zi cpos (Z9 [e] X.env)).all (fun x=>!x.1)&&(backToKw cpos (keywordEach [] X.env)).all (fun x=>x.1.isSome)
  && decide (([e]:List ZR).length+([]:List Keyword).length+(if ([]:List Keyword).isEmpty then 0 else 1)<30))=true
 line:(apos.endLine == cpos.line)=true
 trees:Zi cpos (Z9 [e] X.env)=[(false,eval e X.env)]
structure M2(X:Cx)(o:ZR)(m:Str)(apos:Pos)(e f:ZR)(cpos:Pos):Prop where
 base:attributeBase o m X.env (eval o X.env)=eval o X.env
 few:((Zi cpos (Z9 [e,f] X.env)).all (fun x=>!x.1)&&(backToKw cpos (keywordEach [] X.env)).all (fun x=>x.1.isSome)
  && decide (([e,f]:List ZR).length+([]:List Keyword).length+(if ([]:List Keyword).isEmpty then 0 else 1)<30))=true
 line:(apos.endLine == cpos.line)=true
 trees:Zi cpos (Z9 [e,f] X.env)=[(false,eval e X.env),(false,eval f X.env)]
def IsD(H:Hp)(a:Addr):Prop:=(∃kvs,Rd H a (.dK kvs))\/∃kvs,Rd H a (.dT kvs)
def FG{X:Cx}{pins:List (Addr×Obj)}{σ:St}{H:Hp}{s:Q5}{a:Addr}(I:Inv X pins σ H s)(d:IsD H a) :
  s.TypeIs (.ref a) "dict"/\(∀b,Value.ref a=.ref b->∃ob,s.heap.get? b=some ob/\ob.dict=none)/\(a == sysModules)=false:=by
 rcases d with⟨kvs,e⟩|⟨kvs,e⟩;obtain⟨_,hd,vs,_,dd⟩:=uG I.hok e;refine⟨dd.typeIs,fun b q=>?_,hd⟩;cases q;obtain⟨ob,_,_,h1,h2,_⟩:=dd;exact⟨ob,h1,h2.2.1⟩;obtain⟨_,hd,xs,_,dd⟩:=vQ I.hok e;refine⟨dd.typeIs,fun b q=>?_,hd⟩;cases q;obtain⟨ob,_,_,h1,h2,_⟩:=dd;exact⟨ob,h1,h2.2.1⟩
section
variable{y d:V}{u:Q4}{o:Option V}
def MD{Q:Q4->Q5->Prop}(hu:A.units+1<cLine)(I:Inv X pins σ H s)(g:DGet H a y o)(ry:dk y u)(rd:dk d r)(h:∀w' s',Inv X pins σ H s'->dk (o.getD d) w'->Q w' s') :
  wpAny (ZL X.prog X.w) A (call (.builtin "dict.get") [.ref a,u,r]) Q E s:=by
 rcases g with⟨kvs,k,e,ey,l⟩|⟨kvs,k,b,e,ey,eb,l⟩;subst ey;obtain⟨z,hd,vs,rel,dd⟩:=uG I.hok e;refine call_meetsIn PySem.F.slot_dict_get dd.typeIs PySem.F.entry_dict_get (PySem.F.args_dict_get_3 _ _ _) (meets_dict_get_default (cV X.prog X.w) a (vH ry) hd r) ⟨_,dd.mapOf,h _ _ (I.tok _) ?_⟩;rw[l];exact(rel.val k).getD rd;subst ey;cases (show u=Value.ref b from ry);obtain⟨z,hd,xs,rel,dd⟩:=vQ I.hok e;refine call_meetsIn PySem.F.slot_dict_get dd.typeIs PySem.F.entry_dict_get (PySem.F.args_dict_get_3 _ _ _) (meetsH_dict_get_default (tupleKind (cV X.prog X.w)) a b hd r) ⟨tupleKind_room_in1 hu,k,xs,qu I.hok eb,dd,h _ _ (I.tok _) ?_⟩;rw[l];exact(rel.val k).getD rd
end
def Fc(td ty tx:TE):TE:=fun σ H Q=>td σ H fun x H1=>∃a,x=.ref a/\IsD H1 a/\ty σ H1 fun y H2=>tx σ H2 fun z H3=>∃o,DGet H3 a y o/\Q (o.getD z) H3
def E9(td ty:TE):TE:=fun σ H Q=>td σ H fun x H1=>∃a,x=.ref a/\IsD H1 a/\ty σ H1 fun y H2=>∃kvs k v,H2 a=some (.dK kvs)/\y=kV k/\jw kvs k=some v/\Q v (upd H2 a (.dK (rP kvs k)))
section
variable{f:ZR}{tx:TE}
def Dy(hu:X.A.units+1<cLine)(ho:PE X o td)(he:PE X e ty)(hf:PE X f tx)(m:M2 X o "get" apos e f cpos):PE X (.Call (.Attribute o "get" apos) [e,f] [] cpos) (Fc td ty tx):=by
 intro pins s σ H Q I h;refine wpAny_Call_method m.base m.few m.line PySem.F.plainAttrs_dict PySem.F.slot_dict_get PySem.F.type_dict_get (thn (ho pins s σ H _ I h) fun u s1 hz=>?_);obtain⟨x,H1,I1,rx,a,ex,d,q1⟩:=hz;subst ex;obtain rfl:u=Value.ref a:=rx;obtain⟨t1,t2,_⟩:=FG I1 d;refine⟨t1,t2,?_⟩;rw[m.trees];refine Calls.callWith_builtin rfl (Calls.evalArgs_plain (Calls.spliced_cons (thn (he pins s1 σ H1 _ I1 q1) fun iv s2 ⟨y,H2,I2,ry,q2⟩=>
  Calls.spliced_cons (thn (hf pins s2 σ H2 _ I2 q2) fun fv s3 ⟨z,H3,I3,rz,ov,g,q3⟩=>Calls.spliced_nil ?_))))
 exact MD hu I3 g ry rz fun w' s4 I4 rw'=>⟨_,H3,I4,rw',q3⟩
def Dw(ho:PE X o td)(he:PE X e ty)(m:M1 X o "pop" apos e cpos):PE X (.Call (.Attribute o "pop" apos) [e] [] cpos) (E9 td ty):=by
 intro pins s σ H Q I h;refine wpAny_Call_method m.base m.few m.line PySem.F.plainAttrs_dict PySem.F.slot_dict_pop PySem.F.type_dict_pop (thn (ho pins s σ H _ I h) fun u s1 hz=>?_);obtain⟨x,H1,I1,rx,a,ex,d,q1⟩:=hz;subst ex;obtain rfl:u=Value.ref a:=rx;obtain⟨t1,t2,_⟩:=FG I1 d;refine⟨t1,t2,?_⟩;rw[m.trees];refine Calls.callWith_builtin rfl (Calls.evalArgs_plain (Calls.spliced_cons (thn (he pins s1 σ H1 _ I1 q1) fun iv s2 ⟨y,H2,I2,ry,kvs,k,v,ea,ey,l,q2⟩=>Calls.spliced_nil ?_)));subst ey;exact Pu I2 ea ry l (.inl rfl) fun w' s3 I3 rw'=>⟨v,_,I3,rw',q2⟩
end
end L2
namespace Att
open PySem PySem.W PySem.Calls PyProof.Rows
def oA{P:Params}{h:Heap}:∀(ns:List Int) (vs:List Q4),WellAll P h vs (ns.map WData.int)->IntsAre vs ns:=by
 intro ns;induction ns with
 |nil=>
  intro vs w;rw[XU]at w;cases w;exact .nil
 |cons n ns ih=>
  intro vs w;rw[ZK]at w;cases w with
  |cons a b=>
   cases a;exact .cons _ _ (ih _ b)
def zS{l:OpenLaw}{n:Nat}(hn:l.most=some n){P:Params}{h:Heap}{args:List WData}{vals:List Q4}
  (hpre:l.row.toRowW.claim.pre args=true) (hwl:WellAll P h vals args) :
  ∃a vs ns,vals=[Value.ref a]/\args=[WData.list (ns.map WData.int)]/\h.get? a=some { cls:=.type "list",data:=.seq vs.toArray }/\IntsAre vs ns/\ns.length<=n:=by
 have hsh:WShape.hasAll [] args [.list .int]=true:=(pre_splitW hpre).1;have hc:l.pre.holds [] { args:=args }=true:=(pre_splitW hpre).2;obtain⟨d,r,rfl,h1,h2⟩:=hasAllW_cons hsh;obtain rfl:=hasAllW_nil h2;obtain⟨xs,rfl,h3⟩:=hasW_list h1;obtain⟨ns,rfl⟩:=items_int h3;have hlen:ns.length<=n:=by
  unfold OpenLaw.pre at hc;have h4:(WTm.not (.lt (.lit (.int (n:Int))) (.len (.arg 0)))).holds [] { args:=[.list (ns.map .int)] }=true:=by
   have h4:=(holds_andW hc).1;rw[hn]at h4;exact h4
  have h5:=condW_of h4 (w_not (w_lt w_lit (w_len_list (w_arg rfl))));rw[Q7]at h5;refine Nat.le_of_not_lt fun q=>?_;have q':(n:Int)<((ns.length:Nat):Int):=by omega
  first
   |(rw[Xc q']at h5;exact absurd h5 ∅)
   |(simp at h5;omega)
 cases hwl with
 |cons w1 w2=>
  cases w2;cases w1 with
  |list ho hall=>exact⟨_,_,ns,rfl,rfl,ho,oA ns _ hall,hlen⟩
def Ah(l:OpenLaw)(args:List WData):l.row.toRowW.claim.post args (.bool true) args=true:=
 postW_of (r:=l.row.toRowW) (X:=(true == true))
  (show WShape.has [] (.bool true) .bool=true by first|rfl|decide|simp[WShape.has,WShape.arms,WShape.armsAll])
  (show(WTm.eq .res (.lit (.bool true))).value [] { args:=args,res:=some (.bool true),after:=args }=some (.bool (true == true))from w_eq_bool (w_res rfl) w_lit) rfl
def attach_call{l:OpenLaw}{n:Nat}{q:ZI}{eQ:List Str}{XP:(Str->Option Q4)->Heap->Prop}{YP:Zk->Heap->Prop}{d:DefRec}
  (hn:l.most=some n) (hdf:d.params.defaults=[])
  (call:∀(w:Zk) (s₀ s₁:Q5) (mg mb:Str->Option Q4) (fa:Addr) (o:Obj) (pm cd doc:Q4) (a:Addr) (vs:List Q4) (ns:List Int),
   Ground q eQ [] XP w s₀ mg mb s₁.heap->YP w s₁.heap->
   s₁.heap.get? fa=some o->o.data=.func (docDef d.name d.params d.body d.scope pm cd doc)->s₁.heap.CodeRec cd d.name->mg d.name=some (.ref fa)->
   s₁.heap.get? a=some { cls:=.type "list",data:=.seq vs.toArray }->IntsAre vs ns->ns.length<=n->s₁.gens=#[]->
   codeAny (ZL l.prog w) callerA (.call (.ref fa) ⟨[.ref a],[]⟩) (fun r s'=>r=.ok (.ret (.bool true))/\OldK s₁.heap s'.heap/\s'.os=s₁.os/\AllBare s'.gens) s₁) :
  WalkO q eQ XP YP l.row.toRowW d [] (fun f vs=>PySem.call f vs):=by
 intro w s₀ s₁ mg mb G Y fa o pm cd doc dV kV ho hd hcd hD hmg hg args vals as hpre hlay hrd hwl hlo;obtain rfl:dV=.none:=Dflts.none hD hdf;obtain rfl:kV=.none:=Dflts.noKw hD;obtain⟨a,vs,ns,rfl,rfl,hobj,hints,hlen⟩:=zS hn hpre hwl;refine enter_call (codeAny_mono (call w s₀ s₁ mg mb fa o pm cd doc a vs ns G Y ho (fd_plain hd) hcd hmg hobj hints hlen hg) fun r s' hq=>?_);obtain⟨rfl,h2,h3,h4⟩:=hq;exact⟨.inl ⟨.bool true,.bool true,[],rfl,fun _=>rfl,.bool true,Ah l _,fun _=>⟨List.Pairwise.nil,fun _ hm=>nomatch hm⟩⟩,h2,h3,h4⟩
end Att
namespace L2
open PySem PySem.Spec PyProof.Rows
def ja:∀{vs:List Q4} {ns:List Int},IntsAre vs ns->cm (ns.map V.int) vs
 |_,_,.nil=>.nil
 |_,_,.cons n t h=>.cons ⟨t,rfl⟩ (ja h)
def aK(s:Zv)(j:Nat):Zv:=match s with
 |.ClassDef _ _ _ body _ _ _ _ _ _ _=>body.getD j (.Pass ⟨0,0,0,0⟩)
 |_=>.Pass ⟨0,0,0,0⟩
def gX(s:Zv):Arguments:=match s with
 |.FunctionDef _ a _ _ _ _ _ _ _ _=>a
 |_=>{ posonlyargs:=[],args:=[],vararg:=none,kwonlyargs:=[],kw_defaults:=[],kwarg:=none,defaults:=[] }
noncomputable def bN(s:Zv):List Zv:=match s with
 |.FunctionDef _ _ b _ _ _ _ _ _ _=>b
 |_=>[]
noncomputable def aA(s:Zv):Xz:=match s with
 |.FunctionDef _ _ _ _ _ _ sc _ _ _=>sc
 |_=>{ kind:=.function,names:=[],isGenerator:=false,isCoroutine:=false }
abbrev CX0:CXT:=fun _ _ _ _ _ _=>False
abbrev E0:XK:=fun _ _ _=>False
def DB{X:Cx}:jN CX0 X E0:=fun _ _ _ _ _ _ _ h=>h.elim
structure Fun(K:Q3)(x qual:Str)(st:Zv)(f:Addr)(fd:XE):Prop where
 ex:∃(oc:Q4) (od:Option Addr) (kV doc pm:Q4) (an:Option Addr) (cdv ct:Q4) (osl:Array (Option Q4)),
  fd=YB x qual (gX st) (bN st) (aA st) .none kV doc pm an cdv ct/\K.lookup f=some ⟨oc,od,.func fd,osl⟩/\YE K cdv qual=true
 kp:YC K (.ref f)=true
section
variable{P:ZI}{w:Zk}{K:Q3}{mg:Str->Option Q4}{base:Heap}
def Fun.ok{x qual:Str}{st:Zv}{f:Addr}{fd:XE}{N ps:List Str}{k:Nat}{sp:Sp}(F:Fun K x qual st f fd)(S:cP N ps (aA st))(len:∀vs H Q E,sp vs H Q E->vs.length=ps.length)
  (hbody:∀(cdv:Q4) (A:Zy) (outer:List Env) (s:Q5) (H:Hp) (vs:List V) (Q:VK) (E:XK),fb k (A.deeper (envOfC qual (aA st) s.heap.objs.size f cdv))->sp vs H Q E->
   ∃t,PSs (oK CX0 P w K mg base N qual (aA st) f cdv A outer s H E).nox (bN st) t/\t { nx:=fun _ H'=>Q .non H',rt:=Q } (j9 N vs) H):lQ P w K mg base CX0 (k+1) f fd ps sp:=by
 obtain⟨oc,od,kV,doc,pm,an,cdv,ct,osl,rfl,lk,hcd⟩:=F.ex;refine IJ lk hcd S len fun A outer s H vs Q E hr hsp=>?_;obtain⟨t,h,q⟩:=hbody cdv A outer s H vs Q E hr hsp;exact⟨t,h.nox,q⟩
def Fun.binds{x qual:Str}{st:Zv}{f:Addr}{fd:XE}{ps:List Str}(F:Fun K x qual st f fd)
  (h:∀(kV doc pm:Q4) (an:Option Addr) (cdv ct:Q4) (us:List Q4),us.length=ps.length->bindArgs (YB x qual (gX st) (bN st) (aA st) .none kV doc pm an cdv ct) ⟨us,[]⟩=pure (ps.zip us)):iE K fd ps []:=by
 obtain⟨oc,od,kV,doc,pm,an,cdv,ct,osl,rfl,lk,hcd⟩:=F.ex;exact .all (h kV doc pm an cdv ct)
def FK{x qual:Str}{st:Zv}{f:Addr}{oc:Q4}{od an:Option Addr}{osl:Array (Option Q4)}{kV doc pm cdv ct:Q4}(l:K.lookup f=some ⟨oc,od,.func (YB x qual (gX st) (bN st) (aA st) .none kV doc pm an cdv ct),osl⟩)
  (c:YE K cdv qual=true) (k:YC K (.ref f)=true):Fun K x qual st f (YB x qual (gX st) (bN st) (aA st) .none kV doc pm an cdv ct):=⟨⟨oc,od,kV,doc,pm,an,cdv,ct,osl,rfl,l,c⟩,k⟩
end
def yt{A:Zy}{k:Nat}(hr:fb k A):A.units+1<cLine:=Nat.lt_of_le_of_lt (Nat.add_le_add_left (by decide:1<=64) _) hr.units
def zR{n:Nat}(h:n<=1000):n<ZU:=Nat.lt_of_le_of_lt h ∅
section
variable{X:Cx}
def pv(i:Nat){x:Str}{pos:Pos}(hN:X.N[i]?=some x:=by rfl)(hv:Vis X.env.scope x:=by first|exact Or.inl rfl|exact Or.inr (Or.inl rfl)|exact Or.inr (Or.inr rfl))(hd:(x == ("__debug__":Str))=false:=by decide)
  (hcd:(x == ("__classdict__":Str))=false:=by decide):PE X (.Name x pos) (MW i):=K4 hN hv hd hcd
def BG:hV X (.builtin "len") (fun xs H Q=>∃a kvs,xs=[V.ref a]/\H a=some (.dK kvs)/\Q (.int kvs.length) H):=by
 intro pins s σ H xs us Q I r h;obtain⟨a,kvs,rfl,ha,q⟩:=h;obtain⟨u,rfl,ru⟩:=m8 r;cases ru;exact Pw I (.inl ha) fun t s' I'=>⟨.int kvs.length,H,I',⟨t,rfl⟩,q⟩
end
def Jn{A B:Prop}(h:B):if false=true then A else B:=by
 rw[Xf Z8];exact h
def Jm{A B:Prop}(h:A):if true=true then A else B:=by
 rw[Xd rfl];exact h
def Gd(H H':Hp):Prop:=∀b o,H b=some o->H' b=some o
def Gd.refl(H:Hp):Gd H H:=fun _ _ h=>h
end L2
namespace OG
open PySem PySem.Spec PyProof.Rows L2
structure WE(X:Cx)(e:ZR)(t:TE):Prop where
 h:PE X e t
structure WT(X:Cx)(e:ZR)(t:TT):Prop where
 h:PT X e t
structure WW(X:Cx)(e:ZR)(t:TT):Prop where
 h:PW X e t
structure WA(X:Cx)(es:List ZR)(t:TA):Prop where
 h:PA X es t
structure WS(X:Cx)(st:Zv)(t:TS):Prop where
 h:PS X st t
structure WSs(X:Cx)(st:List Zv)(t:TS):Prop where
 h:PSs X st t
structure WI(X:Cx)(tg iter:ZR)(wi:TI):Prop where
 h:PI X tg iter wi
structure WG(X:Cx)(target:ZR)(t:TG):Prop where
 h:PG X target t
structure WGs(X:Cx)(ts:List ZR)(t:TGs):Prop where
 h:PGs X ts t
structure WC(X:Cx)(op:CmpOp)(a b:ZR)(t:TE):Prop where
 h:PC X op a b t
structure WO(X:Cx)(e:Option ZR)(t:TO):Prop where
 h:PO X e t
variable{X:Cx}
def GQ{i j pos}:WE X (.Constant (.int i) j pos) (tC (.int i)):=⟨Lb ⟩
def J7{b j pos}:WE X (.Constant (.bool b) j pos) (tC (.bl b)):=⟨OV ⟩
def GO{j pos}:WE X (.Constant .none j pos) (tC .non):=⟨K9 ⟩
def GK{x j pos}:WE X (.Constant (.str x) j pos) (tC (.str x)):=⟨K6 ⟩
variable{a b:ZR}{pos:Pos}
def GS{op:CmpOp}{t:TE}(h:WC X op a b t)(h1:behindInMarks op b=false:=by first|exact nobehind _ ∅ ∅|rfl):WE X (.Compare a [op] [b] pos) t:=⟨Ld h.h h1⟩
def yY{op:CmpOp}{t:TE}(h:WC X op a b t)(h1:behindInMarks op b=false:=by first|exact nobehind _ ∅ ∅|rfl):WT X (.Compare a [op] [b] pos) (tB t):=⟨KP h.h h1⟩
def Gz{e:ZR}{t:TE}(h:WE X e t)(he:∀whole,isTrue e X.env whole=(do let v <-whole;standAt e.pos;holding [v] (truthy v)):=by intro _;rfl):WT X e (tB t):=⟨KJ h.h he⟩
section
variable{tA:TT}
def Cn(ha:WT X a tA):WW X (.BoolOp .And [a] pos) tA:=⟨Ho ha.h⟩
def Gx(ha:WT X a tA):WW X (.BoolOp .Or [a] pos) tA:=⟨KH ha.h⟩
end
variable{rest:List ZR}
section
variable{tA tB':TT}
def Gy(ha:WT X a tA)(hb:WW X (.BoolOp .And (b::rest) pos) tB'):WW X (.BoolOp .And (a::b::rest) pos) (P5 tA tB'):=⟨KI ha.h hb.h⟩
def JZ(ha:WT X a tA)(hb:WW X (.BoolOp .Or (b::rest) pos) tB'):WW X (.BoolOp .Or (a::b::rest) pos) (tOr tA tB'):=⟨OM ha.h hb.h⟩
end
section
variable{tA:TT}
def GA(ha:WT X a tA):WT X (.UnaryOp .Not a pos) (PV tA):=⟨KO ha.h⟩
end
def GL{op}{t:TE}(h:WE X a t):WE X (.BoolOp op [a] pos) t:=⟨K7 h.h⟩
variable{ta tb:TE}
def GV(ha:WE X a ta)(hb:WE X (.BoolOp .And (b::rest) pos) tb):WE X (.BoolOp .And (a::b::rest) pos) (Ks ta tb):=⟨Lf ha.h hb.h⟩
def J3(ha:WE X a ta)(hb:WE X (.BoolOp .Or (b::rest) pos) tb):WE X (.BoolOp .Or (a::b::rest) pos) (PU ta tb):=⟨OR ha.h hb.h⟩
def GN(ha:WE X a ta):WE X (.UnaryOp .Not a pos) (Kh ta):=⟨K8 ha.h⟩
def Cp :WSs X [] Kj:=⟨Ht ⟩
variable{t:TS}
section
variable{st:Zv}{rest:List Zv}{u:TS}
def yZ(h1:WS X st t)(h2:WSs X rest u):WSs X (st::rest) (PQ t u):=⟨Dg h1.h h2.h⟩
end
section
variable{st:Zv}
def Co(h1:WS X st t):WSs X [st] t:=⟨Hs h1.h⟩
end
def zd :WS X (.Break pos) Fd:=⟨Dj ⟩
variable{e:ZR}{te:TE}
def Cq(he:WE X e te)(hs:XT e none pos.line X.env=pure false:=by rfl):WS X (.Expr e pos) (Km te):=⟨Hu he.h hs⟩
def GC(he:WE X e te):WS X (.Return (some e) pos) (PR te):=⟨KR he.h⟩
section
variable{u:TS}
def J0{c:ZR}{a b:List Zv}{tc:TT}(hc:WT X c tc)(ha:WSs X a t)(hb:WSs X b u):WS X (.If c a b pos) (PY tc t u):=⟨ON hc.h ha.h hb.h⟩
end
section
variable{st:Zv}
def zb :WS X st E8:=⟨Di ⟩
end
def ba{i:Nat}{x:Str}(hN:X.N.Nodup)(hi:X.N[i]?=some x)(hx:Loc X.env.scope x)(hf:X.fn x=true\/X.env.scope.names.lookup x=some .local:=by first|exact .inl rfl|exact .inr rfl|assumption):WG X (.Name x pos) (yz i):=⟨HC hN hi hx hf⟩
def Cv :WGs X [] Qp:=⟨HB ⟩
def ze{e:ZR}{es:List ZR}{t:TG}{u:TGs}(h1:WG X e t)(h2:WGs X es u)(hs:(assignEach (e::es) X.env).map (·.2)=assign e X.env::(assignEach es X.env).map (·.2):=by rfl):WGs X (e::es) (Mp t u):=⟨Dr h1.h h2.h hs⟩
def GH{es:List ZR}{k:Nat}{t:TGs}{n:Nat}(hc:X.calm=true)(h:WGs X es t)(hn:(assignEach es X.env).length=n:=by rfl)(hst:(assignEach es X.env).findIdx? (·.1)=none:=by rfl):WG X (.Tuple es k pos) (Qn X.K n t):=⟨K2 hc h.h hn hst⟩
def GI {o i : ZR} {to ti : TE} {t : Nr} (ho : WE X o to) (hi : WE X i ti) (hs : PJ X t) (ha : ∀ v, assign (.Subscript o i pos) X.env v = (do
   let ov <-holding [v] (eval o X.env)
   let iv <-holding [v,ov] (eval i X.env)
   standAt pos
   holding [v,ov,iv] (setItem ov iv v)
   release [v,ov,iv] []):=by intro _;rfl):WG X (.Subscript o i pos) (Qo to ti t):=⟨K3 ho.h hi.h hs ha⟩
def GF{tg e:ZR}{te:TE}{g:TG}(he:WE X e te)(hg:WG X tg g)(hs:swapsWithSole [tg] e pos.line X.env=pure false:=by rfl)(hw:swappedStores [tg] e X.env=pure none:=by rfl)(h1:(assignEach [tg] X.env).map (·.2)=[assign tg X.env]:=by rfl):WS X (.Assign [tg] e pos) (M9 te g):=⟨KW he.h hg.h hs hw h1⟩
def GB{i:Nat}{x:Str}{e:ZR}{te:TE}{pos':Pos}(hN:X.N.Nodup)(hi:X.N[i]?=some x)(hx:Loc X.env.scope x)(he:WE X e te)(hs:XT e (some (.Name x pos')) pos.line X.env=pure false:=by rfl)(hf:X.fn x=true\/X.env.scope.names.lookup x=some .local:=by first|exact .inl rfl|exact .inr rfl|assumption):WS X (.Assign [.Name x pos'] e pos) (M9 te (yz i)):=⟨KQ hN hi hx he.h hs hf⟩
def za{c:ZR}{body:List Zv}{tc:TT}{tb:TS}(hp:PassesOwn (ZL X.prog X.w) X.A X.env X.xe)(hc:WT X c tc)(hb:WSs X body tb):WS X (.While c body [] pos) (zK tc tb):=⟨Dh hp hc.h hb.h⟩
section
variable{tg:ZR}
def Cu{l:ZR}{tl:TE}(hl:WE X l tl):WI X tg l (L7 X.K tl):=⟨HA hl.h⟩
def GG{l:ZR}{tl:TE}(hl:WE X l tl):WI X tg l (Qm X.K tl):=⟨KZ hl.h⟩
def x8{a:ZR}{ta:TA}{p pos:Pos}(hg:Gl X "range")(hm:X.mg "range"=none)(ha:WA X [a] ta)(hs:Z9 [a] X.env=[(false,eval a X.env)]:=by rfl):WI X tg (.Call (.Name "range" p) [a] [] pos) (L6 ta):=⟨Ai hg hm ha.h hs⟩
def zc{iter:ZR}{body:List Zv}{wi:TI}{g:TG}{tb:TS}{pos:Pos}(hp:PassesOwn (ZL X.prog X.w) X.A X.env X.xe)(hc:X.calm=true)(hi:WI X tg iter wi)(hg:WG X tg g)(hb:WSs X body tb)(hs:∀x,foldedSetIterable iter X.env x=pure x:=by intro _;rfl):WS X (.For tg iter body [] pos) (MY wi g tb):=⟨KS hp hc hi.h hg.h hb.h hs⟩
end
def J4{op:Operator}{r:R2}(ho:OpR X (binaryOp op) r)(ha:WE X a ta)(hb:WE X b tb):WE X (.BinOp a op b pos) (tOp r ta tb):=⟨OS ho ha.h hb.h⟩
def wB{op:CmpOp}{r:R2}(ho:OpR X (compareOp op) r)(ha:WE X a ta)(hb:WE X b tb)(hm:behindInMarks op b=false):WE X (.Compare a [op] [b] pos) (tOp r ta tb):=⟨HG ho ha.h hb.h hm⟩
def qM{op:CmpOp}{r:R2}(ho:OpR X (compareOp op) r)(ha:WE X a ta)(hb:WE X b tb)(hm:behindInMarks op b=false):WT X (.Compare a [op] [b] pos) (Kf (tOp r ta tb)):=⟨Hr ho ha.h hb.h hm⟩
variable{f:Str}
def GR(he:WE X e ta)(hb:attributeBase e f X.env (eval e X.env)=eval e X.env):WE X (.Attribute e f pos) (PZ X.K ta f):=⟨Lc he.h hb⟩
variable{o value:ZR}{pos':Pos}{tv:TE}
def GD(ha:WE X o ta)(hv:WE X value tv)(hs:XT value (some (.Attribute o f pos')) pos.line X.env=pure false):WS X (.Assign [.Attribute o f pos'] value pos) (P6 X.K ta tv f):=⟨KU ha.h hv.h hs⟩
def zq :WA X [] MX:=⟨Li ⟩
variable{es:List ZR}
section
variable{t:TA}
def wC(ha:WE X e te)(hr:WA X es t)(hs:Z9 (e::es) X.env=(false,eval e X.env)::Z9 es X.env:=by rfl):WA X (e::es) (Ko te t):=⟨HJ ha.h hr.h hs⟩
def GJ{x1}(h:WA X es t):WE X (.Tuple es x1 pos) (PN t):=⟨K5 h.h⟩
def GP(h:WA X es t):WE X (.List es pos) (PX t):=⟨La h.h⟩
end
variable{CX:CXT}{C:Addr}{fd:XE}{ps:List Str}{sp:Sp}{E:XK}{m:Str}{apos:Pos}
section
variable{k:Nat}{f:Addr}{dvs:List V}{ds:List Q4}{t:TA}
def Cw {pl : Sem Bool} (he : WE X o ta) (c : Cls X.K C) (hm : Je X.K C m f) (F : lQ X.prog X.w X.K X.mg X.base CX k f fd ps sp) (hr : fb k X.A) (hb : iE X.K fd ps ds) (hd : cm dvs ds) (hx : jN CX X E) (ha : WA X (e :: es) t) (hst : Z9 (e :: es) X.env = (false, eval e X.env) :: Z9 es X.env := by rfl) (hpl : (Zi pos (Z9 es X.env)).any (·.1) = false := by rfl) (ht : eval (.Call (.Attribute o m apos) (e :: es) [] pos) X.env = (do
   let ov <-eval o X.env
   standAt apos.atName
   let (f,first) <-holding [ov] (getMethod ov m pl)
   callWith pos f first (Zi pos (Z9 (e::es) X.env)) (backToKw pos (keywordEach [] X.env))):=by rfl):WE X (.Call (.Attribute o m apos) (e::es) [] pos) (zN C m sp dvs E ta t):=⟨HD he.h c hm F hr hb hd hx ha.h hst hpl ht⟩
end
section
variable{k:Nat}{f:Addr}{dvs:List V}{ds:List Q4}
def zg {pl : Sem Bool} (he : WE X o ta) (c : Cls X.K C) (hm : Je X.K C m f) (F : lQ X.prog X.w X.K X.mg X.base CX k f fd ps sp) (hr : fb k X.A) (hb : iE X.K fd ps ds) (hd : cm dvs ds) (hx : jN CX X E) (ht : eval (.Call (.Attribute o m apos) [] [] pos) X.env = (do
   let ov <-eval o X.env
   standAt apos.atName
   let (f,first) <-holding [ov] (getMethod ov m pl)
   callWith pos f first (Zi pos (Z9 [] X.env)) (backToKw pos (keywordEach [] X.env))):=by rfl):WE X (.Call (.Attribute o m apos) [] [] pos) (zN C m sp dvs E ta MX):=⟨Dv he.h c hm F hr hb hd hx ht⟩
end
variable{x:Str}{p:Pos}
section
variable{k:Nat}{f:Addr}{dvs:List V}{ds:List Q4}{t:TA}
def Cy(M:Mk X.K C f)(F:lQ X.prog X.w X.K X.mg X.base CX k f fd ps sp)(hr:fb (k+1) X.A)(hg:Gl X x)(hm:X.mg x=some (.ref C))(hb:iE X.K fd ps ds)(hd:cm dvs ds)(hx:jN CX X E)(ha:WA X (e::es) t)(hdb:(x == ("__debug__":Str))=false:=by decide)(he:Z9 (e::es) X.env=(false,eval e X.env)::Z9 es X.env:=by rfl)(hpl:(Zi pos (Z9 es X.env)).any (·.1)=false:=by rfl):WE X (.Call (.Name x p) (e::es) [] pos) (G8 C sp dvs E t):=⟨HE M F hr hg hm hb hd hx ha.h hdb he hpl⟩
end
section
variable{t:TA}{id:String}{r:List V->Hp->VK->Prop}
def zm(hc:hV X (.builtin id) r)(hg:Gl X x)(hm:X.mg x=none)(hv:Zn x=some (.builtin id))(ha:WA X (e::es) t)(hn:x≠"__name__":=by decide)(hdb:(x == ("__debug__":Str))=false:=by decide)(he:Z9 (e::es) X.env=(false,eval e X.env)::Z9 es X.env:=by rfl)(hpl:(Zi pos (Z9 es X.env)).any (·.1)=false:=by rfl):WE X (.Call (.Name x p) (e::es) [] pos) (tCB r t):=⟨Dz hc hg hm hv ha.h hn hdb he hpl⟩
end
variable{T:String}
section
variable{t:TA}{r:List V->Hp->VK->Prop}
def yc(hc:hV X (.type T) r)(hg:Gl X x)(hm:X.mg x=none)(hv:Zn x=some (.type T))(ha:WA X (e::es) t)(hn:x≠"__name__":=by decide)(hdb:(x == ("__debug__":Str))=false:=by decide)(he:Z9 (e::es) X.env=(false,eval e X.env)::Z9 es X.env:=by rfl)(hpl:(Zi pos (Z9 es X.env)).any (·.1)=false:=by rfl):WE X (.Call (.Name x p) (e::es) [] pos) (tCB r t):=⟨Aj hc hg hm hv ha.h hn hdb he hpl⟩
end
def Ct :WO X none zM:=⟨Hz ⟩
def Cs(h:WE X e te):WO X (some e) (Kg te):=⟨Hy h.h⟩
section
variable{lo hi:Option ZR}{tl th:TO}{p2:Pos}
def zf{r:V->Option Int->Option Int->Hp->VK->Prop}(hr:SlR X r)(he:WE X e te)(hl:WO X lo tl)(hu:WO X hi th):WE X (.Subscript e (.Slice lo hi none p2) pos) (tSl r te tl th):=⟨Du hr he.h hl.h hu.h⟩
end
def J5{r:R2}(hr:IxR X r)(ha:WE X a ta)(hb:WE X b tb)(hs:v7 b):WE X (.Subscript a b pos) (tOp r ta tb):=⟨OT hr ha.h hb.h hs⟩
variable{to:TE}{name:Str}{cpos:Pos}
section
variable{id:String}{r:V->List V->Hp->VK->Prop}
def GU(pa:PlainAttrs T)(slot:Slot T name id)(hty:typeOf (.builtin id)=pure (.type "method_descriptor"))(hm:MtR X id r)(ho:WE X o to)(hbase:attributeBase o name X.env (eval o X.env)=eval o X.env:=by rfl)(hline:(apos.endLine == cpos.line)=true:=by rfl):WE X (.Call (.Attribute o name apos) [] [] cpos) (P4 X.K T r to):=⟨Le pa slot hty hm ho.h hbase hline⟩
end
section
variable{t:TA}{id:String}{r:V->List V->Hp->VK->Prop}
def zo (pa : PlainAttrs T) (slot : Slot T name id) (hty : typeOf (.builtin id) = pure (.type "method_descriptor")) (hm : MtR X id r) (ho : WE X o to) (ha : WA X (e :: es) t) (hbase : attributeBase o name X.env (eval o X.env) = eval o X.env := by rfl) (hfew : ((Zi cpos (Z9 (e :: es) X.env)).all (fun x => !x.1) && (backToKw cpos (keywordEach [] X.env)).all (fun x => x.1.isSome)
   && decide ((e::es).length+([]:List Keyword).length+(if ([]:List Keyword).isEmpty then 0 else 1)<30))=true:=by rfl) (hline:(apos.endLine == cpos.line)=true:=by rfl) (hs:Z9 (e::es) X.env=(false,eval e X.env)::Z9 es X.env:=by rfl) (hplain:(Zi cpos (Z9 es X.env)).any (·.1)=false:=by rfl):WE X (.Call (.Attribute o name apos) (e::es) [] cpos) (tBM X.K T r to t):=⟨OU pa slot hty hm ho.h ha.h hbase hfew hline hs hplain⟩
end
variable{i:ZR}{td ty:TE}
def CB(hu:X.A.units+1<cLine)(ho:WE X o td)(hi:WE X i ty)(hs:MK i):WE X (.Subscript o i pos) (Kn td ty):=⟨HF hu ho.h hi.h hs⟩
def zp(hu:X.A.units+1<cLine)(hi:WE X i ty)(ho:WE X o td):WC X .In i o (MZ ty td):=⟨Lg hu hi.h ho.h⟩
def yd(hu:X.A.units+1<cLine)(hi:WE X i ty)(ho:WE X o td):WC X .NotIn i o (vj ty td):=⟨Ak hu hi.h ho.h⟩
def Cr(hu:X.A.units+1<cLine)(ho:WE X o td)(hi:WE X i ty)(hv:WE X value tv)(hs:XT value (some (.Subscript o i pos')) pos.line X.env=pure false):WS X (.Assign [.Subscript o i pos'] value pos) (Kx td ty tv):=⟨Hv hu ho.h hi.h hv.h hs⟩
def zi :WE X (.Dict [] [] pos) Fb:=⟨Dx ⟩
section
variable{f:ZR}{tx:TE}
def zj(hu:X.A.units+1<cLine)(ho:WE X o td)(he:WE X e ty)(hf:WE X f tx)(m:M2 X o "get" apos e f cpos):WE X (.Call (.Attribute o "get" apos) [e,f] [] cpos) (Fc td ty tx):=⟨Dy hu ho.h he.h hf.h m⟩
end
def zh(ho:WE X o td)(he:WE X e ty)(m:M1 X o "pop" apos e cpos):WE X (.Call (.Attribute o "pop" apos) [e] [] cpos) (E9 td ty):=⟨Dw ho.h he.h m⟩
def wpv(i:Nat){x:Str}{pos:Pos}(hN:X.N[i]?=some x:=by rfl)(hv:Vis X.env.scope x:=by first|exact Or.inl rfl|exact Or.inr (Or.inl rfl)|exact Or.inr (Or.inr rfl))(hd:(x == ("__debug__":Str))=false:=by decide)(hcd:(x == ("__classdict__":Str))=false:=by decide):WE X (.Name x pos) (MW i):=⟨pv i hN hv hd hcd⟩
def WW.pt{X:Cx}{e:ZR}{t:TT}(h:WW X e t):WT X e t:=⟨h.h.pt⟩
def yL(i j:Int):Prop:=0<j/\j.natAbs.log2<9000
def wU:OpR X (binaryOp .FloorDiv) (rI yL fun i j=>.int (i / j)):=opI fun i j _ _ _ _ _ hc q=>by
 refine PyProof.Rows.floordiv_int (by have:=hc.1;omega) ?_ (.inl (PyProof.noPylong_of_log2 hc.2));rw[Int.fdiv_eq_ediv_of_nonneg i (Int.le_of_lt hc.1)];exact q
def iF{H:Hp}{p:Addr}(h:H p=none)(o:HO):Gd H (upd H p o):=fun b u q=>by rw[aM (dW q h)];exact q
def Def(K:Q3)(mg:Str->Option Q4)(x:Str)(st:Zv)(ps:List Str):Prop:=
 ∃f fd,Fun K x x st f fd/\iE K fd ps []/\mg x=some (.ref f)
def Has(P:ZI)(w:Zk)(K:Q3)(mg:Str->Option Q4)(base:Heap)(x:Str)(k:Nat)(ps:List Str)(sp:Sp):Prop:=
 ∃f fd,lQ P w K mg base CX0 k f fd ps sp/\iE K fd ps []/\YC K (.ref f)=true/\mg x=some (.ref f)
section
variable{P:ZI}{w:Zk}{K:Q3}{mg:Str->Option Q4}{base:Heap}{st:Zv}{N:List Str}{k j:Nat}
def Has.mono(h:Has P w K mg base x j ps sp)(l:j<=k):Has P w K mg base x k ps sp:=by
 obtain⟨f,fd,a,b,c,d⟩:=h;exact⟨f,fd,a.mono l,b,c,d⟩
def Def.has(d:Def K mg x st ps)(S:cP N ps (aA st))(len:∀vs H Q E,sp vs H Q E->vs.length=ps.length)
  (hbody:∀(f:Addr) (cdv:Q4) (A:Zy) (outer:List Env) (s:Q5) (H:Hp) (vs:List V) (Q:VK) (E:XK),fb k (A.deeper (envOfC x (aA st) s.heap.objs.size f cdv))->sp vs H Q E->
   ∃t,WSs (oK CX0 P w K mg base N x (aA st) f cdv A outer s H E).nox (bN st) t/\t { nx:=fun _ H'=>Q .non H',rt:=Q } (j9 N vs) H):Has P w K mg base x (k+1) ps sp:=by
 obtain⟨f,fd,F,b,m⟩:=d;exact⟨f,fd,F.ok S len (fun cdv A outer s H vs Q E hr h=>let ⟨t,a,b⟩:=hbody f cdv A outer s H vs Q E hr h;⟨t,a.h,b⟩),b,F.kp,m⟩
def Def.none(d:Def K mg x st ps)(no:∀vs H Q E,¬sp vs H Q E):Has P w K mg base x k ps sp:=by
 obtain⟨f,fd,F,b,m⟩:=d;exact⟨f,fd,⟨fun vs H Q E h=>absurd h (no vs H Q E),fun A outer s H args us vs Q E _ _ _ _ h=>absurd h (no vs H Q E)⟩,b,F.kp,m⟩
end
def J6{X:Cx}{k:Nat}{ps:List Str}{sp:Sp}{x:Str}{p pos:Pos}{e:ZR}{es:List ZR}{t:TA}(F:Has X.prog X.w X.K X.mg X.base x k ps sp)(hr:fb k X.A)(hg:Gl X x)
  (ha:WA X (e::es) t) (hdb:(x == ("__debug__":Str))=false:=by decide) (he:Z9 (e::es) X.env=(false,eval e X.env)::Z9 es X.env:=by rfl) (hpl:(Zi pos (Z9 es X.env)).any (·.1)=false:=by rfl) :
  WE X (.Call (.Name x p) (e::es) [] pos) (Kq sp [] E0 t):=by
 obtain⟨f,fd,a,b,c,d⟩:=F;exact⟨HH a hr hg d c b .nil DB ha.h hdb he hpl⟩
structure Blt(mg:Str->Option Q4):Prop where
 len:mg "len"=none
 isinstance:mg "isinstance"=none
 int:mg "int"=none
 bool:mg "bool"=none
 str:mg "str"=none
 tuple:mg "tuple"=none
 list:mg "list"=none
 range:mg "range"=none
 min:mg "min"=none
 sum:mg "sum"=none
 all:mg "all"=none
 zip:mg "zip"=none
 sorted:mg "sorted"=none
 dict:mg "dict"=none
 enumerate:mg "enumerate"=none
 any:mg "any"=none
 max:mg "max"=none
 set:mg "set"=none
def tw{n:Nat}(h:n<=1000):n<=ZU:=YU (zR h)
def yr{n:Nat}(h:n<2^60):n.log2<1920:=by
 by_cases e:n=0;subst e;decide;have:=(Nat.log2_lt e).mpr h;omega
def EE:Zn "int"=some (.type "int"):=rfl
def lL:Zn "tuple"=some (.type "tuple"):=rfl
def oQ:Zn "list"=some (.type "list"):=rfl
def EC:Zn "min"=some (.builtin "min"):=rfl
def ED:Zn "max"=some (.builtin "max"):=rfl
def EF:Zn "all"=some (.builtin "all"):=rfl
def xK:Zn "any"=some (.builtin "any"):=rfl
def j5:Zn "sorted"=some (.builtin "sorted"):=rfl
def BQ{α:Type}{xs:List α}{k:Int}{v:α}(h0:0<=k)(h:xs[k.toNat]?=some v):atI xs k=some v:=by
 have ek:k=((k.toNat:Nat):Int):=by omega
 rw[ek];exact iW h
def Fun.okW{P:ZI}{w:Zk}{K:Q3}{mg:Str->Option Q4}{base:Heap}{x qual:Str}{st:Zv}{f:Addr}{fd:XE}{N ps:List Str}{k:Nat}{sp:Sp}(F:Fun K x qual st f fd)(S:cP N ps (aA st))(len:∀vs H Q E,sp vs H Q E->vs.length=ps.length)
  (hbody:∀(cdv:Q4) (A:Zy) (outer:List Env) (s:Q5) (H:Hp) (vs:List V) (Q:VK) (E:XK),fb k (A.deeper (envOfC qual (aA st) s.heap.objs.size f cdv))->sp vs H Q E->
   ∃t,WSs (oK CX0 P w K mg base N qual (aA st) f cdv A outer s H E).nox (bN st) t/\t { nx:=fun _ H'=>Q .non H',rt:=Q } (j9 N vs) H):lQ P w K mg base CX0 (k+1) f fd ps sp:=
 F.ok S len fun cdv A outer s H vs Q E hr h=>let ⟨t,a,b⟩:=hbody cdv A outer s H vs Q E hr h;⟨t,a.h,b⟩
def xV(env:Env):List (Str×Addr)->Prop
 |[]=>True
 |p::r=>env.cells.lookup p.1=some p.2/\xV env r
def xV.look{env:Env}:∀{cl:List (Str×Addr)} {y:Str} {c:Addr},xV env cl->cl.lookup y=some c->env.cells.lookup y=some c
 |[],_,_,_,h=>by simp at h
 |(n,d)::r,y,c,a,h=>by
  obtain⟨a1,a2⟩:=a;rw[XA]at h;by_cases e:(y == n)=true
  ·rw[e]at h;have e':y=n:=by simpa using e
   subst e';cases h;exact a1
  ·have e':(y == n)=false:=by simpa using e
   rw[e']at h;exact xV.look a2 h
abbrev cxC(X:Cx)(Nc:List Str)(scope:Xz)(cl:List (Str×Addr))(s3:Q5)(H3:Hp)(fp:List Addr):Cx where
 prog:=X.prog
 w:=X.w
 K:=X.K
 mg:=X.mg
 base:=X.base
 A:=X.A
 N:=Nc
 s₀:=s3
 H₀:=H3
 env:=compEnvC scope cl s3.heap.objs.size X.env
 outer:=X.stack
 stack:=X.stack
 ex:=fp
 fn:=fun _=>false
 calm:=X.calm
 pn:=[]
 xe:=fun _ _=>False
def stC(n:Nat)(caps:List Nat)(σ:L2.St):L2.St:=ZQ n none++caps.map fun i=>(σ[i]?).getD none
def CQ(wi:TI)(g:TG)(te:TE)(n:Nat)(caps:List Nat):TE:=fun σ H Q=>wi σ H fun J H1=>∀l,H1 l=none->∃W:Nat->Nat->L2.St->Hp->Prop,(∃m,W 0 m (stC n caps σ) (upd H1 l (.lst [])))/\
 ∀i m σ' H2,W i m σ' H2->(J.stop i H2/\Q (.ref l) H2)\/(J.go i H2/\∃N:L2.St->Hp->Prop,(∀σ'' H',N σ'' H'->∃m',m'<m/\W (i+1) m' σ'' H')/\
  ∀x H3,J.yld i H2 x H3->g x σ' H3 fun σ2 H4=>te σ2 H4 fun v H5=>∃ys,H5 l=some (.lst ys)/\ys.length<ZU/\N σ2 (upd H5 l (.lst (ys++[v]))))
def uK{prog:ZI}{w:Zk}{A:Zy}{R:Result->Q5->Prop}{s:Q5}{elt target iter:ZR}{scope:Xz}{pos:Pos}{it acc:Q4}{env:Env}(I:Nat->Q5->Prop)
  (turn:∀n s,I n s->wpAny (ZL prog w) A (pyNext it) (fun r s₁=>match r with
   |none=>R (.ok .next) s₁
   | some v=>wpAny (ZL prog w) A (letOwnedTupleGo target it v) (fun _ s₁'=>wpAny (ZL prog w) A (assign target env v) (fun _ s₂=>wpAny (ZL prog w) A (eval elt env) (fun x s₃=>
     wpAny (ZL prog w) A (call (.builtin "list.append") [acc,x]) (fun _ s₄=>∃m,m<n/\I m s₄) (fun _ _=>False) s₃)
     (fun _ _=>False) s₂) (fun _ _=>False) s₁') (fun _ _=>False) s₁) (fun _ _=>False) s)
  (n:Nat) (h:I n s) :
  codeAny (ZL prog w) A (.compLoop (.ListComp elt [⟨target,iter,[],0⟩] scope pos) 0 it acc env) R s:=by
 refine codeAny_loop rfl I (fun n s hI=>?_) n h;show wpAny _ _ ((compTurn (.ListComp elt [⟨target,iter,[],0⟩] scope pos) 0 it acc env).onRaise (fun x=>do noteFrame x env;theTreesLotGoes x)) _ _ s;refine wpAny_noted ?_;rw[compTurn_list1];refine Q8 (wpAny_standAt (Q8 (XX (turn n s hI) (fun r s₁ h₁=>?_) fun _ _ h'=>h'.elim)));cases r with
 |none=>exact ZC h₁
 |some v=>
  refine Q8 (XX h₁ (fun _ s₁' h₁'=>?_) fun _ _ h'=>h'.elim);exact Q8 (XX h₁' (fun _ s₂ h₂=>Q8 (Q8 (XX h₂ (fun x s₃ h₃=>Q8 (XX h₃
   (fun _ s₄ h₄=>ZC (ZC ⟨rfl,h₄⟩)) fun _ _ h'=>h'.elim)) fun _ _ h'=>h'.elim))) fun _ _ h'=>h'.elim)
section
variable{pins:List (Addr×Obj)}{σ:L2.St}{H:Hp}{s:Q5}{Nc capN:List Str}{scope:Xz}{cl:List (Str×Addr)}{fp:List Addr}{n:Nat}{caps:List Nat}
def Cap(X:Cx)(scope:Xz)(cl:List (Str×Addr))(i:Nat)(y:Str):Prop:=X.N[i]?=some y/\X.env.scope.names.lookup y=some .cell/\(relabel scope X.env).names.lookup y=some .cell/\∃c,cl.lookup y=some c
def Inv.comp{h1:Heap}{t':Nat}(I:Inv X pins σ H s)(hc:X.calm=true)(f2:∀b∈fp,yS X pins H b)(fo:∀b∈fp,b<s.heap.objs.size)(hkind:scope.kind=.function)(hcl:xV X.env cl)
  (hhas:((relabel scope X.env).names.all fun p=>!(p.2 == .cell||p.2 == .free)||(cl.lookup p.1).isSome)=true)
  (hcap:Paired (Cap X scope cl) caps capN) (tn:List Str) (hN:Nc=tn++capN) (hn:tn.length=n)
  (hns:h1.Ns s.heap.objs.size (fun _=>none)) (hk:∀b o,s.heap.get? b=some o->h1.get? b=some o) :
  Inv (cxC X Nc scope cl s H fp) [] (stC n caps σ) H { s with heap:=h1,toks:=t' }:=by
 have lkc:∀y c,cl.lookup y=some c->X.env.cells.lookup y=some c:=fun y c e=>hcl.look e;refine⟨⟨I.ok.mod,?_,I.ok.glob,I.ok.blt,Z6 _,fun x y c a b=>I.ok.inj x y c (lkc _ _ a) (lkc _ _ b),fun x hx=>?_,fun x c z=>(nomatch z),I.ok.hd,I.ok.frames,.inl rfl,fun b hb=>⟨Zq (fo b hb),fun x c e=>(f2 b hb).2.2.2.2.1 x c (lkc _ _ e)⟩,I.bs,Zw I.ok.bsz I.sz,
  fun b o e hb=>?_,fun b hb z=>?_,I.stack,I.stkFree⟩,rfl,I.bare,Un.kept hk,⟨_,hns,fun i y v h1' h2 h3=>?_⟩,fun y c e=>?_,I.hok.fresh (Z6 _),fun y c e=>I.freeC y c (lkc _ _ e),fun p hp=>(by simp at hp),I.hok.kept hk,?_⟩
 exact hkind
 ·have hx':(relabel scope X.env).names.lookup x=some .cell\/(relabel scope X.env).names.lookup x=some .free:=hx;have mem:∀{k},(relabel scope X.env).names.lookup x=some k->(x,k)∈(relabel scope X.env).names:=fun{k} e=>by
   generalize (relabel scope X.env).names=L at e;induction L with
   |nil=>simp at e
   |cons p r ih=>
    obtain⟨a,b⟩:=p;rw[XA]at e;by_cases q:(x == a)=true;rw[q]at e;cases e;have:x=a:=by simpa using q
    subst this;exact ZG;rw[show(x == a)=false by simpa using q]at e;exact ZJ _ (ih e)
  have fin:∀{k},(k=NameKind.cell\/k=.free)->(relabel scope X.env).names.lookup x=some k->∃c,cl.lookup x=some c:=fun{k} hk' e=>by
   have:=XC.mp hhas _ (mem e);dsimp only at this;have q:(cl.lookup x).isSome=true:=by
    rcases hk' with z|z<;>subst z<;>simpa using this
   exact Zl.mp q
  rcases hx' with e|e;exact fin (.inl rfl) e;exact fin (.inr rfl) e
 rcases(f2 b hb).2.2.2.1 with z|z;exact I.ok.noex b o e z;exact absurd (ZE (ZX e) I.ok.bsz) (Nat.not_lt.mpr z);rcases ZD.mp (I.stkSub b z)with q|q;exact(f2 b hb).2.1 q;exact(f2 b hb).2.2.1 q;obtain⟨m,hm,hl⟩:=I.loc;have h2':(stC n caps σ)[i]?=some (some v):=h2;have h1'':Nc[i]?=some y:=h1';unfold stC at h2';by_cases hi:i<n;rw[Zh (by simpa using hi),XG,Xd hi]at h2';cases h2';rw[Zu (by simp;omega),YX,ZP]at h2';rw[hN,Zu ⋯,hn]at h1'';have key:∀(j:Nat) {caps:List Nat} {capN:List Str},Paired (Cap X scope cl) caps capN->capN[j]?=some y->(Option.map (fun i=>(σ[i]?).getD none) caps[j]?)=some (some v)->∃k,Cap X scope cl k y/\σ[k]?=some (some v):=by
  intro j;induction j with
  |zero=>
   intro caps capN P e1 e2;cases P with
   |nil=>simp at e1
   |@cons a b l r p t=>
    simp at e1 e2;subst e1;cases q:σ[a]? with
    |none=>rw[q]at e2;simp at e2
    |some w'=>rw[q]at e2;simp at e2;subst e2;exact⟨a,p,q⟩
  |succ j ih=>
   intro caps capN P e1 e2;cases P with
   |nil=>simp at e1
   |cons p t=>exact ih t (by simpa using e1) (by simpa using e2)
 obtain⟨k,⟨c1,c2,c3,c,c4⟩,e⟩:=key _ hcap h1'' h2';obtain⟨u,r,lk⟩:=hl k y v c1 e (.inr (.inl c2));refine⟨u,r,.inr ⟨.inl c3,c,c4,?_⟩⟩;rcases lk with⟨z,_⟩|⟨_,c',e',o,ho,hd⟩;have z':X.env.scope.names.lookup y=some .local:=z;rw[c2]at z';cases z';rw[lkc _ _ c4]at e';cases e';exact⟨o,hk _ _ ho,hd⟩;obtain⟨v,o,ho,hd⟩:=I.cell y c (lkc _ _ e);exact⟨v,o,hk _ _ ho,hd⟩;show(stC n caps σ).length=Nc.length;have pl:caps.length=capN.length:=Paired.length hcap;unfold stC;rw[ZY,YX,Q7,hN,ZY,hn,pl]
end
def xF{X:Cx}{Nc capN tn:List Str}{scope:Xz}{cl:List (Str×Addr)}{n:Nat}{caps:List Nat}{tg iter elt:ZR}{pos:Pos}{wi:TI}{g:TG}{te:TE}
  (hc:X.calm=true) (hi:WI X tg iter wi) (hg:∀s3 H3 fp,WG (cxC X Nc scope cl s3 H3 fp) tg g) (he:∀s3 H3 fp,WE (cxC X Nc scope cl s3 H3 fp) elt te)
  (hclos:closureFor scope X.env=pure cl) (hkind:scope.kind=.function) (hnl:∀x∈scope.names,x.2=.local->scope.names.lookup x.1=some .local) (hcell:∀x∈scope.names,x.2≠.cell)
  (hcl:xV X.env cl) (hhas:((relabel scope X.env).names.all fun p=>!(p.2 == .cell||p.2 == .free)||(cl.lookup p.1).isSome)=true)
  (hcap:Paired (Cap X scope cl) caps capN) (hN:Nc=tn++capN) (hn:tn.length=n)
  {use:Option (Q4->Sem Unit)} {pins:List (Addr×Obj)} {σ:L2.St} {H:Hp} {s:Q5} {Q:VK} {Qf:Q4->Q5->Prop} (I:Inv X pins σ H s) (h:CQ wi g te n caps σ H Q)
  (hend:∀(D C:Addr) (s6:Q5) (H5:Hp) (m:Str->Option Q4),Inv X pins σ H5 s6->s6.heap.Ns C m->H5 C=none->C≠X.env.locals->X.s₀.heap.objs.size<=C->(∀x c,X.env.cells.lookup x=some c->c≠C)->(∀p∈X.pn++pins,p.1≠C)->Q (.ref D) H5->compPost (ZL X.prog X.w) X.A X.xe use Qf (.ref D) C (.ok .next) s6)
  (hs:∀x,foldedSetIterable iter X.env x=pure x) :
  wpAny (ZL X.prog X.w) X.A (comprehension (.ListComp elt [⟨tg,iter,[],0⟩] scope pos) scope X.env (firstIterPos [⟨tg,iter,[],0⟩] pos) (newList []) (firstAsync [⟨tg,iter,[],0⟩]) (firstIter [⟨tg,iter,[],0⟩] X.env) use) Qf X.xe s:=by
 refine wpAny_comprehension_free (use:=use) (g:=⟨tg,iter,[],0⟩) (gs:=[]) rfl hs hclos hkind hnl (thn (hi.h pins s σ H _ I h) fun v s1 h1=>thn h1 fun itv s2 h2=>?_);obtain⟨it,fp,tnn,J,H2,rfl,I2,T,st2,f2,hW⟩:=h2;have hD:=I2.fresh;obtain⟨W,⟨m0,w0⟩,turn⟩:=hW _ hD;refine wpAny_newObj_type (wpAny_newFunctionEnv hcell (by intro y hy;simp at hy) (fun h₁ hns₁ hsb₁=>?_) hkind);dsimp only at hns₁ hsb₁ ⊢;have I3:Inv X pins σ (upd H2 s2.heap.objs.size (.lst [])) { s2 with heap:=s2.heap.push { cls:=.type "list",dict:=none,data:=.seq ([]:List Q4).toArray },toks:=s2.toks }:=I2.lnew (its:=[]) .nil (Zp _);generalize hs3:({ s2 with heap:=s2.heap.push { cls:=.type "list",dict:=none,data:=.seq ([]:List Q4).toArray },toks:=s2.toks }:Q5)=s3 at I3;have es3:s3.heap=s2.heap.push { cls:=.type "list",dict:=none,data:=.seq ([]:List Q4).toArray }:=by rw[<-hs3]
 generalize hDD:s2.heap.objs.size=D at *;have kept:∀b o,s3.heap.get? b=some o->h₁.get? b=some o:=fun b o e=>by
  have lt:=ZX e;rw[es3]at lt e;exact hsb₁.extBut b o (Zq lt) (Q9 _ e)
 have old:∀b o,s2.heap.get? b=some o->s3.heap.get? b=some o:=fun b o e=>by rw[es3];exact Q9 _ e
 have ltD:∀b∈fp,b<D:=fun b hb=>by
  obtain⟨o,e,_⟩:=T.obj 0 _ st2 b hb;rw[<-hDD];exact ZX e
 have fo:∀b∈fp,b<s3.heap.objs.size:=fun b hb=>by
  obtain⟨o,e,_⟩:=T.obj 0 _ st2 b hb;exact ZX (old _ _ e)
 have f3:∀b∈fp,yS X pins (upd H2 D (.lst [])) b:=fun b hb=>by
  refine⟨?_,(f2 b hb).2⟩;rw[aM (Zq (ltD b hb))];exact(f2 b hb).1
 rw[<-es3]at hns₁ hsb₁ ⊢;have Ic:=fun t'=>Inv.comp (h1:=h₁) (t':=t') (Nc:=Nc) (n:=n) I3 hc f3 fo hkind hcl hhas hcap tn hN hn hns₁ kept;have stat:∀{H':Hp},(∀b∈fp,H' b=none)->∀b∈fp,yS (cxC X Nc scope cl s3 (upd H2 D (.lst [])) fp) [] H' b:=fun hn' b hb=>by
  refine⟨hn' b hb,Zq (fo b hb),fun z=>?_,.inl hb,fun x c e=>(f2 b hb).2.2.2.2.1 x c (hcl.look e),fun p hp=>by simp at hp⟩;rcases ZD.mp (I3.stkSub b z)with q|q;exact(f2 b hb).2.1 q;exact(f2 b hb).2.2.1 q
 have loop:∀s4:Q5,(∃t',s4={ s3 with heap:=h₁,toks:=t' })->codeAny (ZL X.prog X.w) X.A (.compLoop (.ListComp elt [⟨tg,iter,[],0⟩] scope pos) 0 (.ref it) (.ref D) (compEnvC scope cl s3.heap.objs.size X.env))
   (compPost (ZL X.prog X.w) X.A X.xe use Qf (.ref D) s3.heap.objs.size) s4:=by
  rintro s4 ⟨t',rfl⟩;refine uK (fun n' s'=>∃i σ' H',Inv (cxC X Nc scope cl s3 (upd H2 D (.lst [])) fp) [] σ' H' s'/\tnn i s'.heap/\(∀b∈fp,H' b=none)/\W i n' σ' H') ?_ m0
   ⟨0,_,_,Ic t',T.keep 0 _ _ st2 fun b hb o e=>kept _ _ (old _ _ e),fun b hb=>(f3 b hb).1,w0⟩
  rintro n' s5 ⟨i,σ5,H5,I5,st5,fr5,w5⟩;rcases turn i n' σ5 H5 w5 with⟨stop,qn⟩|⟨go,N,hN',step⟩;refine thn (T.done (cxC X Nc scope cl s3 (upd H2 D (.lst [])) fp) rfl rfl rfl hc i [] s5 σ5 H5 (fun _ _=>False) I5 (stat fr5) st5 stop) fun r s6 ⟨hr,I6⟩=>?_;subst hr;obtain⟨m,hm,_⟩:=I6.loc;have I7:Inv X pins σ H5 s6:=Inv.call' (ch:=fp) I3 I6.os I6.base I6.hok I6.bare fun b hb=>⟨(f2 b hb).2.2.2.1,(f2 b hb).2.1,(f2 b hb).2.2.2.2.1,(f2 b hb).2.2.2.2.2⟩;exact hend D _ s6 H5 m I7 hm I6.free (Ne.symm (Zq I3.lt)) I3.sz (fun x c e=>by
    obtain⟨v',o,ho,_⟩:=I3.cell x c e;exact Zq (ZX ho)) (fun p hp=>Zq (ZX (I3.pin p hp).1)) qn
  refine thn (T.item (cxC X Nc scope cl s3 (upd H2 D (.lst [])) fp) rfl rfl rfl hc i [] s5 σ5 H5 (fun _ _=>False) I5 (stat fr5) st5 go) fun r s6 ⟨u,hr,h6⟩=>?_;subst hr;refine thn h6 fun _ s7 hz=>?_;obtain⟨x,H7,I7,r7,y7,st7,fr7⟩:=hz;have I7':=I7.pinned (stat fr7) (T.obj _ _ st7);refine thn ((hg s3 (upd H2 D (.lst [])) fp).h _ s7 σ5 H7 x u _ I7' r7 (step x H7 y7)) fun _ s8 hz=>?_;obtain⟨σ8,H8,I8,q8⟩:=hz;refine thn ((he s3 (upd H2 D (.lst [])) fp).h _ s8 σ8 H8 _ I8 q8) fun v9 s9 hz=>?_;obtain⟨x9,H9,I9,r9,ys,hy,hlt,q9⟩:=hz;refine thn (oj (X:=cxC X Nc scope cl s3 (upd H2 D (.lst [])) fp) _ s9 σ8 H9 (.ref D) [x9] (.ref D) [v9] (fun _ H'=>N σ8 H') I9 rfl (.cons r9 .nil) ⟨D,ys,x9,rfl,rfl,hy,hlt,q9⟩) fun _ s10 hz=>?_;obtain⟨_,H10,I10,_,q10⟩:=hz;obtain⟨m',hm,w10⟩:=hN' σ8 H10 q10;refine⟨m',hm,i+1,σ8,H10,I10.unpinned,T.keep _ _ _ st7 fun b hb o e=>(I10.pin (b,o) (ZH _ (ZH _ (f9 hb e)))).1,fun b hb=>?_,w10⟩;obtain⟨o,e,d⟩:=T.obj _ _ st7 b hb;exact(I10.pin (b,o) (ZH _ (ZH _ (f9 hb e)))).2.1
 have e4:∀t',({ s2 with heap:=h₁,toks:=t' }:Q5)={ s3 with heap:=h₁,toks:=t' }:=fun t'=>by rw[<-hs3]
 refine codeAny_compStart_list (loop _ ⟨_,e4 _⟩) (T.self _ 0 _ _ _ (T.keep 0 _ _ st2 fun b hb o e=>kept _ _ (old _ _ e)) (loop _ ⟨_,e4 _⟩))
def wA{X:Cx}{Nc capN tn:List Str}{scope:Xz}{cl:List (Str×Addr)}{n:Nat}{caps:List Nat}{tg iter elt:ZR}{pos:Pos}{wi:TI}{g:TG}{te:TE}
  (hc:X.calm=true) (hi:WI X tg iter wi) (hg:∀s3 H3 fp,WG (cxC X Nc scope cl s3 H3 fp) tg g) (he:∀s3 H3 fp,WE (cxC X Nc scope cl s3 H3 fp) elt te)
  (hclos:closureFor scope X.env=pure cl) (hkind:scope.kind=.function) (hnl:∀x∈scope.names,x.2=.local->scope.names.lookup x.1=some .local) (hcell:∀x∈scope.names,x.2≠.cell)
  (hcl:xV X.env cl) (hhas:((relabel scope X.env).names.all fun p=>!(p.2 == .cell||p.2 == .free)||(cl.lookup p.1).isSome)=true)
  (hcap:Paired (Cap X scope cl) caps capN) (hN:Nc=tn++capN) (hn:tn.length=n)
  (hs:∀x,foldedSetIterable iter X.env x=pure x:=by intro _;rfl) :
  WE X (.ListComp elt [⟨tg,iter,[],0⟩] scope pos) (CQ wi g te n caps):=by
 constructor;intro pins s σ H Q I h;rw[eval_ListComp];refine xF hc hi hg he hclos hkind hnl hcell hcl hhas hcap hN hn I h (fun D C s6 H5 m I7 hm fr nl sz cn pn qn=>⟨m,hm,fun h' hs'=>?_⟩) hs;exact⟨.ref D,H5,I7.turned (t':=s6.toks) (it:=C) (fun b o hb e=>hs'.extBut b o hb e) fr nl (.inr sz) cn pn,rfl,qn⟩
def ve:∀{bs:List Bool} {us:List Q4} {i:Nat} {v:Q4},cm (bs.map V.bl) us->us[i]?=some v->∃b,bs[i]?=some b/\v=.bool b
 |[],_,_,_,r,e=>by cases r;simp at e
 |b::bs,_,0,_,.cons r _,e=>by
  have r':_=Value.bool b:=r;simp at e;subst e;exact⟨b,nofun,r'⟩
 |b::bs,_,i+1,v,.cons _ t,e=>by
  obtain⟨b',e1,e2⟩:=ve (i:=i) (v:=v) t (by simpa using e);exact⟨b',by simpa using e1,e2⟩
def EL(bs:List Bool):(ZF bs.length).all (fun i=>(bs[i]?).getD true)=bs.all id:=by
 rw[XI,XC,XC];constructor;intro h b hb;obtain⟨i,hi,e⟩:=Yh.mp hb;have:=h i (Zs.mpr hi);rw[Z7 hi,XQ,e]at this;exact this;intro h i hi;have hi':=Zs.mp hi;have:=h _ (YY hi');rw[Z7 hi',XQ];exact this
def Ax{h:Heap}{b:Addr}{o:Obj}(e:h.get? b=some o):¬b∈[h.objs.size]:=fun z=>by
 have z':b=h.objs.size:=by simpa using z
 exact absurd (ZX e) (by rw[z'];exact XM _)
def EA(hc:X.calm=true):hV X (.builtin "all") (fun xs H Q=>∃(p:Addr) (bs:List Bool),xs=[.ref p]/\SqL X.K H p (bs.map V.bl)/\Q (.bl (bs.all id)) H):=by
 intro pins s σ H xs us Q I r h;obtain⟨p,bs,rfl,hq,q⟩:=h;obtain⟨u,rfl,rx⟩:=m8 r;cases rx;obtain⟨its,rv,pl,hz⟩:=I.list hq;have hlen:=rv.length;rw[Q7]at hlen;refine call_all_walk (wpAny_pyIter_list pl.isList ?_);have lt:p<s.heap.objs.size:=by obtain⟨o,e,_⟩:=pl.isList;exact ZX e
 refine⟨s.heap.objs.size,_,_,_,_,_,fun i=>(bs[i]?).getD true,rfl,Walks.list (show X.A.in1.handled=none from I.ok.hd hc) s.heap.objs.size p (Zq lt) its.toArray,⟨⟨_,ZT _ rfl,rfl,rfl⟩,pl.isList.at fun o e=>Q9 _ e⟩,?_,fun h' tk hk=>?_⟩;intro i v s' Q' E' hP hQ;have hP':its.toArray[i]?=some v:=hP;obtain⟨b,e1,e2⟩:=ve rv (by simpa using hP');subst e2;dsimp only at hQ;rw[e1,XQ]at hQ;exact wpAny_truthy_bool hQ;have e:(ZF its.toArray.size).all (fun i=>(bs[i]?).getD true)=bs.all id:=by
  rw[ZV,<-hlen];exact EL bs
 rw[e];exact⟨.bl (bs.all id),H,I.kept fun b o e=>hk b o (Ax e) (Q9 _ e),rfl,q⟩
open PySem.AutoSeq1 (wpAny_loadPart')
def Ez{prog:ZI}{w:Zk}{A:Zy}{E:Q4->Q5->Prop}{s:Q5}{t b:Addr}{vs ws:List Q4}{Q:Q4->Q5->Prop}(ht:IsTup s.heap t vs.toArray)(hb:IsTup s.heap b ws.toArray)(hv:vs=[])
  (h1:Q (.ref b) s):wpAny (ZL prog w) A (binaryOp .Add (.ref t) (.ref b)) Q E s:=by
 obtain⟨⟨cls,dd,data,sl⟩,ho,hc,n,hd⟩:=id ht;obtain⟨⟨cls2,dd2,data2,sl2⟩,ho2,hc2,n2,hd2⟩:=id hb;simp only at hc hd hc2 hd2;subst hc hd hc2 hd2;exact concat_meets ⟨_,ho,rfl⟩ ⟨_,ho2,rfl⟩ noFill_tuple_add seq_tuple_add PySem.F.slot_tuple_add YM (YL _ _)
   (tuple_addW0 t b vs.toArray ws.toArray n n2 dd dd2 sl sl2 (by simp[hv])) ⟨ho,ho2,h1⟩
def mK:fillsNumberSlot (.type "tuple") "mul"=pure false:=
 PySem.fillsNumberSlot_seq (id:="tuple.__mul__") (r:=some (.builtin "tuple.__rmul__")) F.slot_tuple_mul.lookup ∅ F.slot_tuple_rmul.lookup ∅
def tJ:seqRepeat? (.type "tuple")=pure (some (.builtin "tuple.__mul__")):=by
 unfold seqRepeat?;rw[PySem.seqSlot_of (T:="tuple") (name:="__mul__") (id:="tuple.__mul__") F.slot_tuple_mul.lookup ∅,PySem.seqSlot_of (T:="tuple") (name:="__rmul__") (id:="tuple.__rmul__") F.slot_tuple_rmul.lookup ∅];rfl
def o7(a:Int)(t:Tok)(l:Addr)(items:Array Q4)(n:Nat)(dd:Option Addr)(sl:Array (Option Q4)) :
  Meets (Builtin.«int.__rmul__» ⟨[.int a t,.ref l],[]⟩) (fun _ R s=>s.heap.get? l=some { cls:=.type "tuple",dict:=dd,data:=.seq items n,slots:=sl }/\R (.ok (.ret Value.notImplemented)) s):=
 .of_wp fun prog w A R s h=>by obtain⟨hp,g,d,tk,os⟩:=s;obtain⟨hl,h⟩:=h;wp_walk using wpAny_loadPart' hl;exact⟨_,rfl,h⟩
def vh(l:Addr)(items:Array Q4)(n:Nat)(dd:Option Addr)(sl:Array (Option Q4))(t:Tok) :
  Meets (Builtin.«tuple.__mul__» ⟨[.ref l,.int 1 t],[]⟩) (fun _ R s=>s.heap.get? l=some { cls:=.type "tuple",dict:=dd,data:=.seq items n,slots:=sl }/\R (.ok (.ret (Value.ref l))) s):=
 .of_wp fun prog w A R s h=>by obtain⟨hp,g,d,tk,os⟩:=s;obtain⟨hl,h⟩:=h;have f1:=AutoSeq1.idx_int;wp_walk using wpAny_loadPart' hl;exact⟨_,rfl,h⟩
def vg(l:Addr)(items:Array Q4)(n:Nat)(dd:Option Addr)(sl:Array (Option Q4))(k:Int)(t:Tok)(hc0:¬(decide (k < -2^63)||decide (k≥2^63))=true)(hc1:¬(items.isEmpty||k == 1)=true)(hc2:¬(decide (k<=0)||items.isEmpty)=true)
  (hc3:¬((items.size:Int)*k>(2^63-1) / 8)) (hc4:¬Builtin.Tuple.tupleTooMany ((items.size:Int)*k)=true) (hz:(List.foldl (fun x1 x2=>x1++x2) #[] (ZQ k.toNat items)).size<=ZU) :
  Meets (Builtin.«tuple.__mul__» ⟨[.ref l,.int k t],[]⟩) (fun _ R s=>s.heap.get? l=some { cls:=.type "tuple",dict:=dd,data:=.seq items n,slots:=sl }/\
   R (.ok (.ret (Value.ref s.heap.objs.size))) { s with heap:=s.heap.push { cls:=Value.type "tuple",data:=Data.seq (List.foldl (fun x1 x2=>x1++x2) #[] (ZQ k.toNat items)) } }):=
 .of_wp fun prog w A R s h=>by
  obtain⟨hp,g,d,tk,os⟩:=s;obtain⟨hl,h⟩:=h;have f1:=AutoSeq1.idx_int;have g0:(decide (k < -2^63)||decide (k≥2^63))=false:=by simpa using hc0
  have g1:(items.isEmpty||k == 1)=false:=by simpa using hc1
  have g2:(decide (k<=0)||items.isEmpty)=false:=by simpa using hc2
  have g4:Builtin.Tuple.tupleTooMany ((items.size:Int)*k)=false:=by simpa using hc4
  wp_walk using wpAny_loadPart' hl
  refine PySem.W.KFB.if_not g0 ?_
  wp_walk using wpAny_loadPart' hl
  try (refine PySem.W.KFB.if_not g1 ?_;wp_walk using wpAny_loadPart' hl)
  try (refine PySem.W.KFB.if_not g2 ?_;wp_walk using wpAny_loadPart' hl)
  try (rw[Xf hc3];wp_walk using wpAny_loadPart' hl)
  try (refine PySem.W.KFB.if_not g4 ?_;wp_walk using wpAny_loadPart' hl)
  try (refine wpAny_ite_false (Xa (Nat.not_lt.mpr hz)) ?_;wp_walk)
  exact⟨_,rfl,h⟩
def AF{m:Int}(h0:0<=m)(h:m<2^60):m.natAbs.log2<9000:=by
 have:=yr (n:=m.natAbs) ⋯;omega
end OG
namespace OP
open PySem PySem.Spec PyProof.Rows L2 OG
inductive U where
 |non|bl (b:Bool)|int (i:Int)|str (x:Str)|tup (us:List U)|ref (l:Nat)|kl (ns:List Int)
structure Cl where
 C:Addr
 ns:List Str
inductive O where
 |lst (us:List U)|dic (kvs:List (Key×U))|ins (c:Cl) (fs:List (Option U))|fdc (ep:Nat) (kvs:List (Key×U))|dit (kvs:List (List Key×U))|fdt (ep:Nat) (kvs:List (List Key×U))|dnt (kvs:List (List (List Int)×U))|fdn (ep:Nat) (kvs:List (List (List Int)×U))|cod (p:Addr) (pos:Pos) (q:Str)
abbrev Sto:=List O
abbrev Rho:=List (Option U)
def KL(K:Q3)(H:Hp)(a:Addr)(ns:List Int):Prop:=
 (∃o,H a=some (.frz o (.lst (ns.map V.int))))\/
  ∃(o:Obj) (its:Array Q4) (n:Nat),K.lookup a=some o/\o.cls=.type "list"/\o.dict=none/\o.data=.seq its n/\its.size<=ZU/\cm (ns.map V.int) its.toList
def KL.sq{K:Q3}{H:Hp}{a:Addr}{ns:List Int}(h:KL K H a ns):SqL K H a (ns.map V.int):=by
 rcases h with h|h;exact .inl (.inr h);exact .inr h
mutual
def Is(K:Q3)(m:List Addr)(H:Hp):V->U->Prop
 |v,.non=>v=.non
 |v,.bl b=>v=.bl b
 |v,.int i=>v=.int i
 |v,.str x=>v=.str x
 |v,.tup us=>∃a xs,v=.ref a/\SqT K H a xs/\IsL K m H xs us
 |v,.ref l=>∃a,m[l]?=some a/\v=.ref a
 |v,.kl ns=>∃a,v=.ref a/\KL K H a ns
def IsL(K:Q3)(m:List Addr)(H:Hp):List V->List U->Prop
 |xs,[]=>xs=[]
 |xs,u::us=>∃x r,xs=x::r/\Is K m H x u/\IsL K m H r us
end
structure B7(K:Q3)(H H':Hp):Prop where
 t:∀a xs,SqT K H a xs->SqT K H' a xs
 l:∀a ns,KL K H a ns->KL K H' a ns
 c:∀a ob,H a=some (.frz ob (.own 0))->H' a=some (.frz ob (.own 0))
structure Ext(K:Q3)(m:List Addr)(H:Hp)(m':List Addr)(H':Hp):Prop where
 pre:∃t,m'=m++t
 keep:B7 K H H'
variable{K:Q3}{m m':List Addr}{H H':Hp}{us:List U}{a q:Addr}
section
variable{m'':List Addr}{H'':Hp}{v x:V}{u:U}{xs ys:List V}{ws:List U}{o:HO}
def Ext.refl:Ext K m H m H:=⟨⟨[],nofun⟩,fun _ _ h=>h,fun _ _ h=>h,fun _ _ h=>h⟩
def Ext.trans(a:Ext K m H m' H')(b:Ext K m' H' m'' H''):Ext K m H m'' H'':=by
 obtain⟨t,rfl⟩:=a.pre;obtain⟨t',rfl⟩:=b.pre;exact⟨⟨t++t',nofun⟩,fun c ys h=>b.keep.t c ys (a.keep.t c ys h),fun c ys h=>b.keep.l c ys (a.keep.l c ys h),fun c ob h=>b.keep.c c ob (a.keep.c c ob h)⟩
def Ext.of(k:B7 K H H'):Ext K m H m H':=⟨⟨[],nofun⟩,k⟩
def Ext.new(k:B7 K H H'):Ext K m H (m++[q]) H':=⟨⟨[q],rfl⟩,k⟩
def Ext.get{l:Nat}(e:Ext K m H m' H')(h:m[l]?=some a):m'[l]?=some a:=by
 obtain⟨t,rfl⟩:=e.pre;rw[Zh (Q6.mp h).1];exact h
mutual
theorem Is.mono(e:Ext K m H m' H'):∀{v:V} {u:U},Is K m H v u->Is K m' H' v u
 |v,.non,h=>by unfold Is at h ⊢;exact h
 |v,.bl b,h=>by unfold Is at h ⊢;exact h
 |v,.int i,h=>by unfold Is at h ⊢;exact h
 |v,.str x,h=>by unfold Is at h ⊢;exact h
 |v,.tup us,h=>by
  unfold Is at h ⊢;obtain⟨a,xs,e1,k,l⟩:=h;exact⟨a,xs,e1,e.keep.t _ _ k,IsL.mono e l⟩
 |v,.ref l,h=>by
  unfold Is at h ⊢;obtain⟨a,k,e1⟩:=h;exact⟨a,e.get k,e1⟩
 |v,.kl ns,h=>by
  unfold Is at h ⊢;obtain⟨a,e1,k⟩:=h;exact⟨a,e1,e.keep.l _ _ k⟩
theorem IsL.mono(e:Ext K m H m' H'):∀{xs:List V} {us:List U},IsL K m H xs us->IsL K m' H' xs us
 |xs,[],h=>by unfold IsL at h ⊢;exact h
 |xs,u::us,h=>by
  unfold IsL at h ⊢;obtain⟨x,r,e1,k,l⟩:=h;exact⟨x,r,e1,Is.mono e k,IsL.mono e l⟩
end
def Is.int_{i:Int}:Is K m H (.int i) (.int i):=by unfold Is;rfl
def Is.bl_{b:Bool}:Is K m H (.bl b) (.bl b):=by unfold Is;rfl
def Is.non_:Is K m H .non .non:=by unfold Is;rfl
def Is.str_{x:Str}:Is K m H (.str x) (.str x):=by unfold Is;rfl
def Is.of_int{i:Int}(h:Is K m H v (.int i)):v=.int i:=by unfold Is at h;exact h
def Is.of_bl{b:Bool}(h:Is K m H v (.bl b)):v=.bl b:=by unfold Is at h;exact h
def Is.of_non(h:Is K m H v .non):v=.non:=by unfold Is at h;exact h
def Is.of_str{x:Str}(h:Is K m H v (.str x)):v=.str x:=by unfold Is at h;exact h
def Is.of_tup(h:Is K m H v (.tup us)):∃a xs,v=.ref a/\SqT K H a xs/\IsL K m H xs us:=by unfold Is at h;exact h
def Is.of_ref{l:Nat}(h:Is K m H v (.ref l)):∃a,m[l]?=some a/\v=.ref a:=by unfold Is at h;exact h
def Is.of_kl{ns:List Int}(h:Is K m H v (.kl ns)):∃a,v=.ref a/\KL K H a ns:=by unfold Is at h;exact h
def Is.kl_{ns:List Int}(e:KL K H a ns):Is K m H (.ref a) (.kl ns):=by unfold Is;exact⟨a,rfl,e⟩
def Is.tup_(e:SqT K H a xs)(h:IsL K m H xs us):Is K m H (.ref a) (.tup us):=by unfold Is;exact⟨a,xs,rfl,e,h⟩
def Is.ref_{l:Nat}(e:m[l]?=some a):Is K m H (.ref a) (.ref l):=by unfold Is;exact⟨a,e,rfl⟩
def IsL.nil_:IsL K m H [] []:=by unfold IsL;rfl
def IsL.cons_(h:Is K m H x u)(t:IsL K m H xs us):IsL K m H (x::xs) (u::us):=by unfold IsL;exact⟨x,xs,rfl,h,t⟩
def IsL.of_nil(h:IsL K m H xs []):xs=[]:=by unfold IsL at h;exact h
def IsL.of_cons(h:IsL K m H xs (u::us)):∃x r,xs=x::r/\Is K m H x u/\IsL K m H r us:=by unfold IsL at h;exact h
def IsL.length:∀{xs:List V} {us:List U},IsL K m H xs us->xs.length=us.length
 |xs,[],h=>by rw[h.of_nil];rfl
 |xs,d::ds,h=>by
  obtain⟨x,r,rfl,_,t⟩:=h.of_cons;rw[ZZ,ZZ,IsL.length t]
def IsL.getD:∀{xs:List V} {us:List U} {i:Nat} {u:U},IsL K m H xs us->us[i]?=some u->∃x,xs[i]?=some x/\Is K m H x u
 |xs,[],i,x,h,e=>by simp at e
 |xs,d::ds,0,x,h,e=>by
  obtain⟨y,r,rfl,k,t⟩:=h.of_cons;simp at e;subst e;exact⟨y,nofun,k⟩
 |xs,d::ds,i+1,x,h,e=>by
  obtain⟨y,r,rfl,k,t⟩:=h.of_cons;obtain⟨d',e1,e2⟩:=IsL.getD (i:=i) (u:=x) t (by simpa using e);exact⟨d',by simpa using e1,e2⟩
def IsL.append:∀{xs:List V} {us:List U},IsL K m H xs us->IsL K m H ys ws->IsL K m H (xs++ys) (us++ws)
 |xs,[],h,k=>by rw[h.of_nil];exact k
 |xs,d::ds,h,k=>by
  obtain⟨y,r,rfl,z,t⟩:=h.of_cons;exact .cons_ z (IsL.append t k)
def IsL.set:∀{xs:List V} {us:List U} {j:Nat},IsL K m H xs us->Is K m H x u->IsL K m H (xs.set j x) (us.set j u)
 |xs,[],j,h,k=>by rw[h.of_nil];exact .nil_
 |xs,d::ds,0,h,k=>by
  obtain⟨y,r,rfl,z,t⟩:=h.of_cons;exact .cons_ k t
 |xs,d::ds,j+1,h,k=>by
  obtain⟨y,r,rfl,z,t⟩:=h.of_cons;exact .cons_ z (IsL.set t k)
def IsL.drop:∀{xs:List V} {us:List U} (n:Nat),IsL K m H xs us->IsL K m H (xs.drop n) (us.drop n)
 |xs,us,0,h=>h
 |xs,[],n+1,h=>by rw[h.of_nil];exact .nil_
 |xs,d::ds,n+1,h=>by
  obtain⟨y,r,rfl,z,t⟩:=h.of_cons;exact IsL.drop n t
def IsL.take:∀{xs:List V} {us:List U} (n:Nat),IsL K m H xs us->IsL K m H (xs.take n) (us.take n)
 |xs,us,0,h=>.nil_
 |xs,[],n+1,h=>by rw[h.of_nil];exact .nil_
 |xs,d::ds,n+1,h=>by
  obtain⟨y,r,rfl,z,t⟩:=h.of_cons;exact .cons_ z (IsL.take n t)
def IsL.erase:∀{xs:List V} {us:List U} (n:Nat),IsL K m H xs us->IsL K m H (xs.eraseIdx n) (us.eraseIdx n)
 |xs,[],n,h=>by rw[h.of_nil];exact .nil_
 |xs,d::ds,0,h=>by
  obtain⟨y,r,rfl,z,t⟩:=h.of_cons;exact t
 |xs,d::ds,n+1,h=>by
  obtain⟨y,r,rfl,z,t⟩:=h.of_cons;exact .cons_ z (IsL.erase n t)
def IsL.rep:∀(n:Nat),IsL K m H xs us->IsL K m H (ZQ n xs).flatten (ZQ n us).flatten
 |0,h=>.nil_
 |n+1,h=>by
  rw[XO,XO,Xu,Xu];exact h.append (IsL.rep n h)
def xh(h:H a=some o)(nt:∀xs,o≠.tup xs)(nf:∀ob xs,o≠.frz ob (.tup xs))(nl:∀ob xs,o≠.frz ob (.lst xs))(nc:∀ob,o≠.frz ob (.own 0))(o':HO):B7 K H (upd H a o'):=by
 refine⟨fun b xs q=>?_,fun b ns q=>?_,fun b ob q=>by rw[aM (fun z=>by subst z;rw[q]at h;cases h;exact nc _ rfl)];exact q⟩;rcases q with(q|⟨ob,q⟩)|q;have n:b≠a:=fun z=>by subst z;rw[q]at h;cases h;exact nt _ rfl
 exact .inl (.inl (by rw[aM n];exact q));have n:b≠a:=fun z=>by subst z;rw[q]at h;cases h;exact nf _ _ rfl
 exact .inl (.inr ⟨ob,by rw[aM n];exact q⟩);exact .inr q;rcases q with⟨ob,q⟩|q;have n:b≠a:=fun z=>by subst z;rw[q]at h;cases h;exact nl _ _ rfl
 exact .inl ⟨ob,by rw[aM n];exact q⟩;exact .inr q
def dQ(s:Gd H H'):B7 K H H':=by
 refine⟨fun b xs q=>?_,fun b ns q=>?_,fun b ob q=>s _ _ q⟩;rcases q with(q|⟨ob,q⟩)|q;exact .inl (.inl (s _ _ q));exact .inl (.inr ⟨ob,s _ _ q⟩);exact .inr q;rcases q with⟨ob,q⟩|q;exact .inl ⟨ob,s _ _ q⟩;exact .inr q
def cL(h:H q=none)(o':HO):B7 K H (upd H q o'):=dQ (iF h o')
end
abbrev NK:=List (List Int)
def hNK(ks:NK):Int:=reduceHash (Builtin.Tuple.tupleHashOf (ks.map fun k=>reduceHash (Builtin.Tuple.tupleHashOf (k.map hashInt))))
abbrev KN:List ((NK×Addr)×V)->List (NK×Addr×Q4)->Prop:=Paired fun p q=>p.1.1=q.1/\p.1.2=q.2.1/\dk p.2 q.2.2
def dNo(a:Addr)(kvs:List ((NK×Addr)×V)):HO:=.ext fun h=>kvs.length<=ZU/\(a == sysModules)=false/\∃xs,KN kvs xs/\
 ∃o es ep,h.get? a=some o/\o.ExactDict/\o.data=.dict es ep/\es.toList=(xs.map fun x=>(⟨hNK x.1,.ref x.2.1,x.2.2⟩:DictEntry))/\(xs.map (·.1)).Nodup
def MO(K:Q3)(H:Hp)(b:Addr)(k:NK):Prop:=∃cs:List Addr,SqT K H b (cs.map V.ref)/\Paired (fun(l:List Int) c=>SqT K H c (l.map V.int)) k cs
def MO.mono{K:Q3}{H H':Hp}{b:Addr}{k:NK}(e:B7 K H H')(h:MO K H b k):MO K H' b k:=let ⟨cs,p,q⟩:=h;⟨cs,e.t _ _ p,Paired.mapP q fun _ _ z=>e.t _ _ z⟩
def nP(kvs:List ((NK×Addr)×V)):List (NK×V):=kvs.map fun p=>(p.1.1,p.2)
def IsP{κ:Type}(K:Q3)(m:List Addr)(H:Hp)(kvs:List (κ×V))(kus:List (κ×U)):Prop:=kvs.map (·.1)=kus.map (·.1)/\IsL K m H (kvs.map (·.2)) (kus.map (·.2))
def Rf(K:Q3)(m:List Addr)(H:Hp):Option V->Option U->Prop
 |some v,some u=>Is K m H v u
 |none,none=>True
 |_,_=>False
structure InF(K:Q3)(m:List Addr)(H:Hp)(c:Cl)(fs:List (Str×V))(fus:List (Option U)):Prop where
 nd:c.ns.Nodup
 few:c.ns.length<1000
 knd:(fs.map (·.1)).Nodup
 sub:∀x∈fs.map (·.1),x∈c.ns
 len:fus.length=c.ns.length
 at_:∀(i:Nat) (x:Str),c.ns[i]?=some x->Rf K m H (fs.lookup x) ((fus[i]?).join)
def Rf.mono{K:Q3}{m m':List Addr}{H H':Hp}{v:Option V}{u:Option U}(e:Ext K m H m' H')(h:Rf K m H v u):Rf K m' H' v u:=by
 cases v with
 |none=>cases u with
  |none=>trivial
  |some u=>exact h.elim
 |some v=>cases u with
  |none=>exact h.elim
  |some u=>exact Is.mono e h
def InF.mono{K:Q3}{m m':List Addr}{H H':Hp}{c:Cl}{fs:List (Str×V)}{fus:List (Option U)}(e:Ext K m H m' H')(h:InF K m H c fs fus):InF K m' H' c fs fus:=⟨h.nd,h.few,h.knd,h.sub,h.len,fun i x q=>(h.at_ i x q).mono e⟩
def EO(H:Hp)(pos:Pos)(q:Str)(ps:Array Q4):Prop:=TriplesOk ps.toList/\(codeAmong pos ps.toList=none\/∃c ob vs t,codeAmong pos ps.toList=some (.ref c)/\H c=some (.frz ob (.own 0))/\ob.data=.fields vs/\vs[1]?=some (.str q t))
def EO.mono{K:Q3}{H H':Hp}{pos:Pos}{q:Str}{ps:Array Q4}(e:B7 K H H')(h:EO H pos q ps):EO H' pos q ps:=⟨h.1,h.2.imp id fun⟨c,ob,vs,t,h1,h2,h3⟩=>⟨c,ob,vs,t,h1,e.c _ _ h2,h3⟩⟩
def Ob(K:Q3)(m:List Addr)(H:Hp)(a:Addr):O->Prop
 |.lst us=>∃xs,H a=some (.lst xs)/\IsL K m H xs us
 |.dic kus=>∃kvs,H a=some (.dK kvs)/\IsP K m H kvs kus
 |.ins c fus=>∃dx fs,H a=some (.ins c.C dx fs)/\InF K m H c fs fus
 |.fdc ep kus=>∃ob es kvs,H a=some (.frz ob (.dK kvs))/\ob.data=.dict es ep/\IsP K m H kvs kus
 |.dit kus=>∃kvs,H a=some (.dT kvs)/\IsP K m H kvs kus
 |.fdt ep kus=>∃ob es kvs,H a=some (.frz ob (.dT kvs))/\ob.data=.dict es ep/\IsP K m H kvs kus
 |.dnt kus=>∃kvs,H a=some (dNo a kvs)/\(∀p∈kvs,MO K H p.1.2 p.1.1)/\IsP K m H (nP kvs) kus
 |.fdn ep kus=>∃ob es kvs,H a=some (.frz ob (dNo a kvs))/\ob.data=.dict es ep/\(∀p∈kvs,MO K H p.1.2 p.1.1)/\IsP K m H (nP kvs) kus
 |.cod p pos q=>a=p/\∃ps,H a=some (.tbl ps)/\EO H pos q ps
structure Sr(K:Q3)(m:List Addr)(S:Sto)(H:Hp):Prop where
 len:m.length=S.length
 nd:m.Nodup
 ob:∀(l:Nat) (a:Addr) (o:O),m[l]?=some a->S[l]?=some o->Ob K m H a o
structure Lr(K:Q3)(m:List Addr)(H:Hp)(ρ:Rho)(σ:L2.St):Prop where
 len:ρ.length=σ.length
 at_:∀(i:Nat) (u:U),ρ[i]?=some (some u)->∃v,σ[i]?=some (some v)/\Is K m H v u
variable{S:Sto}{ρ:Rho}{σ:L2.St}{l:Nat}
section
variable{κ:Type}{o:O}{ho:HO}{v:V}{u:U}{kvs:List (κ×V)}{kus:List (κ×U)}
def IsP.mono(e:Ext K m H m' H')(h:IsP K m H kvs kus):IsP K m' H' kvs kus:=⟨h.1,h.2.mono e⟩
def IsP.length(h:IsP K m H kvs kus):kvs.length=kus.length:=by have:=h.2.length;simpa using this
def IsP.nil_:IsP (κ:=κ) K m H [] []:=⟨rfl,.nil_⟩
def IsP.cons_{k:κ}(h:Is K m H v u)(t:IsP K m H kvs kus):IsP K m H ((k,v)::kvs) ((k,u)::kus):=⟨by simp[t.1],.cons_ h t.2⟩
def IsP.ind{P:List (κ×V)->List (κ×U)->Prop}(h0:P [] [])(h1:∀k v u kvs kus,Is K m H v u->IsP K m H kvs kus->P kvs kus->P ((k,v)::kvs) ((k,u)::kus)):∀{kvs:List (κ×V)} {kus:List (κ×U)},IsP K m H kvs kus->P kvs kus
 |[],[],_=>h0
 |[],p::r,h=>by have:=h.length;simp at this
 |p::r,[],h=>by have:=h.length;simp at this
 |(k,v)::r,(k',u)::r',h=>by
  obtain⟨e,i⟩:=h;simp only[ZK,List.cons.injEq]at e;obtain⟨e1,e2⟩:=e;subst e1;obtain⟨x,t,e3,iu,it⟩:=i.of_cons;cases e3;exact h1 k v u r r' iu ⟨e2,it⟩ (IsP.ind h0 h1 (⟨e2,it⟩:IsP K m H r r'))
def Ob.mono(e:Ext K m H m' H')(h1:H' a=H a)(h:Ob K m H a o):Ob K m' H' a o:=by
 cases o with
 |lst us=>obtain⟨xs,k,i⟩:=h;exact⟨xs,h1.trans k,i.mono e⟩
 |dic kus=>obtain⟨xs,k,i⟩:=h;exact⟨xs,h1.trans k,i.mono e⟩
 |ins C fus=>obtain⟨dx,fs,k,i⟩:=h;exact⟨dx,fs,h1.trans k,i.mono e⟩
 |fdc ep kus=>obtain⟨ob,es,kvs,k,d,i⟩:=h;exact⟨ob,es,kvs,h1.trans k,d,i.mono e⟩
 |dit kus=>obtain⟨xs,k,i⟩:=h;exact⟨xs,h1.trans k,i.mono e⟩
 |fdt ep kus=>obtain⟨ob,es,kvs,k,d,i⟩:=h;exact⟨ob,es,kvs,h1.trans k,d,i.mono e⟩
 |dnt kus=>obtain⟨kvs,k,y,i⟩:=h;exact⟨kvs,h1.trans k,fun p hp=>(y p hp).mono e.keep,i.mono e⟩
 |fdn ep kus=>obtain⟨ob,es,kvs,k,d,y,i⟩:=h;exact⟨ob,es,kvs,h1.trans k,d,fun p hp=>(y p hp).mono e.keep,i.mono e⟩
 |cod p pos q=>obtain⟨z,ps,k,i⟩:=h;exact⟨z,ps,h1.trans k,i.mono e.keep⟩
def Ob.some(h:Ob K m H a o):∃ho,H a=some ho/\(∀xs,ho≠.tup xs)/\(∀ob xs,ho≠.frz ob (.tup xs))/\(∀ob xs,ho≠.frz ob (.lst xs))/\(∀ob,ho≠.frz ob (.own 0)):=by
 cases o with
 |lst us=>obtain⟨xs,k,i⟩:=h;exact⟨_,k,nofun,nofun,nofun,nofun⟩
 |dic kus=>obtain⟨xs,k,i⟩:=h;exact⟨_,k,nofun,nofun,nofun,nofun⟩
 |ins C fus=>obtain⟨dx,fs,k,i⟩:=h;exact⟨_,k,nofun,nofun,nofun,nofun⟩
 |fdc ep kus=>obtain⟨ob,es,kvs,k,d,i⟩:=h;exact⟨_,k,nofun,nofun,nofun,nofun⟩
 |dit kus=>obtain⟨xs,k,i⟩:=h;exact⟨_,k,nofun,nofun,nofun,nofun⟩
 |fdt ep kus=>obtain⟨ob,es,kvs,k,d,i⟩:=h;exact⟨_,k,nofun,nofun,nofun,nofun⟩
 |dnt kus=>obtain⟨kvs,k,y,i⟩:=h;exact⟨_,k,by simp[dNo],by simp[dNo],by simp[dNo],by simp[dNo]⟩
 |fdn ep kus=>obtain⟨ob,es,kvs,k,d,y,i⟩:=h;exact⟨_,k,nofun,by simp[dNo],by simp[dNo],by simp[dNo]⟩
 |cod p pos q=>obtain⟨z,ps,k,i⟩:=h;exact⟨_,k,nofun,nofun,nofun,nofun⟩
def Lr.mono(e:Ext K m H m' H')(h:Lr K m H ρ σ):Lr K m' H' ρ σ:=⟨h.len,fun i u e1=>let ⟨v,e2,e3⟩:=h.at_ i u e1;⟨v,e2,e3.mono e⟩⟩
def Lr.set(h:Lr K m H ρ σ)(i:Nat)(hv:Is K m H v u):Lr K m H (ρ.set i (some u)) (σ.set i (some v)):=by
 refine⟨by simp[h.len],fun j w e=>?_⟩;by_cases c:i=j;subst c;rw[List.getElem?_set_self' ]at e;rw[List.getElem?_set_self'];have hl:=h.len;cases e1:ρ[i]? with
 |none=>rw[e1]at e;simp at e
 |some z=>
  rw[e1]at e;simp at e;subst e;have:i < σ.length:=by rw[<-hl];exact(Q6.mp e1).1
  rw[Z7 this];exact⟨v,rfl,hv⟩
 rw[ZS c]at e;rw[ZS c];exact h.at_ j w e
def Sr.get(r:Sr K m S H)(h:S[l]?=some o):∃a,m[l]?=some a/\Ob K m H a o:=by
 have hl:l<m.length:=by rw[r.len];exact(Q6.mp h).1
 exact⟨_,Z7 hl,r.ob _ _ _ (Z7 hl) h⟩
def Sr.at_(r:Sr K m S H)(h:m[l]?=some a):∃o,S[l]?=some o/\Ob K m H a o:=by
 have hl:l<S.length:=by rw[<-r.len];exact(Q6.mp h).1
 exact⟨_,Z7 hl,r.ob _ _ _ h (Z7 hl)⟩
def Sr.same(r:Sr K m S H)(s:Gd H H'):Sr K m S H':=⟨r.len,r.nd,fun l a o h1 h2=>by
 have q:=r.ob l a o h1 h2;obtain⟨ho,e,_⟩:=q.some;exact q.mono (.of (dQ s)) (by rw[s _ _ e,e])⟩
def Sr.new(r:Sr K m S H)(h:H q=none)(n:Ob K (m++[q]) (upd H q ho) q o):Sr K (m++[q]) (S++[o]) (upd H q ho):=by
 have hq:q∉m:=fun z=>by
  obtain⟨l,e⟩:=List.getElem?_of_mem z;obtain⟨o,_,k⟩:=r.at_ e;obtain⟨ho,e2,_⟩:=k.some;rw[h]at e2;cases e2
 refine⟨by simp[r.len],?_,fun l a o' h1 h2=>?_⟩;rw[Xr];exact⟨r.nd,nofun,fun x hx y hy z=>by simp at hy;subst hy;subst z;exact hq hx⟩;by_cases c:l<m.length;rw[Zh c]at h1;rw[Zh (by rw[<-r.len];exact c)]at h2;have q':=r.ob l a o' h1 h2;obtain⟨ho',e,_⟩:=q'.some;exact q'.mono (.new (cL h _)) (by rw[aM (dW e h)]);have e:l=m.length:=by
  have:=(Q6.mp h1).1;simp at this;omega
 subst e;rw[Zu (Z6 _)]at h1;rw[Zu (by rw[r.len];exact Z6 _)]at h2;simp[r.len]at h1 h2;subst h1;subst h2;exact n
def Sr.put(r:Sr K m S H)(h:m[l]?=some a)(n:Ob K m (upd H a ho) a o):Sr K m (S.set l o) (upd H a ho):=by
 obtain⟨o0,h0,k0⟩:=r.at_ h;obtain⟨ho',e,nt,nf,nl,nc⟩:=k0.some;refine⟨by simp[r.len],r.nd,fun l' a' o' h1 h2=>?_⟩;by_cases c:l=l';subst c;rw[h]at h1;cases h1;rw[Ze (Q6.mp h0).1]at h2;cases h2;exact n;rw[ZS c]at h2;have na:a'≠a:=fun z=>by
  subst z;obtain⟨p1,e1⟩:=Q6.mp h;obtain⟨p2,e2⟩:=Q6.mp h1;exact c ((List.getElem_inj r.nd).mp (e1.trans e2.symm))
 exact(r.ob l' a' o' h1 h2).mono (.of (xh e nt nf nl nc _)) (by rw[aM na])
def Sr.keep(r:Sr K m S H)(h:m[l]?=some a)(ho:HO):B7 K H (upd H a ho):=by
 obtain⟨o0,h0,k0⟩:=r.at_ h;obtain⟨ho',e,nt,nf,nl,nc⟩:=k0.some;exact xh e nt nf nl nc _
end
def kX(K:Q3)(m:List Addr)(H:Hp)(Q:VK)(u:U)(S':Sto):Prop:=∀m' v H',Ext K m H m' H'->Sr K m' S' H'->Is K m' H' v u->Q v H'
abbrev CE:=Rho->Sto->Option (U×Sto)
abbrev CT:=Rho->Sto->Option (Bool×Sto)
abbrev CA:=Rho->Sto->Option (List U×Sto)
inductive Out where
 |nx|rt (u:U)|bk|ct
abbrev CS:=Rho->Sto->Option (Out×Rho×Sto)
def ER(K:Q3)(m:List Addr)(H:Hp)(Q:Bool->Hp->Prop)(b:Bool)(S':Sto):Prop:=∀m' H',Ext K m H m' H'->Sr K m' S' H'->Q b H'
def PF(K:Q3)(m:List Addr)(H:Hp)(Q:List V->Hp->Prop)(us:List U)(S':Sto):Prop:=∀m' vs H',Ext K m H m' H'->Sr K m' S' H'->IsL K m' H' vs us->Q vs H'
def jt(K:Q3)(m:List Addr)(H:Hp)(Q:L2.St->Hp->Prop)(ρ':Rho)(S':Sto):Prop:=∀m' σ' H',Ext K m H m' H'->Sr K m' S' H'->Lr K m' H' ρ' σ'->Q σ' H'
def yJ(K:Q3)(m:List Addr)(H:Hp)(D:Cj):Out->Rho->Sto->Prop
 |.nx,ρ',S'=>jt K m H D.nx ρ' S'
 |.bk,ρ',S'=>jt K m H D.bk ρ' S'
 |.ct,ρ',S'=>jt K m H D.ct ρ' S'
 |.rt u,_,S'=>kX K m H D.rt u S'
def oH{α β γ δ ε:Type}{A B C D:α->β->γ->δ->ε->Prop}{p:Prop}(h:∃a b c d e,A a b c d e/\B a b c d e/\C a b c d e/\D a b c d e)(f:∀a b c d e,A a b c d e->B a b c d e->C a b c d e->D a b c d e->p):p:=by
 obtain⟨a,b,c,d,e,h1,h2,h3,h4⟩:=h;exact f a b c d e h1 h2 h3 h4
def xw{α β γ δ ε ζ:Type}{A B C D:α->β->γ->δ->ε->ζ->Prop}{p:Prop}(h:∃a b c d e g,A a b c d e g/\B a b c d e g/\C a b c d e g/\D a b c d e g)(f:∀a b c d e g,A a b c d e g->B a b c d e g->C a b c d e g->D a b c d e g->p):p:=by
 obtain⟨a,b,c,d,e,g,h1,h2,h3,h4⟩:=h;exact f a b c d e g h1 h2 h3 h4
def Qr{α β γ δ ε ζ:Type}{A B C D E:α->β->γ->δ->ε->ζ->Prop}{p:Prop}(h:∃a b c d e g,A a b c d e g/\B a b c d e g/\C a b c d e g/\D a b c d e g/\E a b c d e g)(f:∀a b c d e g,A a b c d e g->B a b c d e g->C a b c d e g->D a b c d e g->E a b c d e g->p):p:=by
 obtain⟨a,b,c,d,e,g,h1,h2,h3,h4,h5⟩:=h;exact f a b c d e g h1 h2 h3 h4 h5
def tE(K:Q3)(c:CE):TE:=fun σ H Q=>∃m ρ S u S',Sr K m S H/\Lr K m H ρ σ/\c ρ S=some (u,S')/\kX K m H Q u S'
def tT(K:Q3)(c:CT):TT:=fun σ H Q=>∃m ρ S u S',Sr K m S H/\Lr K m H ρ σ/\c ρ S=some (u,S')/\ER K m H Q u S'
def tA(K:Q3)(c:CA):TA:=fun σ H Q=>∃m ρ S u S',Sr K m S H/\Lr K m H ρ σ/\c ρ S=some (u,S')/\PF K m H Q u S'
def tS(K:Q3)(c:CS):TS:=fun D σ H=>∃m ρ S o ρ' S',Sr K m S H/\Lr K m H ρ σ/\c ρ S=some (o,ρ',S')/\yJ K m H D o ρ' S'
abbrev QE(X:Cx)(e:ZR)(c:CE):Prop:=WE X e (tE X.K c)
abbrev QT(X:Cx)(e:ZR)(c:CT):Prop:=WT X e (tT X.K c)
abbrev QW(X:Cx)(e:ZR)(c:CT):Prop:=WW X e (tT X.K c)
abbrev QS(X:Cx)(e:Zv)(c:CS):Prop:=WS X e (tS X.K c)
abbrev QSs(X:Cx)(e:List Zv)(c:CS):Prop:=WSs X e (tS X.K c)
structure QA(X:Cx)(es:List ZR)(c:CA):Prop where
 h:WA X es (tA X.K c)
 len:∀ρ S us S',c ρ S=some (us,S')->us.length=es.length
variable{X:Cx}{e:ZR}{es:List ZR}{sts:List Zv}
section
variable{st:Zv}
def _root_.OG.WE.imp{t t':TE}(h:WE X e t)(i:∀σ H Q,t' σ H Q->t σ H Q):WE X e t':=⟨fun pins s σ H Q I k=>h.h pins s σ H Q I (i σ H Q k)⟩
def _root_.OG.WT.imp{t t':TT}(h:WT X e t)(i:∀σ H Q,t' σ H Q->t σ H Q):WT X e t':=⟨fun pins s σ H Q I k=>h.h pins s σ H Q I (i σ H Q k)⟩
def _root_.OG.WW.imp{t t':TT}(h:WW X e t)(i:∀σ H Q,t' σ H Q->t σ H Q):WW X e t':=⟨fun wh pins s σ H Q I k=>h.h wh pins s σ H Q I (i σ H Q k)⟩
def _root_.OG.WA.imp{t t':TA}(h:WA X es t)(i:∀σ H Q,t' σ H Q->t σ H Q):WA X es t':=⟨fun pos pins s σ H Q I k=>h.h pos pins s σ H Q I (i σ H Q k)⟩
def _root_.OG.WS.imp{t t':TS}(h:WS X st t)(i:∀D σ H,t' D σ H->t D σ H):WS X st t':=⟨fun pins s σ H D I k=>h.h pins s σ H D I (i D σ H k)⟩
def _root_.OG.WSs.imp{t t':TS}(h:WSs X sts t)(i:∀D σ H,t' D σ H->t D σ H):WSs X sts t':=⟨fun pins s σ H D I k=>h.h pins s σ H D I (i D σ H k)⟩
def _root_.OG.WI.imp{tg:ZR}{t t':TI}(h:WI X tg e t)(i:∀σ H R,t' σ H R->t σ H R):WI X tg e t':=⟨fun pins s σ H R I k=>h.h pins s σ H R I (i σ H R k)⟩
def _root_.OG.WG.imp{t t':TG}(h:WG X e t)(i:∀v σ H Q,t' v σ H Q->t v σ H Q):WG X e t':=⟨fun pins s σ H v u Q I r k=>h.h pins s σ H v u Q I r (i v σ H Q k)⟩
def _root_.OG.WGs.imp{t t':TGs}(h:WGs X es t)(i:∀v σ H Q,t' v σ H Q->t v σ H Q):WGs X es t':=⟨fun pins s σ H v u Q I r k=>h.h pins s σ H v u Q I r (i v σ H Q k)⟩
def _root_.OG.WE.or{t t':TE}(h:WE X e t)(h':WE X e t'):WE X e (fun σ H Q=>t σ H Q\/t' σ H Q):=⟨fun pins s σ H Q I k=>k.elim (h.h pins s σ H Q I) (h'.h pins s σ H Q I)⟩
def _root_.OG.WT.or{t t':TT}(h:WT X e t)(h':WT X e t'):WT X e (fun σ H Q=>t σ H Q\/t' σ H Q):=⟨fun pins s σ H Q I k=>k.elim (h.h pins s σ H Q I) (h'.h pins s σ H Q I)⟩
def _root_.OG.WS.or{t t':TS}(h:WS X st t)(h':WS X st t'):WS X st (fun D σ H=>t D σ H\/t' D σ H):=⟨fun pins s σ H D I k=>k.elim (h.h pins s σ H D I) (h'.h pins s σ H D I)⟩
def _root_.OG.WI.or{tg:ZR}{t t':TI}(h:WI X tg e t)(h':WI X tg e t'):WI X tg e (fun σ H D=>t σ H D\/t' σ H D):=⟨fun pins s σ H D I k=>k.elim (h.h pins s σ H D I) (h'.h pins s σ H D I)⟩
end
section
variable{Q:VK}{R:L2.St->Hp->Prop}{D:Cj}{u:U}{o:Out}{S':Sto}{ρ':Rho}
def kX.mono(e:Ext K m H m' H')(p:kX K m H Q u S'):kX K m' H' Q u S':=fun m2 v H2 e2 r i=>p m2 v H2 (e.trans e2) r i
def ER.mono{Q:Bool->Hp->Prop}{b:Bool}(e:Ext K m H m' H')(p:ER K m H Q b S'):ER K m' H' Q b S':=fun m2 H2 e2 r=>p m2 H2 (e.trans e2) r
def jt.mono(e:Ext K m H m' H')(p:jt K m H R ρ' S'):jt K m' H' R ρ' S':=fun m2 v H2 e2 r i=>p m2 v H2 (e.trans e2) r i
def yJ.mono(e:Ext K m H m' H')(p:yJ K m H D o ρ' S'):yJ K m' H' D o ρ' S':=by
 cases o with
 |nx=>exact jt.mono e p
 |rt u=>exact kX.mono e p
 |bk=>exact jt.mono e p
 |ct=>exact jt.mono e p
end
def LIM:Nat:=100000
def lim{n:Nat}(h:n<=LIM):n<=ZU:=Zw h (by unfold LIM ZU;decide)
def Ng{n:Nat}(h:n<LIM):n<ZU:=ZE h (by unfold LIM ZU;decide)
def ak(i:Nat):CE:=fun ρ S=>match ρ[i]? with
 |some (some u)=>some (u,S)
 |_=>none
def cC(u:U):CE:=fun _ S=>some (u,S)
variable{b c:ZR}{ca cb:CE}{pos:Pos}{ta tb:CT}{cr:CA}
section
variable{a:ZR}
def C4{i:Nat}(h:WE X e (MW i)):QE X e (ak i):=h.imp fun σ H Q hz=>oH hz fun m ρ S u S' sr lr hc post=>by
 unfold ak at hc;split at hc;rename_i u' e;cases hc;obtain⟨v,e1,e2⟩:=lr.at_ i u e;exact⟨v,e1,post m v H .refl sr e2⟩;cases hc
def q_c{v:V}{u:U}(h:WE X e (tC v))(hi:∀m H,Is X.K m H v u):QE X e (cC u):=h.imp fun σ H Q hz=>oH hz fun m ρ S u' S' sr lr hc post=>by
 cases hc;exact post m v H .refl sr (hi m H)
def OK{i:Int}(h:WE X e (tC (.int i))):QE X e (cC (.int i)):=q_c h fun _ _=>.int_
def QR{i:Bool}(h:WE X e (tC (.bl i))):QE X e (cC (.bl i)):=q_c h fun _ _=>.bl_
def OH{i:Str}(h:WE X e (tC (.str i))):QE X e (cC (.str i)):=q_c h fun _ _=>.str_
def OJ(h:WE X e (tC .non)):QE X e (cC .non):=q_c h fun _ _=>.non_
def cOp(f:U->U->Sto->Option (U×Sto))(ca cb:CE):CE:=fun ρ S=>(ca ρ S).bind fun p=>(cb ρ p.2).bind fun q=>f p.1 q.1 q.2
def OpP(K:Q3)(r:R2)(f:U->U->Sto->Option (U×Sto)):Prop:=
 ∀m S H x y v w u S' Q,Sr K m S H->Is K m H v x->Is K m H w y->f x y S=some (u,S')->kX K m H Q u S'->r v w H Q
def Av{K:Q3}{r:R2}{f:U->U->Sto->Option (U×Sto)}(hp:OpP K r f):∀σ H Q,tE K (cOp f ca cb) σ H Q->tOp r (tE K ca) (tE K cb) σ H Q:=by
 rintro σ H Q ⟨m,ρ,S,u,S',sr,lr,hc,post⟩;obtain⟨⟨x,S1⟩,h1,h⟩:=Q2.mp hc;obtain⟨⟨y,S2⟩,h2,h3⟩:=Q2.mp h;exact⟨m,ρ,S,x,S1,sr,lr,h1,fun m1 v1 H1 e1 sr1 i1=>⟨m1,ρ,S1,y,S2,sr1,lr.mono e1,h2,fun m2 v2 H2 e2 sr2 i2=>hp m2 S2 H2 x y v1 v2 u S' Q sr2 (i1.mono e2) i2 h3 (post.mono (e1.trans e2))⟩⟩
def f7{op:Operator}{r:R2}{f:U->U->Sto->Option (U×Sto)}(ho:OpR X (binaryOp op) r)(hp:OpP X.K r f)(ha:QE X a ca)(hb:QE X b cb):QE X (.BinOp a op b pos) (cOp f ca cb):=(J4 ho ha hb).imp (Av hp)
def oV{op:CmpOp}{r:R2}{f:U->U->Sto->Option (U×Sto)}(ho:OpR X (compareOp op) r)(hp:OpP X.K r f)(ha:QE X a ca)(hb:QE X b cb)(hm:behindInMarks op b=false):QE X (.Compare a [op] [b] pos) (cOp f ca cb):=(wB ho ha hb hm).imp (Av hp)
def aR(c:CE):CT:=fun ρ S=>(c ρ S).bind fun p=>match p.1 with
 |.bl b=>some (b,p.2)
 |_=>none
def mR{K:Q3}{c:CE}{t:TE}(h:∀σ H Q,tE K c σ H Q->t σ H Q):∀σ H Q,tT K (aR c) σ H Q->t σ H fun x H'=>∃k,x=.bl k/\Q k H':=by
 rintro σ H Q ⟨m,ρ,S,u,S',sr,lr,hc,post⟩;obtain⟨⟨x,S1⟩,h1,h2⟩:=Q2.mp hc;refine h σ H _ ⟨m,ρ,S,x,S1,sr,lr,h1,fun m1 v1 H1 e1 sr1 i1=>?_⟩;cases x<;>simp at h2;obtain⟨rfl,rfl⟩:=h2;exact⟨_,i1.of_bl,post m1 H1 e1 sr1⟩
def bb{op:CmpOp}{r:R2}{f:U->U->Sto->Option (U×Sto)}(ho:OpR X (compareOp op) r)(hp:OpP X.K r f)(ha:QE X a ca)(hb:QE X b cb)(hm:behindInMarks op b=false):QT X (.Compare a [op] [b] pos) (aR (cOp f ca cb)):=(qM ho ha hb hm).imp (mR (Av hp))
def gK(h:QE X e ca)(he:∀whole,isTrue e X.env whole=(do let v <-whole;standAt e.pos;holding [v] (truthy v)):=by intro _;rfl):QT X e (aR ca):=(Gz h he).imp (mR fun _ _ _ z=>z)
variable{rest:List ZR}
def yH(ta tb:CT):CT:=fun ρ S=>(ta ρ S).bind fun p=>if p.1=true then tb ρ p.2 else some (false,p.2)
def cOr(ta tb:CT):CT:=fun ρ S=>(ta ρ S).bind fun p=>if p.1=true then some (true,p.2)else tb ρ p.2
def Jq(ta:CT):CT:=fun ρ S=>(ta ρ S).bind fun p=>some (!p.1,p.2)
def C3(h:QW X e ta):QT X e ta:=WW.pt h
def ql(ha:QT X a ta):QW X (.BoolOp .And [a] pos) ta:=Cn ha
def Hm(ha:QT X a ta):QW X (.BoolOp .Or [a] pos) ta:=Gx ha
def yi(ha:QT X a ta)(hb:QW X (.BoolOp .And (b::rest) pos) tb):QW X (.BoolOp .And (a::b::rest) pos) (yH ta tb):=(Gy ha hb).imp fun σ H Q hz=>oH hz fun m ρ S u S' sr lr hc post=>by
 obtain⟨⟨x,S1⟩,h1,h2⟩:=Q2.mp hc;refine⟨m,ρ,S,x,S1,sr,lr,h1,fun m1 H1 e1 sr1=>?_⟩;cases x with
 |true=>exact Jm ⟨m1,ρ,S1,u,S',sr1,lr.mono e1,h2,post.mono e1⟩
 |false=>cases h2;exact Jn (post m1 H1 e1 sr1)
def Nd(ha:QT X a ta)(hb:QW X (.BoolOp .Or (b::rest) pos) tb):QW X (.BoolOp .Or (a::b::rest) pos) (cOr ta tb):=(JZ ha hb).imp fun σ H Q hz=>oH hz fun m ρ S u S' sr lr hc post=>by
 obtain⟨⟨x,S1⟩,h1,h2⟩:=Q2.mp hc;refine⟨m,ρ,S,x,S1,sr,lr,h1,fun m1 H1 e1 sr1=>?_⟩;cases x with
 |true=>cases h2;exact Jm (post m1 H1 e1 sr1)
 |false=>exact Jn ⟨m1,ρ,S1,u,S',sr1,lr.mono e1,h2,post.mono e1⟩
def z7(ha:QT X a ta):QT X (.UnaryOp .Not a pos) (Jq ta):=(GA ha).imp fun σ H Q hz=>oH hz fun m ρ S u S' sr lr hc post=>by
 obtain⟨⟨x,S1⟩,h1,h2⟩:=Q2.mp hc;cases h2;exact⟨m,ρ,S,x,_,sr,lr,h1,fun m1 H1 e1 sr1=>post m1 H1 e1 sr1⟩
def yG(ca cb:CE):CE:=fun ρ S=>(ca ρ S).bind fun p=>match p.1 with
 |.bl true=>cb ρ p.2
 |.bl false=>some (.bl false,p.2)
 |_=>none
def MG(ca cb:CE):CE:=fun ρ S=>(ca ρ S).bind fun p=>match p.1 with
 |.bl false=>cb ρ p.2
 |.bl true=>some (.bl true,p.2)
 |_=>none
def EB(ca:CE):CE:=fun ρ S=>(ca ρ S).bind fun p=>match p.1 with
 |.bl b=>some (.bl (!b),p.2)
 |_=>none
def z8{op}(h:QE X a ca):QE X (.BoolOp op [a] pos) ca:=GL h
def Ad(ha:QE X a ca)(hb:QE X (.BoolOp .And (b::rest) pos) cb):QE X (.BoolOp .And (a::b::rest) pos) (yG ca cb):=(GV ha hb).imp fun σ H Q hz=>oH hz fun m ρ S u S' sr lr hc post=>by
 obtain⟨⟨x,S1⟩,h1,h2⟩:=Q2.mp hc;refine⟨m,ρ,S,x,S1,sr,lr,h1,fun m1 v1 H1 e1 sr1 i1=>?_⟩;cases x with
 |bl k=>
  refine⟨k,i1.of_bl,?_⟩;cases k with
  |true=>exact Jm ⟨m1,ρ,S1,u,S',sr1,lr.mono e1,h2,post.mono e1⟩
  |false=>cases h2;exact Jn (post m1 _ H1 e1 sr1 .bl_)
 |_=>simp at h2
def KA(ha:QE X a ca)(hb:QE X (.BoolOp .Or (b::rest) pos) cb):QE X (.BoolOp .Or (a::b::rest) pos) (MG ca cb):=(J3 ha hb).imp fun σ H Q hz=>oH hz fun m ρ S u S' sr lr hc post=>by
 obtain⟨⟨x,S1⟩,h1,h2⟩:=Q2.mp hc;refine⟨m,ρ,S,x,S1,sr,lr,h1,fun m1 v1 H1 e1 sr1 i1=>?_⟩;cases x with
 |bl k=>
  refine⟨k,i1.of_bl,?_⟩;cases k with
  |false=>exact Jn ⟨m1,ρ,S1,u,S',sr1,lr.mono e1,h2,post.mono e1⟩
  |true=>cases h2;exact Jm (post m1 _ H1 e1 sr1 .bl_)
 |_=>simp at h2
def KC(ha:QE X a ca):QE X (.UnaryOp .Not a pos) (EB ca):=(GN ha).imp fun σ H Q hz=>oH hz fun m ρ S u S' sr lr hc post=>by
 obtain⟨⟨x,S1⟩,h1,h2⟩:=Q2.mp hc;refine⟨m,ρ,S,x,S1,sr,lr,h1,fun m1 v1 H1 e1 sr1 i1=>?_⟩;cases x with
 |bl k=>cases h2;exact⟨k,i1.of_bl,post m1 _ H1 e1 sr1 .bl_⟩
 |_=>simp at h2
def ay:CA:=fun _ S=>some ([],S)
def ag(ca:CE)(cr:CA):CA:=fun ρ S=>(ca ρ S).bind fun p=>(cr ρ p.2).bind fun q=>some (p.1::q.1,q.2)
def av:QA X [] ay:=⟨zq.imp fun σ H Q hz=>oH hz fun m ρ S u S' sr lr hc post=>by cases hc;exact post m [] H .refl sr .nil_,fun ρ S us S' h=>by cases h;rfl⟩
def ae(ha:QE X e ca)(hr:QA X es cr)(hs:Z9 (e::es) X.env=(false,eval e X.env)::Z9 es X.env:=by rfl):QA X (e::es) (ag ca cr):=⟨(wC ha hr.h hs).imp fun σ H Q hz=>oH hz fun m ρ S u S' sr lr hc post=>by
 obtain⟨⟨x,S1⟩,h1,h⟩:=Q2.mp hc;obtain⟨⟨y,S2⟩,h2,h3⟩:=Q2.mp h;cases h3;exact⟨m,ρ,S,x,S1,sr,lr,h1,fun m1 v1 H1 e1 sr1 i1=>⟨m1,ρ,S1,y,S2,sr1,lr.mono e1,h2,fun m2 v2 H2 e2 sr2 i2=>post m2 _ H2 (e1.trans e2) sr2 (.cons_ (i1.mono e2) i2)⟩⟩,
 fun ρ S us S' h=>by
 obtain⟨⟨x,S1⟩,h1,h⟩:=Q2.mp h;obtain⟨⟨y,S2⟩,h2,h3⟩:=Q2.mp h;cases h3;simp[hr.len ρ S1 y S2 h2]⟩
def iU(cr:CA):CE:=fun ρ S=>(cr ρ S).bind fun p=>some (.tup p.1,p.2)
def hX(cr:CA):CE:=fun ρ S=>(cr ρ S).bind fun p=>some (.ref p.2.length,p.2++[.lst p.1])
def fM{m:List Addr}{S:Sto}{q:Addr}(h:m.length=S.length):(m++[q])[S.length]?=some q:=by rw[Zu ⋯];simp[h]
def qZ{K:Q3}{m:List Addr}{H:Hp}{S:Sto}{us:List U}{xs:List V}{Q:VK}{p:Addr}(sr:Sr K m S H)(i:IsL K m H xs us)(post:kX K m H Q (.tup us) S)(hp:H p=none):Q (.ref p) (upd H p (.tup xs)):=
 post m _ _ (.of (cL hp _)) (sr.same (iF hp _)) (.tup_ (SqT.of aJ) (i.mono (.of (cL hp _))))
def fH{K:Q3}{m:List Addr}{H:Hp}{S:Sto}{us:List U}{xs:List V}{Q:VK}{p:Addr}(sr:Sr K m S H)(i:IsL K m H xs us)(post:kX K m H Q (.ref S.length) (S++[.lst us]))(hp:H p=none):Q (.ref p) (upd H p (.lst xs)):=
 post (m++[p]) _ _ (.new (cL hp _)) (sr.new hp ⟨xs,aJ,i.mono (.new (cL hp _))⟩) (.ref_ (fM sr.len))
def dz{x1}(h:QA X es cr)(hl:es.length<=1000:=by exact Zb rfl):QE X (.Tuple es x1 pos) (iU cr):=(GJ h.h).imp fun σ H Q hz=>oH hz fun m ρ S u S' sr lr hc post=>by
 obtain⟨⟨us,S1⟩,h1,h2⟩:=Q2.mp hc;cases h2;refine⟨m,ρ,S,us,_,sr,lr,h1,fun m1 v1 H1 e1 sr1 i1=>⟨tw ?_,fun p hp=>qZ sr1 i1 (post.mono e1) hp⟩⟩;rw[i1.length,h.len _ _ _ _ h1];exact hl
def gn(h:QA X es cr)(hl:es.length<=1000:=by exact Zb rfl):QE X (.List es pos) (hX cr):=(GP h.h).imp fun σ H Q hz=>oH hz fun m ρ S u S' sr lr hc post=>by
 obtain⟨⟨us,S1⟩,h1,h2⟩:=Q2.mp hc;cases h2;refine⟨m,ρ,S,us,_,sr,lr,h1,fun m1 v1 H1 e1 sr1 i1=>⟨tw ?_,fun p hp=>fH sr1 i1 (post.mono e1) hp⟩⟩;rw[i1.length,h.len _ _ _ _ h1];exact hl
def cCB(f:List U->Sto->Option (U×Sto))(cr:CA):CE:=fun ρ S=>(cr ρ S).bind fun p=>f p.1 p.2
def mO(K:Q3)(r:List V->Hp->VK->Prop)(f:List U->Sto->Option (U×Sto)):Prop:=
 ∀m S H us vs u S' Q,Sr K m S H->IsL K m H vs us->f us S=some (u,S')->kX K m H Q u S'->r vs H Q
def Ga{K:Q3}{r:List V->Hp->VK->Prop}{f:List U->Sto->Option (U×Sto)}(hp:mO K r f):∀σ H Q,tE K (cCB f cr) σ H Q->tCB r (tA K cr) σ H Q:=by
 rintro σ H Q ⟨m,ρ,S,u,S',sr,lr,hc,post⟩;obtain⟨⟨us,S1⟩,h1,h2⟩:=Q2.mp hc;exact⟨m,ρ,S,us,S1,sr,lr,h1,fun m1 v1 H1 e1 sr1 i1=>hp m1 S1 H1 us v1 u S' Q sr1 i1 h2 (post.mono e1)⟩
def cU{id:String}{x:Str}{p:Pos}{r:List V->Hp->VK->Prop}{f:List U->Sto->Option (U×Sto)}(hc:hV X (.builtin id) r)(hp:mO X.K r f)(hg:Gl X x)(hm:X.mg x=none)(hv:Zn x=some (.builtin id))(ha:QA X (e::es) cr)(hn:x≠"__name__":=by decide)(hdb:(x == ("__debug__":Str))=false:=by decide)(he:Z9 (e::es) X.env=(false,eval e X.env)::Z9 es X.env:=by rfl)(hpl:(Zi pos (Z9 es X.env)).any (·.1)=false:=by rfl) :
  QE X (.Call (.Name x p) (e::es) [] pos) (cCB f cr):=(zm hc hg hm hv ha.h hn hdb he hpl).imp (Ga hp)
def iG{id:String}{x:Str}{p:Pos}{r:List V->Hp->VK->Prop}{f:List U->Sto->Option (U×Sto)}(hc:hV X (.type id) r)(hp:mO X.K r f)(hg:Gl X x)(hm:X.mg x=none)(hv:Zn x=some (.type id))(ha:QA X (e::es) cr)(hn:x≠"__name__":=by decide)(hdb:(x == ("__debug__":Str))=false:=by decide)(he:Z9 (e::es) X.env=(false,eval e X.env)::Z9 es X.env:=by rfl)(hpl:(Zi pos (Z9 es X.env)).any (·.1)=false:=by rfl) :
  QE X (.Call (.Name x p) (e::es) [] pos) (cCB f cr):=(yc hc hg hm hv ha.h hn hdb he hpl).imp (Ga hp)
end
def Cb(K:Q3)(f:List U->Sto->Option (U×Sto)):Sp:=fun vs H Q _=>∃m us S u S',IsL K m H vs us/\Sr K m S H/\f us S=some (u,S')/\kX K m H Q u S'
abbrev Fn:=List U->Sto->Option (U×Sto)
abbrev yR(P:ZI)(w:Zk)(K:Q3)(mg:Str->Option Q4)(base:Heap)(x:Str)(k:Nat)(ps:List Str)(f:Fn):Prop:=Has P w K mg base x k ps (Cb K f)
def tm(n:Nat)(us:List U):Rho:=us.map some++ZQ (n-us.length) none
def fnU(n k:Nat)(c:CS):Fn:=fun us S=>if us.length=k then(c (tm n us) S).bind fun r=>match r.1 with
 |.rt u=>some (u,r.2.2)
 |.nx=>some (.non,r.2.2)
 |_=>none else none
section
variable{P:ZI}{w:Zk}{mg:Str->Option Q4}{base:Heap}{x:Str}{st:Zv}{ps N:List Str}{k:Nat}{c:CS}{f:Fn}
def DV{m:List Addr}{H:Hp}{vs:List V}{us:List U}(i:IsL K m H vs us):Lr K m H (tm N.length us) (L2.j9 N vs):=by
 have hl:=i.length;refine⟨by simp[tm,L2.j9,hl],fun j u e=>?_⟩;unfold tm at e;unfold L2.j9;by_cases c:j<us.length;rw[Zh (by simpa using c),ZP]at e;rw[Zh (by simpa [hl] using c),ZP];rw[Z7 c]at e;simp at e;obtain⟨v,e1,e2⟩:=i.getD (Z7 c);rw[e1];subst e;exact⟨v,rfl,e2⟩
 ·rw[Zu (by simpa using c),XG]at e;split at e<;>cases e
def rK{X:Cx}{body:List Zv}{Q:VK}{E:XK}{vs:List V}{H:Hp}(hK:X.K=K)(h:Cb K (fnU N.length ps.length c) vs H Q E):tS X.K c { nx:=fun _ H'=>Q .non H',rt:=Q } (L2.j9 N vs) H:=by
 subst hK;obtain⟨m,us,S,u,S',i,sr,hf,post⟩:=h;unfold fnU at hf;split at hf;obtain⟨⟨o,ρ',S2⟩,h1,h2⟩:=Q2.mp hf;refine⟨m,_,S,o,ρ',S2,sr,DV i,h1,?_⟩;cases o with
 |rt v=>cases h2;exact post
 |nx=>cases h2;exact fun m1 σ1 H1 e1 sr1 _=>post m1 _ H1 e1 sr1 .non_
 |bk=>simp at h2
 |ct=>simp at h2
 cases hf
def mS{vs:List V}{H:Hp}{Q:VK}{E:XK}{n k:Nat}(h:Cb K (fnU n k c) vs H Q E):vs.length=k:=by
 obtain⟨m,us,S,u,S',i,sr,hf,post⟩:=h;unfold fnU at hf;split at hf;rename_i e;rw[i.length,e];cases hf
def _root_.OG.Def.pure(d:Def K mg x st ps)(S:cP N ps (aA st))
  (hb:∀(f:Addr) (cdv:Q4) (A:Zy) (outer:List Env) (s:Q5) (H:Hp) (E:XK),fb k (A.deeper (envOfC x (aA st) s.heap.objs.size f cdv))->
   WSs (oK CX0 P w K mg base N x (aA st) f cdv A outer s H E).nox (bN st) (tS K c)):yR P w K mg base x (k+1) ps (fnU N.length ps.length c):=
 d.has S (fun vs H Q E h=>mS h) fun f cdv A outer s H vs Q E hr h=>⟨_,hb f cdv A outer s H E hr,rK (X:=(oK CX0 P w K mg base N x (aA st) f cdv A outer s H E).nox) (body:=[]) (ps:=ps) rfl h⟩
def _root_.OG.Def.no(d:Def K mg x st ps):yR P w K mg base x k ps (fun _ _=>none):=d.none fun vs H Q E h=>by
 obtain⟨m,us,S,u,S',i,sr,hf,post⟩:=h;cases hf
def bT{X:Cx}{e:ZR}{es:List ZR}{cr:CA}{p pos:Pos}(F:Has X.prog X.w X.K X.mg X.base x k ps (Cb X.K f))(hr:fb k X.A)(hg:Gl X x)(ha:QA X (e::es) cr)
  (hdb:(x == ("__debug__":Str))=false:=by decide) (he:Z9 (e::es) X.env=(false,eval e X.env)::Z9 es X.env:=by rfl) (hpl:(Zi pos (Z9 es X.env)).any (·.1)=false:=by rfl) :
  QE X (.Call (.Name x p) (e::es) [] pos) (cCB f cr):=(J6 F hr hg ha.h hdb he hpl).imp fun σ H Q hz=>oH hz fun m ρ S u S' sr lr hc post=>by
 obtain⟨⟨us,S1⟩,h1,h2⟩:=Q2.mp hc;exact⟨m,ρ,S,us,S1,sr,lr,h1,fun m1 v1 H1 e1 sr1 i1=>⟨m1,us,S1,u,S',by simpa using i1,sr1,h2,post.mono e1⟩⟩
end
variable{c1 c2:CS}
section
variable{a:ZR}{st:Zv}
def bW:CS:=fun ρ S=>some (.nx,ρ,S)
def aS(c1 c2:CS):CS:=fun ρ S=>(c1 ρ S).bind fun r=>match r.1 with
 |.nx=>c2 r.2.1 r.2.2
 |o=>some (o,r.2.1,r.2.2)
def bw:QSs X [] bW:=Cp.imp fun D σ H hz=>xw hz fun m ρ S o ρ' S' sr lr hc post=>by cases hc;exact post m σ H .refl sr lr
def aq(h1:QS X st c1)(h2:QSs X sts c2):QSs X (st::sts) (aS c1 c2):=(yZ h1 h2).imp fun D σ H hz=>xw hz fun m ρ S o ρ' S' sr lr hc post=>by
 obtain⟨⟨o1,ρ1,S1⟩,h1,h2⟩:=Q2.mp hc;refine⟨m,ρ,S,o1,ρ1,S1,sr,lr,h1,?_⟩;cases o1 with
 |nx=>exact fun m1 σ1 H1 e1 sr1 lr1=>⟨m1,ρ1,S1,o,ρ',S',sr1,lr1,h2,post.mono e1⟩
 |rt u=>cases h2;exact post
 |bk=>cases h2;exact post
 |ct=>cases h2;exact post
def aN(h1:QS X st c1):QSs X [st] c1:=Co h1
def C2:QS X (.Break pos) (fun ρ S=>some (.bk,ρ,S)):=zd.imp fun D σ H hz=>xw hz fun m ρ S o ρ' S' sr lr hc post=>by cases hc;exact post m σ H .refl sr lr
def uN:CS:=fun _ _=>none
def mV:QS X st uN:=zb.imp fun D σ H hz=>xw hz fun m ρ S o ρ' S' sr lr hc post=>by cases hc
def bR(ca:CE):CS:=fun ρ S=>(ca ρ S).bind fun p=>some (.nx,ρ,p.2)
def aW(he:QE X e ca)(hs:XT e none pos.line X.env=pure false:=by rfl):QS X (.Expr e pos) (bR ca):=(Cq he hs).imp fun D σ H hz=>xw hz fun m ρ S o ρ' S' sr lr hc post=>by
 obtain⟨⟨u,S1⟩,h1,h2⟩:=Q2.mp hc;cases h2;exact⟨m,ρ,S,u,_,sr,lr,h1,fun m1 v1 H1 e1 sr1 i1=>post m1 σ H1 e1 sr1 (lr.mono e1)⟩
def b7(ca:CE):CS:=fun ρ S=>(ca ρ S).bind fun p=>some (.rt p.1,ρ,p.2)
def tL(he:QE X e ca):QS X (.Return (some e) pos) (b7 ca):=(GC he).imp fun D σ H hz=>xw hz fun m ρ S o ρ' S' sr lr hc post=>by
 obtain⟨⟨u,S1⟩,h1,h2⟩:=Q2.mp hc;cases h2;exact⟨m,ρ,S,u,_,sr,lr,h1,post⟩
noncomputable def dY(t:CT)(c1 c2:CS):CS:=fun ρ S=>(t ρ S).bind fun p=>if p.1=true then c1 ρ p.2 else c2 ρ p.2
def bD{t:CT}{s1 s2:List Zv}(hc:QT X c t)(h1:QSs X s1 c1)(h2:QSs X s2 c2):QS X (.If c s1 s2 pos) (dY t c1 c2):=(J0 hc h1 h2).imp fun D σ H hz=>xw hz fun m ρ S o ρ' S' sr lr hc post=>by
 obtain⟨⟨x,S1⟩,h1,h2⟩:=Q2.mp hc;refine⟨m,ρ,S,x,S1,sr,lr,h1,fun m1 H1 e1 sr1=>?_⟩;cases x with
 |true=>exact Jm ⟨m1,ρ,S1,o,ρ',S',sr1,lr.mono e1,h2,post.mono e1⟩
 |false=>exact Jn ⟨m1,ρ,S1,o,ρ',S',sr1,lr.mono e1,h2,post.mono e1⟩
abbrev CG:=U->Rho->Sto->Option (Rho×Sto)
def tG(K:Q3)(g:CG):TG:=fun v σ H Q=>∃m ρ S u ρ' S',Sr K m S H/\Lr K m H ρ σ/\Is K m H v u/\g u ρ S=some (ρ',S')/\jt K m H Q ρ' S'
abbrev QG(X:Cx)(e:ZR)(g:CG):Prop:=WG X e (tG X.K g)
def gNm(i:Nat):CG:=fun u ρ S=>some (ρ.set i (some u),S)
def bS{i:Nat}(h:WG X e (yz i)):QG X e (gNm i):=h.imp fun v σ H Q hz=>Qr hz fun m ρ S u ρ' S' sr lr iu hc post=>by
 cases hc;exact post m _ H .refl sr (lr.set i iu)
def iZ:List Nat->List U->Rho->Option Rho
 |[],[],ρ=>some ρ
 |i::is,u::us,ρ=>iZ is us (ρ.set i (some u))
 |_,_,_=>none
def tGs(K:Q3)(is:List Nat):TGs:=fun vs σ H Q=>∃m ρ S us ρ',Sr K m S H/\Lr K m H ρ σ/\IsL K m H vs us/\iZ is us ρ=some ρ'/\jt K m H Q ρ' S
abbrev QGs(X:Cx)(es:List ZR)(is:List Nat):Prop:=WGs X es (tGs X.K is)
def vt:QGs X [] []:=Cv.imp fun v σ H Q ⟨m,ρ,S,us,ρ',sr,lr,iu,hc,post⟩=>by
 cases us with
 |nil=>cases hc;exact⟨iu.of_nil,post m σ H .refl sr lr⟩
 |cons a r=>simp[iZ]at hc
def jv{i:Nat}{is:List Nat}{es:List ZR}(h:WG X e (yz i))(h2:QGs X es is)(hs:(assignEach (e::es) X.env).map (·.2)=assign e X.env::(assignEach es X.env).map (·.2):=by rfl):QGs X (e::es) (i::is):=(ze h h2 hs).imp fun v σ H Q ⟨m,ρ,S,us,ρ',sr,lr,iu,hc,post⟩=>by
 cases us with
 |nil=>simp[iZ]at hc
 |cons u r=>
  obtain⟨x,xr,rfl,i1,i2⟩:=iu.of_cons;exact⟨x,xr,rfl,m,ρ.set i (some u),S,r,ρ',sr,lr.set i i1,i2,hc,post⟩
def gTp(is:List Nat):CG:=fun u ρ S=>match u with
 |.tup us=>(iZ is us ρ).bind fun ρ'=>some (ρ',S)
 |_=>none
def p8:∀{is:List Nat} {us:List U} {ρ ρ':Rho},iZ is us ρ=some ρ'->us.length=is.length
 |[],[],_,_,_=>rfl
 |[],_::_,_,_,h=>by simp[iZ]at h
 |_::_,[],_,_,h=>by simp[iZ]at h
 |i::is,u::us,ρ,ρ',h=>by
  have:=p8 (is:=is) (us:=us) h;simp[this]
def z6{is:List Nat}{es:List ZR}{k:Nat}(hc:X.calm=true)(h:QGs X es is)(hn:(assignEach es X.env).length=is.length:=by rfl)(hst:(assignEach es X.env).findIdx? (·.1)=none:=by rfl):QG X (.Tuple es k pos) (gTp is):=(GH hc h hn hst).imp fun v σ H Q hz=>Qr hz fun m ρ S u ρ' S' sr lr iu hc post=>by
 cases u with
 |tup us=>
  obtain⟨ρ2,h1,h2⟩:=Q2.mp hc;cases h2;obtain⟨a,xs,rfl,sq,il⟩:=iu.of_tup;refine⟨a,xs,rfl,sq,?_,m,ρ,S,us,ρ',sr,lr,il,h1,post⟩;rw[il.length];exact p8 h1
 |_=>simp[gTp]at hc
def cQ(i:Nat)(ca:CE):CS:=fun ρ S=>(ca ρ S).bind fun p=>some (.nx,ρ.set i (some p.1),p.2)
def Kz{i:Nat}{x:Str}{pos':Pos}(hN:X.N.Nodup)(hi:X.N[i]?=some x)(hx:Loc X.env.scope x)(he:QE X e ca)(hs:XT e (some (.Name x pos')) pos.line X.env=pure false:=by rfl)(hf:X.fn x=true\/X.env.scope.names.lookup x=some .local:=by first|exact .inl rfl|exact .inr rfl|assumption) :
  QS X (.Assign [.Name x pos'] e pos) (cQ i ca):=(GB hN hi hx he hs hf).imp fun D σ H hz=>xw hz fun m ρ S o ρ' S' sr lr hc post=>by
 obtain⟨⟨u,S1⟩,h1,h2⟩:=Q2.mp hc;cases h2;exact⟨m,ρ,S,u,_,sr,lr,h1,fun m1 v1 H1 e1 sr1 i1=>post m1 _ H1 e1 sr1 ((lr.mono e1).set i i1)⟩
abbrev CI:=Rho->Sto->Option (List U×(Sto->Prop)×Sto)
def ET(K:Q3)(J:It)(m:List Addr)(H:Hp)(us:List U)(ok:Sto->Prop):Prop:=∀m2 S2 H2 i,Ext K m H m2 H2->Sr K m2 S2 H2->ok S2->
 (∀u,us[i]?=some u->J.go i H2/\∀x H3,J.yld i H2 x H3->Ext K m2 H2 m2 H3/\Sr K m2 S2 H3/\Is K m2 H3 x u)/\(us.length<=i->J.stop i H2)
def tI(K:Q3)(ci:CI):TI:=fun σ H R=>∃m ρ S us ok S',Sr K m S H/\Lr K m H ρ σ/\ci ρ S=some (us,ok,S')/\∀m' H' J,Ext K m H m' H'->Sr K m' S' H'->ET K J m' H' us ok->R J H'
abbrev QI(X:Cx)(tg iter:ZR)(ci:CI):Prop:=WI X tg iter (tI X.K ci)
open Classical in
def fu(ok:Sto->Prop)(g:CG)(cb:CS):List U->CS
 |[]=>fun ρ S=>if ok S then some (.nx,ρ,S)else none
 |u::us=>fun ρ S=>if ok S then(g u ρ S).bind fun p=>(cb p.1 p.2).bind fun r=>match r.1 with
  |.nx=>fu ok g cb us r.2.1 r.2.2
  |.ct=>fu ok g cb us r.2.1 r.2.2
  |.bk=>some (.nx,r.2.1,r.2.2)
  |.rt v=>some (.rt v,r.2.1,r.2.2)else none
def oP(ci:CI)(g:CG)(cb:CS):CS:=fun ρ S=>(ci ρ S).bind fun p=>fu p.2.1 g cb p.1 ρ p.2.2
def oJ{α:Type}{us:List α}{i:Nat}{u:α}(h:us[i]?=some u):us.drop i=u::us.drop (i+1):=by
 obtain⟨hl,e⟩:=Q6.mp h;rw[List.drop_eq_getElem_cons hl,e]
def w6{K:Q3}{g:CG}{cb:CS}{J:It}{us:List U}{ok:Sto->Prop}{D:Cj}{m1:List Addr}{H1:Hp}{ρ ρ':Rho}{σ:L2.St}{S1 S':Sto}{o:Out}(sr1:Sr K m1 S1 H1)(lr1:Lr K m1 H1 ρ σ)(ito:ET K J m1 H1 us ok)(h2:fu ok g cb us ρ S1=some (o,ρ',S'))(post:yJ K m1 H1 D o ρ' S') :
  ∃W:Nat->Nat->L2.St->Hp->Prop,(∃n,W 0 n σ H1)/\∀i n σ H,W i n σ H->
   (J.stop i H/\D.nx σ H)\/(J.go i H/\∃N:L2.St->Hp->Prop,(∀σ' H',N σ' H'->∃n',n'<n/\W (i+1) n' σ' H')/\∀x H',J.yld i H x H'->tG K g x σ H' fun σ2 H2=>tS K cb { D with nx:=N,ct:=N,bk:=D.nx } σ2 H2):=by
 let W:Nat->Nat->L2.St->Hp->Prop:=fun i n σ2 H2=>n=us.length-i/\i<=us.length/\∃m2 ρ2 S2,Ext K m1 H1 m2 H2/\Sr K m2 S2 H2/\Lr K m2 H2 ρ2 σ2/\fu ok g cb (us.drop i) ρ2 S2=some (o,ρ',S')
 refine⟨W,⟨us.length,nofun,Zp _,m1,ρ,S1,.refl,sr1,lr1,by simpa using h2⟩,?_⟩;rintro i n σ2 H2 ⟨rfl,hi,m2,ρ2,S2,e2,sr2,lr2,hl⟩;by_cases hlt:i<us.length;have hu:=Z7 hlt;rw[oJ hu]at hl;unfold fu at hl;split at hl;rename_i hok;obtain⟨⟨ρ3,S3⟩,h3,hl⟩:=Q2.mp hl;obtain⟨⟨o4,ρ4,S4⟩,h4,hl⟩:=Q2.mp hl;obtain⟨hgo,hy⟩:=(ito m2 S2 H2 i e2 sr2 hok).1 _ hu;refine .inr ⟨hgo,W (i+1) (us.length-(i+1)),fun σ' H' w'=>⟨_,⋯,w'⟩,fun x H3 y=>?_⟩;obtain⟨e3,sr3,ix⟩:=hy x H3 y;refine⟨m2,ρ2,S2,_,ρ3,S3,sr3,lr2.mono e3,ix,h3,fun m4 σ4 H4 e4 sr4 lr4=>⟨m4,ρ3,S3,o4,ρ4,S4,sr4,lr4,h4,?_⟩⟩;have e14:=(e2.trans e3).trans e4;have nxt:fu ok g cb (us.drop (i+1)) ρ4 S4=some (o,ρ',S')->jt K m4 H4 (W (i+1) (us.length-(i+1))) ρ4 S4:=fun hn m5 σ5 H5 e5 sr5 lr5=>⟨rfl,hlt,m5,ρ4,S4,e14.trans e5,sr5,lr5,hn⟩;cases o4 with
 |nx=>exact nxt hl
 |ct=>exact nxt hl
 |bk=>cases hl;exact jt.mono e14 post
 |rt v=>cases hl;exact kX.mono e14 post
 cases hl;have e:i=us.length:=by omega
 subst e;rw[List.drop_length]at hl;unfold fu at hl;split at hl;rename_i hok;cases hl;exact .inl ⟨(ito m2 _ H2 _ e2 sr2 hok).2 (Z6 _),post m2 σ2 H2 e2 sr2 lr2⟩;cases hl
def II{K:Q3}{ci:CI}{g:CG}{cb:CS}:∀D σ H,tS K (oP ci g cb) D σ H->MY (tI K ci) (tG K g) (tS K cb) D σ H:=by
 rintro D σ H ⟨m,ρ,S,o,ρ',S',sr,lr,hc,post⟩;obtain⟨⟨us,ok,S1⟩,h1,h2⟩:=Q2.mp hc;exact⟨m,ρ,S,us,ok,S1,sr,lr,h1,fun m1 H1 J e1 sr1 ito=>w6 sr1 (lr.mono e1) ito h2 (yJ.mono e1 post)⟩
def mG{tg iter:ZR}{body:List Zv}{ci:CI}{g:CG}{cb:CS}(hp:PassesOwn (ZL X.prog X.w) X.A X.env X.xe)(hc:X.calm=true)(hi:QI X tg iter ci)(hg:QG X tg g)(hb:QSs X body cb)(hs:∀x,foldedSetIterable iter X.env x=pure x:=by intro _;rfl):QS X (.For tg iter body [] pos) (oP ci g cb):=(zc hp hc hi hg hb hs).imp II
def gD(t:CT)(cb:CS):Nat->CS
 |0=>fun _ _=>none
 |n+1=>fun ρ S=>(t ρ S).bind fun p=>if p.1=true then(cb ρ p.2).bind fun r=>match r.1 with
  |.nx=>gD t cb n r.2.1 r.2.2
  |.ct=>gD t cb n r.2.1 r.2.2
  |.bk=>some (.nx,r.2.1,r.2.2)
  |.rt v=>some (.rt v,r.2.1,r.2.2)else some (.nx,ρ,p.2)
def zv{K:Q3}{t:CT}{cb:CS}{n:Nat}:∀D σ H,tS K (gD t cb n) D σ H->zK (tT K t) (tS K cb) D σ H:=by
 rintro D σ H ⟨m,ρ,S,o,ρ',S',sr,lr,hc,post⟩;let W:Nat->L2.St->Hp->Prop:=fun n σ2 H2=>∃m2 ρ2 S2,Ext K m H m2 H2/\Sr K m2 S2 H2/\Lr K m2 H2 ρ2 σ2/\gD t cb n ρ2 S2=some (o,ρ',S')
 refine⟨W,⟨n,m,ρ,S,.refl,sr,lr,hc⟩,?_⟩;rintro k σ2 H2 ⟨m2,ρ2,S2,e2,sr2,lr2,hl⟩;cases k with
 |zero=>cases hl
 |succ k=>
  unfold gD at hl;obtain⟨⟨x,S3⟩,h3,hl⟩:=Q2.mp hl;refine⟨m2,ρ2,S2,x,S3,sr2,lr2,h3,fun m3 H3 e3 sr3=>?_⟩;have e13:=e2.trans e3;cases x with
  |true=>
   rw[Xd rfl]at hl;refine Jm ?_;obtain⟨⟨o4,ρ4,S4⟩,h4,hl⟩:=Q2.mp hl;refine⟨W k,fun σ' H' w'=>⟨k,Nat.lt_succ_self _,w'⟩,m3,ρ2,S3,o4,ρ4,S4,sr3,lr2.mono e3,h4,?_⟩;have nxt:gD t cb k ρ4 S4=some (o,ρ',S')->jt K m3 H3 (W k) ρ4 S4:=fun hn m5 σ5 H5 e5 sr5 lr5=>⟨m5,ρ4,S4,e13.trans e5,sr5,lr5,hn⟩;cases o4 with
   |nx=>exact nxt hl
   |ct=>exact nxt hl
   |bk=>cases hl;exact jt.mono e13 post
   |rt v=>cases hl;exact kX.mono e13 post
  |false=>
   rw[Xf Z8]at hl;refine Jn ?_;cases hl;exact post m3 σ2 H3 e13 sr3 (lr2.mono e3)
def C1{body:List Zv}{t:CT}{cb:CS}(n:Nat)(hp:PassesOwn (ZL X.prog X.w) X.A X.env X.xe)(hc:QT X c t)(hb:QSs X body cb):QS X (.While c body [] pos) (gD t cb n):=(za hp hc hb).imp zv
def iTp(ca:CE):CI:=fun ρ S=>(ca ρ S).bind fun p=>match p.1 with
 |.tup us=>some (us,fun _=>True,p.2)
 |.ref l=>match p.2[l]? with
  |some (.lst us)=>some (us,fun S=>S[l]?=some (.lst us),p.2)
  |_=>none
 |_=>none
def LZ{K:Q3}{m:List Addr}{H:Hp}{us:List U}{a:Addr}{xs:List V}(sq:SqT K H a xs)(il:IsL K m H xs us):ET K (Itt K a) m H us (fun _=>True):=by
 intro m2 S2 H2 i e2 sr2 _;have sq2:=e2.keep.t _ _ sq;have il2:=il.mono e2;refine⟨fun u hu=>?_,fun hi=>⟨xs,sq2,by rw[il2.length];exact hi⟩⟩;obtain⟨x,hx,ix⟩:=il2.getD hu;refine⟨⟨xs,x,sq2,hx⟩,fun y H3 hy=>?_⟩;obtain⟨rfl,hy⟩:=hy;have:=hy xs sq2;rw[hx]at this;cases this;exact⟨.refl,sr2,ix⟩
def L3{K:Q3}{m:List Addr}{H:Hp}{us:List U}{a:Addr}{l:Nat}(hl:m[l]?=some a):ET K (Itl K a) m H us (fun S=>S[l]?=some (.lst us)):=by
 intro m2 S2 H2 i e2 sr2 hok;obtain⟨a',ha',xs,hx,il⟩:=sr2.get hok;rw[e2.get hl]at ha';cases ha';refine⟨fun u hu=>?_,fun hi=>⟨xs,SqL.of hx,by rw[il.length];exact hi⟩⟩;obtain⟨x,hx',ix⟩:=il.getD hu;refine⟨⟨xs,x,SqL.of hx,hx'⟩,fun y H3 hy=>?_⟩;obtain⟨rfl,hy⟩:=hy;have:=hy xs (SqL.of hx);rw[hx']at this;cases this;exact⟨.refl,sr2,ix⟩
def jf{tg:ZR}(h:QE X e ca):QI X tg e (iTp ca):=((GG h).or (Cu h)).imp fun σ H R hz=>xw hz fun m ρ S us ok S' sr lr hc post=>by
 obtain⟨⟨u,S1⟩,h1,h2⟩:=Q2.mp hc;cases u with
 |tup ws=>
  cases h2;refine .inl ⟨m,ρ,S,.tup us,_,sr,lr,h1,fun m1 v1 H1 e1 sr1 i1=>?_⟩;obtain⟨a,xs,rfl,sq,il⟩:=i1.of_tup;exact⟨a,rfl,⟨xs,sq⟩,post m1 H1 _ e1 sr1 (LZ sq il)⟩
 |ref l=>
  simp only at h2;split at h2;rename_i us' hS;cases h2;refine .inr ⟨m,ρ,S,.ref l,_,sr,lr,h1,fun m1 v1 H1 e1 sr1 i1=>?_⟩;obtain⟨a,hl,rfl⟩:=i1.of_ref;obtain⟨a',ha',xs,hx,il⟩:=sr1.get hS;rw[hl]at ha';cases ha';exact⟨a,rfl,⟨xs,SqL.of hx⟩,post m1 H1 _ e1 sr1 (L3 hl)⟩;cases h2
 |_=>simp at h2
def jJ(lo:Int)(n:Nat):List U:=(ZF n).map fun i=>.int (lo+(i:Nat))
def Ee{K:Q3}{m:List Addr}{H:Hp}{lo:Int}{n:Nat}:ET K (Itr lo n) m H (jJ lo n) (fun _=>True):=by
 intro m2 S2 H2 i e2 sr2 _;refine⟨fun u hu=>?_,fun hi=>by show n<=i;simpa [jJ] using hi⟩;unfold jJ at hu;rw[ZP]at hu;by_cases c:i<n;rw[XS c]at hu;simp at hu;subst hu;refine⟨c,fun y H3 hy=>?_⟩;obtain⟨rfl,rfl⟩:=hy;exact⟨.refl,sr2,.int_⟩;rw[XW (by simpa using c)]at hu;cases hu
def bA(cr:CA):CI:=fun ρ S=>(cr ρ S).bind fun p=>match p.1 with
 |[.int j]=>if -(2^62)<=j/\j<2^62 then some (jJ 0 j.toNat,fun _=>True,p.2)else none
 |_=>none
def dP{tg:ZR}{cr:CA}{p:Pos}(hg:Gl X "range")(hm:X.mg "range"=none)(ha:QA X [a] cr)(hs:Z9 [a] X.env=[(false,eval a X.env)]:=by rfl):QI X tg (.Call (.Name "range" p) [a] [] pos) (bA cr):=(x8 hg hm ha.h hs).imp fun σ H R hz=>xw hz fun m ρ S us ok S' sr lr hc post=>by
 obtain⟨⟨ws,S1⟩,h1,h2⟩:=Q2.mp hc;simp only at h2;split at h2;rename_i j;split at h2;rename_i hj;cases h2;refine⟨m,ρ,S,_,S',sr,lr,h1,fun m1 v1 H1 e1 sr1 i1=>?_⟩;obtain⟨x,r,rfl,ix,ir⟩:=i1.of_cons;rw[ir.of_nil,ix.of_int];exact⟨j,rfl,hj.1,hj.2,post m1 H1 _ e1 sr1 Ee⟩;cases h2;cases h2
end
def fI(g:Int->Int->Option U):U->U->Sto->Option (U×Sto)
 |.int i,.int j,S=>(g i j).bind fun u=>some (u,S)
 |_,_,_=>none
section
def OW{C:Int->Int->Prop}{gV:Int->Int->V}{g:Int->Int->Option U}(h:∀i j u,g i j=some u->C i j/\∀m H,Is K m H (gV i j) u):OpP K (rI C gV) (fI g):=by
 intro m S H x y v w u S' Q sr ix iy hf post;cases x<;>cases y<;>simp only[fI]at hf<;>try cases hf
 rename_i i j;obtain⟨u1,h1,h2⟩:=Q2.mp hf;cases h2;obtain⟨hc,hi⟩:=h i j u h1;exact⟨i,j,ix.of_int,iy.of_int,hc,post m _ H .refl sr (hi m H)⟩
def Ao{gV:Int->Int->V}{g:Int->Int->Option U}(h:∀i j u,g i j=some u->∀m H,Is K m H (gV i j) u):OpP K (rI0 gV) (fI g):=by
 intro m S H x y v w u S' Q sr ix iy hf post;cases x<;>cases y<;>simp only[fI]at hf<;>try cases hf
 rename_i i j;obtain⟨u1,h1,h2⟩:=Q2.mp hf;cases h2;exact⟨i,j,ix.of_int,iy.of_int,post m _ H .refl sr (h i j u h1 m H)⟩
def C0(K:Q3):R2:=fun x y H Q=>∃a b xs ys,x=.ref a/\y=.ref b/\SqT K H a xs/\SqT K H b ys/\xs.length+ys.length<=ZU/\∀q H',Gd H H'->SqT K H' q (xs++ys)->Q (.ref q) H'
def HS:OpR X (binaryOp .Add) (C0 X.K):=by
 intro pins s σ H x y v u Q I rx ry h;obtain⟨a,b,xs,ys,rfl,rfl,ha,hb,hz,q⟩:=h;by_cases e:xs=[];cases rx;cases ry;obtain⟨its,r1,p1,_⟩:=I.tuple ha;obtain⟨its2,r2,p2,_⟩:=I.tuple hb;refine Ez p1 p2 (r1.nil_iff.mpr e) ⟨.ref b,H,I,rfl,q b H (.refl _) (by rw[e];exact hb)⟩;refine HR pins s σ H _ _ v u Q I rx ry ⟨a,b,xs,ys,rfl,rfl,ha,hb,e,hz,fun z=>q a H (.refl _) (by rw[z,Zj];exact ha),fun _ p hp=>q p _ (iF hp _) (SqT.of aJ)⟩
def Bj:U->U->Sto->Option (U×Sto)
 |.tup a,.tup b,S=>if a.length+b.length<=LIM then some (.tup (a++b),S)else none
 |_,_,_=>none
def DD:OpP K (C0 K) Bj:=by
 intro m S H x y v w u S' Q sr ix iy hf post;cases x<;>cases y<;>simp only[Bj]at hf<;>try cases hf
 split at hf<;>try cases hf
 rename_i hl;obtain⟨a,xs,rfl,sa,la⟩:=ix.of_tup;obtain⟨b,ys,rfl,sb,lb⟩:=iy.of_tup;refine⟨a,b,xs,ys,rfl,rfl,sa,sb,lim (by rw[la.length,lb.length];exact hl),fun q H' s sq=>?_⟩;exact post m _ H' (.of (dQ s)) (sr.same s) (.tup_ sq ((la.append lb).mono (.of (dQ s))))
def rN:U->U->Sto->Option (U×Sto)
 |.ref l,.ref k,S=>match S[l]?,S[k]? with
  |some (.lst a),some (.lst b)=>if a.length+b.length<=LIM then some (.ref S.length,S++[.lst (a++b)])else none
  |_,_=>none
 |_,_,_=>none
def DH:OpP K Na rN:=by
 intro m S H x y v w u S' Q sr ix iy hf post;cases x<;>cases y<;>simp only[rN]at hf<;>try cases hf
 rename_i l k;split at hf<;>try cases hf
 rename_i a b h1 h2;split at hf<;>try cases hf
 rename_i hl;obtain⟨p,hp,rfl⟩:=ix.of_ref;obtain⟨q,hq,rfl⟩:=iy.of_ref;obtain⟨p',hp',xs,hx,il⟩:=sr.get h1;obtain⟨q',hq',ys,hy,il'⟩:=sr.get h2;rw[hp]at hp';cases hp';rw[hq]at hq';cases hq';exact⟨p,q,xs,ys,rfl,rfl,hx,hy,lim (by rw[il.length,il'.length];exact hl),fun r hr=>fH sr (il.append il') post hr⟩
def Bk:U->U->Sto->Option (U×Sto)
 |.str a,.str b,S=>if a.length+b.length<=LIM then some (.str (a++b),S)else none
 |_,_,_=>none
def DG:OpP K (fun x y H Q=>∃i j,x=.str i/\y=.str j/\i.length+j.length<=ZU/\Q (.str (i++j)) H) Bk:=by
 intro m S H x y v w u S' Q sr ix iy hf post;cases x<;>cases y<;>simp only[Bk]at hf<;>try cases hf
 split at hf<;>try cases hf
 rename_i hl;exact⟨_,_,ix.of_str,iy.of_str,lim hl,post m _ H .refl sr .str_⟩
def i8:U->U->Sto->Option (U×Sto)
 |.int i,.int j,S=>some (.int (i+j),S)
 |.tup a,.tup b,S=>if a.length+b.length<=LIM then some (.tup (a++b),S)else none
 |.str a,.str b,S=>if a.length+b.length<=LIM then some (.str (a++b),S)else none
 |.ref l,.ref k,S=>rN (.ref l) (.ref k) S
 |_,_,_=>none
def fK:OpR X (binaryOp .Add) (fun x y H Q=>rI0 (fun i j=>.int (i+j)) x y H Q\/(Na x y H Q\/(C0 X.K x y H Q\/∃i j,x=.str i/\y=.str j/\i.length+j.length<=ZU/\Q (.str (i++j)) H))):=Lu.or (Ls.or (HS.or yn))
def fJ:OpP K (fun x y H Q=>rI0 (fun i j=>.int (i+j)) x y H Q\/(Na x y H Q\/(C0 K x y H Q\/∃i j,x=.str i/\y=.str j/\i.length+j.length<=ZU/\Q (.str (i++j)) H))) i8:=by
 intro m S H x y v w u S' Q sr ix iy hf post;cases x<;>cases y<;>simp only[i8]at hf<;>try cases hf
 exact .inl ⟨_,_,ix.of_int,iy.of_int,post m _ H .refl sr .int_⟩;exact .inr (.inr (.inr (DG m S H _ _ v w u S' Q sr ix iy hf post)));exact .inr (.inr (.inl (DD m S H _ _ v w u S' Q sr ix iy hf post)));exact .inr (.inl (DH m S H _ _ v w u S' Q sr ix iy hf post))
def IK:=fI fun i j=>some (.int (i-j))
def An:OpP K (rI0 fun i j=>.int (i-j)) IK:=Ao fun i j u h m H=>by cases h;exact .int_
instance {i j:Int}:Decidable (B9 i j):=by unfold B9;exact inferInstance
def pH:=fI fun i j=>if B9 i j then some (.int (i*j))else none
def tR:OpP K (rI B9 fun i j=>.int (i*j)) pH:=OW fun i j u h=>by
 split at h;rename_i c;cases h;exact⟨c,fun m H=>.int_⟩;cases h
instance {i j:Int}:Decidable (yL i j):=by unfold yL;exact inferInstance
def FQ:=fI fun i j=>if yL i j then some (.int (i / j))else none
def Ll:OpP K (rI yL fun i j=>.int (i / j)) FQ:=OW fun i j u h=>by
 split at h;rename_i c;cases h;exact⟨c,fun m H=>.int_⟩;cases h
def uC:=fI fun i j=>if 0<j then some (.int (i % j))else none
def vz:OpP K (rI (fun _ j=>0<j) fun i j=>.int (i % j)) uC:=OW fun i j u h=>by
 split at h;rename_i c;cases h;exact⟨c,fun m H=>.int_⟩;cases h
instance {i j:Int}:Decidable (Qv i j):=by unfold Qv;exact inferInstance
def fLt:=fI fun i j=>some (.bl (decide (i<j)))
def fLe:=fI fun i j=>some (.bl (decide (i<=j)))
def fGt:=fI fun i j=>some (.bl (decide (j<i)))
def fGe:=fI fun i j=>some (.bl (decide (j<=i)))
def Lk:OpP K (rI0 fun i j=>.bl (decide (i<j))) fLt:=Ao fun i j u h m H=>by cases h;exact .bl_
def P9:OpP K (rI0 fun i j=>.bl (decide (i<=j))) fLe:=Ao fun i j u h m H=>by cases h;exact .bl_
def Jk:OpP K (rI0 fun i j=>.bl (decide (j<i))) fGt:=Ao fun i j u h m H=>by cases h;exact .bl_
def Qa:OpP K (rI0 fun i j=>.bl (decide (j<=i))) fGe:=Ao fun i j u h m H=>by cases h;exact .bl_
def eqS:U->U->Option Bool
 |.int i,.int j=>some (decide (i=j))
 |.bl i,.bl j=>some (decide (i=j))
 |.str i,.str j=>some (decide (i=j))
 |.non,.non=>some true
 |.non,.int _=>some false|.int _,.non=>some false
 |.non,.bl _=>some false|.bl _,.non=>some false
 |.non,.str _=>some false|.str _,.non=>some false
 |.int _,.str _=>some false|.str _,.int _=>some false
 |.bl _,.str _=>some false|.str _,.bl _=>some false
 |_,_=>none
def fEq:U->U->Sto->Option (U×Sto):=fun x y S=>(eqS x y).bind fun b=>some (.bl b,S)
def fNe:U->U->Sto->Option (U×Sto):=fun x y S=>(eqS x y).bind fun b=>some (.bl (!b),S)
def FU{m:List Addr}{H:Hp}{x y:U}{v w:V}{b:Bool}(ix:Is K m H v x)(iy:Is K m H w y)(h:eqS x y=some b):OA v w=true/\decide (v=w)=b:=by
 cases x<;>cases y<;>simp only[eqS]at h<;>(first|cases h|skip);all_goals
  (first|(have e1:=ix.of_int)|(have e1:=ix.of_bl)|(have e1:=ix.of_str)|(have e1:=ix.of_non))
  (first|(have e2:=iy.of_int)|(have e2:=iy.of_bl)|(have e2:=iy.of_str)|(have e2:=iy.of_non))
  subst e1 e2;exact⟨rfl,nofun⟩
def k6:OpP K rEq fEq:=by
 intro m S H x y v w u S' Q sr ix iy hf post;obtain⟨b,h1,h2⟩:=Q2.mp hf;cases h2;obtain⟨e1,e2⟩:=FU ix iy h1;exact⟨e1,by rw[e2];exact post m _ H .refl sr .bl_⟩
def OX:OpP K rNe fNe:=by
 intro m S H x y v w u S' Q sr ix iy hf post;obtain⟨b,h1,h2⟩:=Q2.mp hf;cases h2;obtain⟨e1,e2⟩:=FU ix iy h1;exact⟨e1,by rw[e2];exact post m _ H .refl sr .bl_⟩
def oZ:U->Bool
 |.non=>true
 |_=>false
def FP:U->U->Sto->Option (U×Sto)
 |x,.non,S=>some (.bl (oZ x),S)
 |_,_,_=>none
def uA:U->U->Sto->Option (U×Sto)
 |x,.non,S=>some (.bl (!oZ x),S)
 |_,_,_=>none
def xm{m:List Addr}{H:Hp}{x:U}{v:V}(ix:Is K m H v x):decide (v=.non)=oZ x:=by
 cases x with
 |non=>rw[ix.of_non];rfl
 |bl b=>rw[ix.of_bl];rfl
 |int i=>rw[ix.of_int];rfl
 |str i=>rw[ix.of_str];rfl
 |tup us=>obtain⟨a,xs,rfl,_⟩:=ix.of_tup;rfl
 |ref l=>obtain⟨a,_,rfl⟩:=ix.of_ref;rfl
 |kl ns=>obtain⟨a,rfl,_⟩:=ix.of_kl;rfl
def Ar:OpP K (fun x y H Q=>y=.non/\Q (.bl (decide (x=.non))) H) FP:=by
 intro m S H x y v w u S' Q sr ix iy hf post;cases y<;>simp only[FP]at hf<;>cases hf;exact⟨iy.of_non,by rw[xm ix];exact post m _ H .refl sr .bl_⟩
def Ap:OpP K (fun x y H Q=>y=.non/\Q (.bl (!decide (x=.non))) H) uA:=by
 intro m S H x y v w u S' Q sr ix iy hf post;cases y<;>simp only[uA]at hf<;>cases hf;exact⟨iy.of_non,by rw[xm ix];exact post m _ H .refl sr .bl_⟩
section
variable{κ:Type}[DecidableEq κ]
def bF{α:Type}(kvs:List (κ×α))(k:κ):Option α:=(kvs.find? fun kv=>decide (kv.1=k)).map (·.2)
def gB{α:Type}(kvs:List (κ×α))(k:κ)(v:α):List (κ×α):=
 if (kvs.any fun kv=>decide (kv.1=k))=true then kvs.map (fun kv=>if kv.1=k then(kv.1,v)else kv)else kvs++[(k,v)]
variable{m:List Addr}{H:Hp}{kvs:List (κ×V)}{kus:List (κ×U)}{k:κ}{v:V}{u:U}
def IsP.val(h:IsP K m H kvs kus):Rf K m H (jw kvs k) (bF kus k):=by
 refine IsP.ind (P:=fun kvs kus=>Rf K m H (jw kvs k) (bF kus k)) trivial (fun k' v u kvs kus i _ ih=>?_) h;by_cases e:k'=k;subst e;simp[jw,bF,Zg,Rf,i];simp only[jw,bF,Zg,Xa e]at ih ⊢;exact ih
def IsP.any_(h:IsP K m H kvs kus):(kvs.any fun kv=>decide (kv.1=k))=(kus.any fun kv=>decide (kv.1=k)):=
 IsP.ind (P:=fun kvs kus=>(kvs.any fun kv=>decide (kv.1=k))=(kus.any fun kv=>decide (kv.1=k))) rfl (fun k' v u kvs kus i _ ih=>by simp only[XN,ih]) h
def IsP.append{kvs':List (κ×V)}{kus':List (κ×U)}(h:IsP K m H kvs kus)(h':IsP K m H kvs' kus'):IsP K m H (kvs++kvs') (kus++kus'):=⟨by simp[h.1,h'.1],by simpa using h.2.append h'.2⟩
def IsP.put(h:IsP K m H kvs kus)(i:Is K m H v u):IsP K m H (sN kvs k v) (gB kus k u):=by
 unfold sN gB;rw[h.any_];split;refine IsP.ind (P:=fun kvs kus=>IsP K m H (kvs.map fun kv=>if kv.1=k then(kv.1,v)else kv) (kus.map fun kv=>if kv.1=k then(kv.1,u)else kv)) .nil_ (fun k' v' u' kvs kus i' _ ih=>?_) h;simp only[ZK];by_cases e:k'=k;simp only[e,if_true];exact .cons_ i ih;simp only[e,if_false];exact .cons_ i' ih;exact h.append (.cons_ i .nil_)
end
def oY:U->Option Key
 |.int i=>some (.inl i)
 |.str x=>some (.inr x)
 |_=>none
def jV{m:List Addr}{H:Hp}{x:U}{v:V}{k:Key}(ix:Is K m H v x)(h:oY x=some k):v=kV k:=by
 cases x<;>simp only[oY]at h<;>cases h;exact ix.of_int;exact ix.of_str
def kQ:U->Bool
 |.non=>true|.bl _=>true|.int _=>true|.str _=>true|_=>false
def eqF:U->U->Bool
 |.non,.non=>true
 |.bl a,.bl b=>a == b
 |.bl a,.int b=>(if a then 1 else 0) == b
 |.int a,.bl b=>a == (if b then 1 else 0)
 |.int a,.int b=>a == b
 |.str a,.str b=>a == b
 |_,_=>false
def inU(x:U)(us:List U):Bool:=us.any fun y=>eqF y x
def vP{m:List Addr}{H:Hp}{x:U}{v:V}(ix:Is K m H v x)(h:kQ x=true):pG v=true:=by
 cases x with
 |non=>rw[ix.of_non];rfl
 |bl b=>rw[ix.of_bl];rfl
 |int i=>rw[ix.of_int];rfl
 |str i=>rw[ix.of_str];rfl
 |tup us=>cases h
 |ref l=>cases h
 |kl l=>cases h
def Mu{m:List Addr}{H:Hp}{x y:U}{v w:V}(ix:Is K m H v x)(iy:Is K m H w y)(hx:kQ x=true)(hy:kQ y=true):eqV v w=eqF x y:=by
 cases x<;>(first|cases hx|skip)<;>cases y<;>(first|cases hy|skip);all_goals
  (first|(have e1:=ix.of_int)|(have e1:=ix.of_bl)|(have e1:=ix.of_str)|(have e1:=ix.of_non))
  (first|(have e2:=iy.of_int)|(have e2:=iy.of_bl)|(have e2:=iy.of_str)|(have e2:=iy.of_non))
  subst e1 e2;rfl
def rL{m:List Addr}{H:Hp}:∀{xs:List V} {us:List U},IsL K m H xs us->us.all kQ=true->xs.all pG=true
 |xs,[],h,_=>by rw[h.of_nil];rfl
 |xs,u::us,h,k=>by
  obtain⟨x,r,rfl,i,t⟩:=h.of_cons;rw[List.all_cons,Xx]at k ⊢;exact⟨vP i k.1,rL t k.2⟩
def A7{m:List Addr}{H:Hp}{x:U}{v:V}(ix:Is K m H v x)(hx:kQ x=true):∀{xs:List V} {us:List U},IsL K m H xs us->us.all kQ=true->inV v xs=inU x us
 |xs,[],h,_=>by rw[h.of_nil];rfl
 |xs,u::us,h,k=>by
  obtain⟨y,r,rfl,i,t⟩:=h.of_cons;rw[List.all_cons,Xx]at k;have ih:=A7 ix hx t k.2;unfold inV inU at ih ⊢;rw[XN,XN,ih,Mu i ix k.1 hx]
def _root_.L2.DGet.kz{H:Hp}{a:Addr}{ob:Obj}{kvs:List (Key×V)}{k:Key}(e:H a=some (.frz ob (.dK kvs))):DGet H a (kV k) (jw kvs k):=.inl ⟨kvs,k,.inr ⟨ob,e⟩,rfl,rfl⟩
def fIn(neg:Bool):U->U->Sto->Option (U×Sto):=fun x y S=>match y with
 |.tup us=>if kQ x=true/\us.all kQ=true then some (.bl (if neg then !inU x us else inU x us),S)else none
 |.ref l=>match S[l]? with
  |some (.lst us)=>if kQ x=true/\us.all kQ=true then some (.bl (if neg then !inU x us else inU x us),S)else none
  |some (.dic kus)=>(oY x).bind fun k=>some (.bl (if neg then !(bF kus k).isSome else(bF kus k).isSome),S)
  |some (.fdc ep kus)=>(oY x).bind fun k=>some (.bl (if neg then !(bF kus k).isSome else(bF kus k).isSome),S)
  |_=>none
 |_=>none
def Rf.isSome{m:List Addr}{H:Hp}{v:Option V}{u:Option U}(h:Rf K m H v u):v.isSome=u.isSome:=by
 cases v<;>cases u<;>first|rfl|exact h.elim
def A6{ca cb:CE}{neg:Bool}(t2:TE->TE->TE)(h2:∀ta tb σ H Q,(ta σ H fun y H1=>tb σ H1 fun x H2=>∃a o,x=.ref a/\DGet H2 a y o/\Q (.bl (if neg then !o.isSome else o.isSome)) H2)->t2 ta tb σ H Q):∀σ H Q,tE K (cOp (fIn neg) ca cb) σ H Q->tOp (rIn K neg) (tE K ca) (tE K cb) σ H Q\/t2 (tE K ca) (tE K cb) σ H Q:=by
 rintro σ H Q ⟨m,ρ,S,u,S',sr,lr,hc,post⟩;obtain⟨⟨x,S1⟩,h1,h⟩:=Q2.mp hc;obtain⟨⟨y,S2⟩,h3,h4⟩:=Q2.mp h;cases y with
 |tup us=>
  simp only[fIn]at h4;split at h4<;>try cases h4
  rename_i hf;refine .inl ⟨m,ρ,S,x,S1,sr,lr,h1,fun m1 v1 H1 e1 sr1 i1=>⟨m1,ρ,S1,.tup us,S',sr1,lr.mono e1,h3,fun m2 v2 H2 e2 sr2 i2=>?_⟩⟩;obtain⟨a,xs,rfl,sa,la⟩:=i2.of_tup;refine⟨a,xs,rfl,.inr sa,vP (i1.mono e2) hf.1,rL la hf.2,?_⟩;rw[A7 (i1.mono e2) hf.1 la hf.2];exact post m2 _ H2 (e1.trans e2) sr2 .bl_
 |ref l=>
  simp only[fIn]at h4;split at h4<;>try cases h4
  ·rename_i us hS;split at h4<;>try cases h4
   rename_i hf;refine .inl ⟨m,ρ,S,x,S1,sr,lr,h1,fun m1 v1 H1 e1 sr1 i1=>⟨m1,ρ,S1,.ref l,S',sr1,lr.mono e1,h3,fun m2 v2 H2 e2 sr2 i2=>?_⟩⟩;obtain⟨a,ha,rfl⟩:=i2.of_ref;obtain⟨a',ha',xs,hx,la⟩:=sr2.get hS;rw[ha]at ha';cases ha';refine⟨a,xs,rfl,.inl (SqL.of hx),vP (i1.mono e2) hf.1,rL la hf.2,?_⟩;rw[A7 (i1.mono e2) hf.1 la hf.2];exact post m2 _ H2 (e1.trans e2) sr2 .bl_
  rename_i kus hS;obtain⟨k,hk,h5⟩:=Q2.mp h4;cases h5;refine .inr (h2 _ _ _ _ _ ⟨m,ρ,S,x,S1,sr,lr,h1,fun m1 v1 H1 e1 sr1 i1=>⟨m1,ρ,S1,.ref l,S',sr1,lr.mono e1,h3,fun m2 v2 H2 e2 sr2 i2=>?_⟩⟩);obtain⟨a,ha,rfl⟩:=i2.of_ref;obtain⟨a',ha',kvs,hx,ip⟩:=sr2.get hS;rw[ha]at ha';cases ha';have ek:=jV (i1.mono e2) hk;subst ek;refine⟨a,_,rfl,DGet.k hx,?_⟩;rw[(IsP.val ip).isSome];exact post m2 _ H2 (e1.trans e2) sr2 .bl_;rename_i ep kus hS;obtain⟨k,hk,h5⟩:=Q2.mp h4;cases h5;refine .inr (h2 _ _ _ _ _ ⟨m,ρ,S,x,S1,sr,lr,h1,fun m1 v1 H1 e1 sr1 i1=>⟨m1,ρ,S1,.ref l,S',sr1,lr.mono e1,h3,fun m2 v2 H2 e2 sr2 i2=>?_⟩⟩);obtain⟨a,ha,rfl⟩:=i2.of_ref;obtain⟨a',ha',ob,es,kvs,hx,hd,ip⟩:=sr2.get hS;rw[ha]at ha';cases ha';have ek:=jV (i1.mono e2) hk;subst ek;refine⟨a,_,rfl,DGet.kz hx,?_⟩;rw[(IsP.val ip).isSome];exact post m2 _ H2 (e1.trans e2) sr2 .bl_
 |_=>simp[fIn]at h4
variable{a:ZR}
def QQ(hu:X.A.units+1<cLine)(ha:QE X a ca)(hb:QE X b cb)(hm:behindInMarks .In b=false):QE X (.Compare a [.In] [b] pos) (cOp (fIn false) ca cb):=
 ((wB tZ ha hb hm).or (GS (zp hu ha hb) hm)).imp (A6 (neg:=false) MZ fun _ _ _ _ _ h=>h)
def C5(hu:X.A.units+1<cLine)(ha:QE X a ca)(hb:QE X b cb)(hm:behindInMarks .In b=false):QT X (.Compare a [.In] [b] pos) (aR (cOp (fIn false) ca cb)):=
 ((qM tZ ha hb hm).or (yY (zp hu ha hb) hm)).imp (mR (A6 (neg:=false) MZ fun _ _ _ _ _ h=>h))
def wM(hu:X.A.units+1<cLine)(ha:QE X a ca)(hb:QE X b cb)(hm:behindInMarks .NotIn b=false):QT X (.Compare a [.NotIn] [b] pos) (aR (cOp (fIn true) ca cb)):=
 ((qM tW ha hb hm).or (yY (yd hu ha hb) hm)).imp (mR (A6 (neg:=true) vj fun _ _ _ _ _ h=>h))
def fIx:U->U->Sto->Option (U×Sto):=fun x y S=>match x with
 |.tup us=>match y with
  |.int i=>(atI us i).bind fun u=>some (u,S)
  |_=>none
 |.ref l=>match S[l]? with
  |some (.lst us)=>(match y with
   |.int i=>(atI us i).bind fun u=>some (u,S)
   |_=>none)
  |some (.dic kus)=>(oY y).bind fun k=>(bF kus k).bind fun u=>some (u,S)
  |some (.fdc ep kus)=>(oY y).bind fun k=>(bF kus k).bind fun u=>some (u,S)
  |_=>none
 |.kl ns=>match y with
  |.int i=>(atI (ns.map U.int) i).bind fun u=>some (u,S)
  |_=>none
 |_=>none
def xn{K:Q3}{m:List Addr}{H:Hp}:∀ns:List Int,IsL K m H (ns.map V.int) (ns.map U.int)
 |[]=>.nil_
 |n::ns=>.cons_ .int_ (xn ns)
def BP{m:List Addr}{H:Hp}{xs:List V}{us:List U}{i:Int}{u:U}(l:IsL K m H xs us)(h:atI us i=some u):∃v,atI xs i=some v/\Is K m H v u:=by
 unfold atI at h ⊢;rw[l.length];obtain⟨j,e1,e2⟩:=Q2.mp h;rw[e1];obtain⟨v,e3,e4⟩:=l.getD e2;exact⟨v,e3,e4⟩
def P8(hu:X.A.units+1<cLine)(ha:QE X a ca)(hb:QE X b cb)(hs:v7 b)(hs2:MK b):QE X (.Subscript a b pos) (cOp fIx ca cb):=
 ((J5 (Iw.or LY) ha hb hs).or (CB hu ha hb hs2)).imp fun σ H Q hz=>oH hz fun m ρ S u S' sr lr hc post=>by
 obtain⟨⟨x,S1⟩,h1,h⟩:=Q2.mp hc;obtain⟨⟨y,S2⟩,h3,h4⟩:=Q2.mp h;cases x with
 |tup us=>
  simp only[fIx]at h4;split at h4<;>try cases h4
  rename_i i;obtain⟨w,hw,h5⟩:=Q2.mp h4;cases h5;refine .inl ⟨m,ρ,S,_,S1,sr,lr,h1,fun m1 v1 H1 e1 sr1 i1=>⟨m1,ρ,S1,_,S',sr1,lr.mono e1,h3,fun m2 v2 H2 e2 sr2 i2=>.inr ?_⟩⟩;obtain⟨a,xs,rfl,sa,la⟩:=(i1.mono e2).of_tup;obtain⟨z,ez,iz⟩:=BP la hw;exact⟨a,xs,i,z,rfl,i2.of_int,sa,ez,post m2 _ H2 (e1.trans e2) sr2 iz⟩
 |ref l=>
  simp only[fIx]at h4;split at h4<;>try cases h4
  ·rename_i us hS;split at h4<;>try cases h4
   rename_i i;obtain⟨w,hw,h5⟩:=Q2.mp h4;cases h5;refine .inl ⟨m,ρ,S,_,S1,sr,lr,h1,fun m1 v1 H1 e1 sr1 i1=>⟨m1,ρ,S1,_,S',sr1,lr.mono e1,h3,fun m2 v2 H2 e2 sr2 i2=>.inl ?_⟩⟩;obtain⟨a,ha,rfl⟩:=(i1.mono e2).of_ref;obtain⟨a',ha',xs,hx,la⟩:=sr2.get hS;rw[ha]at ha';cases ha';obtain⟨z,ez,iz⟩:=BP la hw;exact⟨a,xs,i,z,rfl,i2.of_int,SqL.of hx,ez,post m2 _ H2 (e1.trans e2) sr2 iz⟩
  rename_i kus hS;obtain⟨k,hk,h5⟩:=Q2.mp h4;obtain⟨w,hw,h6⟩:=Q2.mp h5;cases h6;refine .inr ⟨m,ρ,S,_,S1,sr,lr,h1,fun m1 v1 H1 e1 sr1 i1=>⟨m1,ρ,S1,_,S',sr1,lr.mono e1,h3,fun m2 v2 H2 e2 sr2 i2=>?_⟩⟩;obtain⟨a,ha,rfl⟩:=(i1.mono e2).of_ref;obtain⟨a',ha',kvs,hx,ip⟩:=sr2.get hS;rw[ha]at ha';cases ha';have ek:=jV i2 hk;subst ek;have rf:=IsP.val (k:=k) ip;rw[hw]at rf;cases hv:jw kvs k with
  |none=>rw[hv]at rf;exact rf.elim
  |some z=>
   rw[hv]at rf;exact⟨a,z,rfl,by have:=DGet.k (k:=k) hx;rw[hv]at this;exact this,post m2 _ H2 (e1.trans e2) sr2 rf⟩
  rename_i ep kus hS;obtain⟨k,hk,h5⟩:=Q2.mp h4;obtain⟨w,hw,h6⟩:=Q2.mp h5;cases h6;refine .inr ⟨m,ρ,S,_,S1,sr,lr,h1,fun m1 v1 H1 e1 sr1 i1=>⟨m1,ρ,S1,_,S',sr1,lr.mono e1,h3,fun m2 v2 H2 e2 sr2 i2=>?_⟩⟩;obtain⟨a,ha,rfl⟩:=(i1.mono e2).of_ref;obtain⟨a',ha',ob,es,kvs,hx,hd,ip⟩:=sr2.get hS;rw[ha]at ha';cases ha';have ek:=jV i2 hk;subst ek;have rf:=IsP.val (k:=k) ip;rw[hw]at rf;cases hv:jw kvs k with
  |none=>rw[hv]at rf;exact rf.elim
  |some z=>
   rw[hv]at rf;exact⟨a,z,rfl,by have:=DGet.kz (k:=k) hx;rw[hv]at this;exact this,post m2 _ H2 (e1.trans e2) sr2 rf⟩
 |kl ns=>
  simp only[fIx]at h4;split at h4<;>try cases h4
  rename_i i;obtain⟨w,hw,h5⟩:=Q2.mp h4;cases h5;refine .inl ⟨m,ρ,S,_,S1,sr,lr,h1,fun m1 v1 H1 e1 sr1 i1=>⟨m1,ρ,S1,_,S',sr1,lr.mono e1,h3,fun m2 v2 H2 e2 sr2 i2=>.inl ?_⟩⟩;obtain⟨a,rfl,ka⟩:=(i1.mono e2).of_kl;obtain⟨z,ez,iz⟩:=BP (xn (K:=X.K) (m:=m2) (H:=H2) ns) hw;exact⟨a,_,i,z,rfl,i2.of_int,ka.sq,ez,post m2 _ H2 (e1.trans e2) sr2 iz⟩
 |_=>simp[fIx]at h4
def oF:U->U->U->Sto->Option Sto:=fun o i v S=>match o with
 |.ref l=>match S[l]? with
  |some (.lst us)=>(match i with
   |.int k=>(ixN us.length k).bind fun j=>some (S.set l (.lst (us.set j v)))
   |_=>none)
  |some (.dic kus)=>(oY i).bind fun k=>if kus.length<LIM then some (S.set l (.dic (gB kus k v)))else none
  |_=>none
 |_=>none
def js(co ci cv:CE):CS:=fun ρ S=>(cv ρ S).bind fun p=>(co ρ p.2).bind fun q=>(ci ρ q.2).bind fun r=>(oF q.1 r.1 p.1 r.2).bind fun S'=>some (.nx,ρ,S')
def fG{o i:ZR}{co ci cv:CE}{pos':Pos}(hu:X.A.units+1<cLine)(ho:QE X o co)(hi:QE X i ci)(hv:QE X e cv)
  (hs0:swapsWithSole [.Subscript o i pos'] e pos.line X.env=pure false:=by rfl) (hw:swappedStores [.Subscript o i pos'] e X.env=pure none:=by rfl)
  (h1:(assignEach [.Subscript o i pos'] X.env).map (·.2)=[assign (.Subscript o i pos') X.env]:=by rfl)
  (hs:XT e (some (.Subscript o i pos')) pos.line X.env=pure false:=by rfl)
  (ha:∀v,assign (.Subscript o i pos') X.env v=(do
   let ov <-holding [v] (eval o X.env)
   let iv <-holding [v,ov] (eval i X.env)
   standAt pos'
   holding [v,ov,iv] (setItem ov iv v)
   release [v,ov,iv] []):=by intro _;rfl):QS X (.Assign [.Subscript o i pos'] e pos) (js co ci cv):=
 ((GF hv (GI ho hi CV ha) hs0 hw h1).or (Cr hu ho hi hv hs)).imp fun D σ H hz=>xw hz fun m ρ S o ρ' S' sr lr hc post=>by
 obtain⟨⟨v,S1⟩,h1,h⟩:=Q2.mp hc;obtain⟨⟨ou,S2⟩,h2,h⟩:=Q2.mp h;obtain⟨⟨iu,S3⟩,h3,h⟩:=Q2.mp h;obtain⟨S4,h4,h⟩:=Q2.mp h;cases h;cases ou with
 |ref l=>
  simp only[oF]at h4;split at h4<;>try cases h4
  ·rename_i us hS;split at h4<;>try cases h4
   rename_i k;obtain⟨j,hj,h5⟩:=Q2.mp h4;cases h5;refine .inl ⟨m,ρ,S,v,S1,sr,lr,h1,fun m1 v1 H1 e1 sr1 i1=>⟨m1,ρ,S1,_,S2,sr1,lr.mono e1,h2,fun m2 v2 H2 e2 sr2 i2=>⟨m2,ρ,S2,_,S3,sr2,lr.mono (e1.trans e2),h3,fun m3 v3 H3 e3 sr3 i3=>?_⟩⟩⟩;obtain⟨a,ha,rfl⟩:=(i2.mono e3).of_ref;obtain⟨a',ha',xs,hx,la⟩:=sr3.get hS;rw[ha]at ha';cases ha';have e13:=(e1.trans e2).trans e3;have ek:Ext X.K m3 H3 m3 (upd H3 a (.lst (xs.set j v1))):=.of (sr3.keep ha _);refine⟨a,xs,k,j,rfl,i3.of_int,hx,by rw[la.length];exact hj,post m3 σ _ (e13.trans ek) (sr3.put ha ⟨_,aJ,((la.set (i1.mono (e2.trans e3)))).mono ek⟩) (lr.mono (e13.trans ek))⟩
  ·rename_i kus hS;obtain⟨k,hk,h5⟩:=Q2.mp h4;split at h5<;>try cases h5
   have hlen:kus.length<LIM:=by assumption
   refine .inr ⟨m,ρ,S,v,S1,sr,lr,h1,fun m1 v1 H1 e1 sr1 i1=>⟨m1,ρ,S1,_,S2,sr1,lr.mono e1,h2,fun m2 v2 H2 e2 sr2 i2=>⟨m2,ρ,S2,_,S3,sr2,lr.mono (e1.trans e2),h3,fun m3 v3 H3 e3 sr3 i3=>?_⟩⟩⟩;obtain⟨a,ha,rfl⟩:=(i2.mono e3).of_ref;obtain⟨a',ha',kvs,hx,ip⟩:=sr3.get hS;rw[ha]at ha';cases ha';have ek:=jV i3 hk;subst ek;have e13:=(e1.trans e2).trans e3;have ee:Ext X.K m3 H3 m3 (upd H3 a (.dK (sN kvs k v1))):=.of (sr3.keep ha _);exact⟨a,_,rfl,MT.k hx (Ng (by rw[IsP.length ip];exact hlen)),post m3 σ _ (e13.trans ee) (sr3.put ha ⟨_,aJ,(IsP.put ip (i1.mono (e2.trans e3))).mono ee⟩) (lr.mono (e13.trans ee))⟩
 |_=>simp[oF]at h4
end
def kE{α:Type}[DecidableEq α]:∀{l l':List α},l.Nodup->(∀x∈l,x∈l')->l.length<=l'.length
 |[],_,_,_=>Zp _
 |x::r,l',nd,s=>by
  obtain⟨h1,h2⟩:=Xv.mp nd;have hx:=s x ZG;have:=kE (l:=r) (l':=l'.erase x) h2 fun y hy=>(List.mem_erase_of_ne (fun z=>h1 (by rw[<-z];exact hy))).mpr (s y (ZJ _ hy));rw[List.length_erase_of_mem hx]at this;have hp:=List.length_pos_of_mem hx;rw[ZZ];omega
def gv(f:Str)(v:V):∀fs:List (Str×V),(oW f v fs).map (·.1)=if f∈fs.map (·.1)then fs.map (·.1)else fs.map (·.1)++[f]
 |[]=>by simp[oW]
 |(g,x)::r=>by
  unfold oW;by_cases e:g=f
  ·simp[e]
  ·have ih:=gv f v r;rw[Xf e,ZK,ZK,ih];by_cases c:f∈r.map (·.1);rw[Xd c,Xd (ZJ _ c)];rw[Xf c,Xf (fun z=>by rcases ZD.mp z with z|z;exact e z.symm;exact c z)];rfl
variable{fus:List (Option U)}{i:Nat}
section
variable{c:Cl}{fs:List (Str×V)}
def InF.room(h:InF K m H c fs fus):fs.length<1000:=by
 have:=kE h.knd h.sub;rw[Q7]at this;have:=h.few;omega
def om{f:Str}:∀{fs:List (Str×V)},f∉fs.map (·.1)->fs.lookup f=none
 |[],_=>rfl
 |(g,x)::r,h=>by
  rw[XA];have h1:(f == g)=false:=by
   apply beq_eq_false_iff_ne.mpr;intro z;exact h (by rw[z];exact ZG)
  rw[h1];exact om fun z=>h (ZJ _ z)
def InF.none_{f:Str}(h:InF K m H c fs fus)(hf:f∉c.ns):fs.lookup f=none:=om fun z=>hf (h.sub f z)
def InF.put{f:Str}{i:Nat}{v:V}{u:U}(h:InF K m H c fs fus)(hi:c.ns[i]?=some f)(hv:Is K m H v u):InF K m H c (oW f v fs) (fus.set i (some u)):=by
 have hfm:f∈c.ns:=XJ hi;refine⟨h.nd,h.few,?_,fun x hx=>?_,by simp[h.len],fun j x hj=>?_⟩;rw[gv];split;exact h.knd;rename_i hn;rw[Xr];exact⟨h.knd,nofun,fun a ha b hb z=>by simp at hb;subst hb;subst z;exact hn ha⟩;rw[gv]at hx;split at hx;exact h.sub x hx;rcases Zz.mp hx with z|z;exact h.sub x z;simp at z;subst z;exact hfm;rw[jU];by_cases e:i=j;subst e;rw[hi]at hj;cases hj;rw[Xd rfl];have:i<fus.length:=by rw[h.len];exact(Q6.mp hi).1
 rw[Ze this];exact hv;have ne:x≠f:=fun z=>by
  subst z;obtain⟨p1,e1⟩:=Q6.mp hi;obtain⟨p2,e2⟩:=Q6.mp hj;exact e ((List.getElem_inj h.nd).mp (e1.trans e2.symm))
 rw[Xf ne,ZS e];exact h.at_ j x hj
def InF.new(nd:c.ns.Nodup)(few:c.ns.length<1000):InF K m H c [] (ZQ c.ns.length none):=by
 refine⟨nd,few,nofun,fun x hx=>by simp at hx,nofun,fun i x hi=>?_⟩;rw[XG];split<;>exact trivial
open Classical in
def Mq(c:Cl)(i:Nat)(x:U)(S:Sto):Option (U×Sto):=match x with
 |.ref l=>match S[l]? with
  |some (.ins c' fus)=>if c'=c then(fus[i]?).join.bind fun u=>some (u,S)else none
  |_=>none
 |_=>none
def aT(c:Cl)(i:Nat)(ca:CE):CE:=fun ρ S=>(ca ρ S).bind fun p=>Mq c i p.1 p.2
open Classical in
def Bl(c:Cl)(i:Nat)(x v:U)(S:Sto):Option Sto:=match x with
 |.ref l=>match S[l]? with
  |some (.ins c' fus)=>if c'=c then some (S.set l (.ins c (fus.set i (some v))))else none
  |_=>none
 |_=>none
def bC(c:Cl)(i:Nat)(ca cv:CE):CS:=fun ρ S=>(cv ρ S).bind fun p=>(ca ρ p.2).bind fun q=>(Bl c i q.1 p.1 q.2).bind fun S'=>some (.nx,ρ,S')
variable{cv:CE}{f:Str}
def Hn(hcl:Cls X.K c.C)(hna:jP X.K c.C f)(hi:c.ns[i]?=some f)(h:QE X e ca)(hb:attributeBase e f X.env (eval e X.env)=eval e X.env:=by rfl):QE X (.Attribute e f pos) (aT c i ca):=(GR h hb).imp fun σ H Q hz=>oH hz fun m ρ S u S' sr lr hc post=>by
 obtain⟨⟨x,S1⟩,h1,h2⟩:=Q2.mp hc;refine⟨m,ρ,S,x,S1,sr,lr,h1,fun m1 v1 H1 e1 sr1 i1=>?_⟩;cases x with
 |ref l=>
  simp only[Mq]at h2;split at h2<;>try cases h2
  rename_i c' fus hS;split at h2<;>try cases h2
  rename_i hc';subst hc';obtain⟨w,hw,h3⟩:=Q2.mp h2;cases h3;obtain⟨a,ha,rfl⟩:=i1.of_ref;obtain⟨a',ha',dx,fs,hx,inf⟩:=sr1.get hS;rw[ha]at ha';cases ha';have rf:=inf.at_ i f hi;rw[hw]at rf;cases hv:fs.lookup f with
  |none=>rw[hv]at rf;exact rf.elim
  |some z=>
   rw[hv]at rf;exact⟨a,_,dx,fs,z,rfl,hx,hcl,hna,hv,post m1 _ H1 e1 sr1 rf⟩
 |_=>simp[Mq]at h2
def Hi{o:ZR}{co:CE}{pos':Pos}(hcl:Cls X.K c.C)(hna:jP X.K c.C f)(hi:c.ns[i]?=some f)(ho:QE X o co)(hv:QE X e cv)(hs:XT e (some (.Attribute o f pos')) pos.line X.env=pure false:=by rfl):QS X (.Assign [.Attribute o f pos'] e pos) (bC c i co cv):=(GD ho hv hs).imp fun D σ H hz=>xw hz fun m ρ S o ρ' S' sr lr hc post=>by
 obtain⟨⟨v,S1⟩,h1,h⟩:=Q2.mp hc;obtain⟨⟨x,S2⟩,h2,h⟩:=Q2.mp h;obtain⟨S3,h3,h⟩:=Q2.mp h;cases h;refine⟨m,ρ,S,v,S1,sr,lr,h1,fun m1 v1 H1 e1 sr1 i1=>⟨m1,ρ,S1,x,S2,sr1,lr.mono e1,h2,fun m2 v2 H2 e2 sr2 i2=>?_⟩⟩;cases x with
 |ref l=>
  simp only[Bl]at h3;split at h3<;>try cases h3
  rename_i c' fus hS;split at h3<;>try cases h3
  have hc':c'=c:=by assumption
  subst hc';obtain⟨a,ha,rfl⟩:=i2.of_ref;obtain⟨a',ha',dx,fs,hx,inf⟩:=sr2.get hS;rw[ha]at ha';cases ha';have ee:Ext X.K m2 H2 m2 (upd H2 a (.ins c'.C dx (oW f v1 fs))):=.of (sr2.keep ha _);have e12:=e1.trans e2;exact⟨a,_,dx,fs,rfl,hx,hcl,hna,inf.room,post m2 σ _ (e12.trans ee) (sr2.put ha ⟨dx,_,aJ,(inf.put hi (i1.mono e2)).mono ee⟩) (lr.mono (e12.trans ee))⟩
 |_=>simp[Bl]at h3
structure sL(P:ZI)(w:Zk)(K:Q3)(mg:Str->Option Q4)(base:Heap)(c:Cl)(mn:Str)(k:Nat)(ps:List Str)(f:Fn):Prop where
 ex:∃fa fd,Je K c.C mn fa/\lQ P w K mg base CX0 k fa fd ps (Cb K f)/\iE K fd ps []
def sL.mono{P:ZI}{w:Zk}{mg:Str->Option Q4}{base:Heap}{mn:Str}{j k:Nat}{ps:List Str}{f:Fn}(h:sL P w K mg base c mn j ps f)(l:j<=k):sL P w K mg base c mn k ps f:=by
 obtain⟨fa,fd,a,b,d⟩:=h.ex;exact⟨fa,fd,a,b.mono l,d⟩
open Classical in
def Bm(c:Cl)(f:Fn)(x:U)(S:Sto)(args:Sto->Option (List U×Sto)):Option (U×Sto):=match x with
 |.ref l=>match S[l]? with
  |some (.ins c' _)=>if c'=c then(args S).bind fun q=>f (.ref l::q.1) q.2 else none
  |_=>none
 |_=>none
def aL(c:Cl)(f:Fn)(ca:CE)(cr:CA):CE:=fun ρ S=>(ca ρ S).bind fun p=>Bm c f p.1 p.2 (cr ρ)
def wZ{mn:Str}{g:Fn}{co:CE}{cr:CA}(hmn:mn∉c.ns):∀σ H Q,tE K (aL c g co cr) σ H Q->zN c.C mn (Cb K g) [] E0 (tE K co) (tA K cr) σ H Q:=by
 rintro σ H Q ⟨m,ρ,S,u,S',sr,lr,hc,post⟩;obtain⟨⟨x,S1⟩,h1,h2⟩:=Q2.mp hc;refine⟨m,ρ,S,x,S1,sr,lr,h1,fun m1 v1 H1 e1 sr1 i1=>?_⟩;cases x with
 |ref l=>
  simp only[Bm]at h2;split at h2<;>try cases h2
  rename_i c' fus hS;split at h2<;>try cases h2
  rename_i hc';subst hc';obtain⟨⟨us,S2⟩,h3,h4⟩:=Q2.mp h2;obtain⟨a,ha,rfl⟩:=i1.of_ref;obtain⟨a',ha',dx,fs,hx,inf⟩:=sr1.get hS;rw[ha]at ha';cases ha';refine⟨a,dx,fs,rfl,hx,inf.none_ hmn,m1,ρ,S1,us,S2,sr1,lr.mono e1,h3,fun m2 vs H2 e2 sr2 i2=>?_⟩;exact⟨m2,_,S2,u,S',.cons_ (i1.mono e2) (by simpa using i2),sr2,h4,post.mono (e1.trans e2)⟩
 |_=>simp[Bm]at h2
def KD{mn:Str}{g:Fn}{k:Nat}{ps:List Str}{o:ZR}{es:List ZR}{co:CE}{cr:CA}{apos:Pos}{pl:Sem Bool}(hcl:Cls X.K c.C)(F:sL X.prog X.w X.K X.mg X.base c mn k ps g)(hr:fb k X.A)(hmn:mn∉c.ns)(ho:QE X o co)(ha:QA X (e::es) cr)
  (hst:Z9 (e::es) X.env=(false,eval e X.env)::Z9 es X.env:=by rfl) (hpl:(Zi pos (Z9 es X.env)).any (·.1)=false:=by rfl) (ht:eval (.Call (.Attribute o mn apos) (e::es) [] pos) X.env=(do
   let ov <-eval o X.env
   standAt apos.atName
   let (f,first) <-holding [ov] (getMethod ov mn pl)
   callWith pos f first (Zi pos (Z9 (e::es) X.env)) (backToKw pos (keywordEach [] X.env))):=by rfl):QE X (.Call (.Attribute o mn apos) (e::es) [] pos) (aL c g co cr):=by
 obtain⟨fa,fd,hm,F,hb⟩:=F.ex;exact(Cw ho hcl hm F hr hb .nil DB ha.h hst hpl ht).imp (wZ hmn)
def z9{mn:Str}{g:Fn}{k:Nat}{ps:List Str}{o:ZR}{co:CE}{apos:Pos}{pl:Sem Bool}(hcl:Cls X.K c.C)(F:sL X.prog X.w X.K X.mg X.base c mn k ps g)(hr:fb k X.A)(hmn:mn∉c.ns)(ho:QE X o co)
  (ht:eval (.Call (.Attribute o mn apos) [] [] pos) X.env=(do
   let ov <-eval o X.env
   standAt apos.atName
   let (f,first) <-holding [ov] (getMethod ov mn pl)
   callWith pos f first (Zi pos (Z9 [] X.env)) (backToKw pos (keywordEach [] X.env))):=by rfl):QE X (.Call (.Attribute o mn apos) [] [] pos) (aL c g co ay):=by
 obtain⟨fa,fd,hm,F,hb⟩:=F.ex;refine(zg ho hcl hm F hr hb .nil DB ht).imp fun σ H Q h=>?_;obtain⟨m,ρ,S,u,S',sr,lr,hc,k⟩:=wZ hmn σ H Q h;refine⟨m,ρ,S,u,S',sr,lr,hc,fun m1 v1 H1 e1 sr1 i1=>?_⟩;obtain⟨a,dx,fs,h1,h2,h3,m2,ρ2,S2,us,S3,sr2,lr2,h4,h5⟩:=k m1 v1 H1 e1 sr1 i1;cases h4;exact⟨a,dx,fs,h1,h2,h3,h5 m2 [] H1 .refl sr2 .nil_⟩
structure CMk(P:ZI)(w:Zk)(K:Q3)(mg:Str->Option Q4)(base:Heap)(c:Cl)(x:Str)(k:Nat)(ps:List Str)(f:Fn):Prop where
 ex:∃fa fd,Mk K c.C fa/\lQ P w K mg base CX0 k fa fd ps (Cb K f)/\iE K fd ps []/\mg x=some (.ref c.C)
 nd:c.ns.Nodup
 few:c.ns.length<1000
def CMk.mono{P:ZI}{w:Zk}{mg:Str->Option Q4}{base:Heap}{x:Str}{j k:Nat}{ps:List Str}{f:Fn}(h:CMk P w K mg base c x j ps f)(l:j<=k):CMk P w K mg base c x k ps f:=by
 obtain⟨fa,fd,a,b,d⟩:=h.ex;exact⟨⟨fa,fd,a,b.mono l,d⟩,h.nd,h.few⟩
def iD(c:Cl)(f:Fn):Fn:=fun us S=>(f (.ref S.length::us) (S++[.ins c (ZQ c.ns.length none)])).bind fun p=>match p.1 with
 |.non=>some (.ref S.length,p.2)
 |_=>none
def DS{g:Fn}{cr:CA}(nd:c.ns.Nodup)(few:c.ns.length<1000):∀σ H Q,tE K (cCB (iD c g) cr) σ H Q->G8 c.C (Cb K g) [] E0 (tA K cr) σ H Q:=by
 rintro σ H Q ⟨m,ρ,S,u,S',sr,lr,hc,post⟩;obtain⟨⟨us,S1⟩,h1,h2⟩:=Q2.mp hc;obtain⟨⟨w,S2⟩,h3,h4⟩:=Q2.mp h2;refine⟨m,ρ,S,us,S1,sr,lr,h1,fun m1 vs H1 e1 sr1 i1 x dx hx hdx ne=>?_⟩;cases w with
 |non=>
  cases h4;have s1:Gd H1 (upd H1 dx (.own x)):=iF hdx _;have hx2:(upd H1 dx (.own x)) x=none:=by rw[aM (Ne.symm ne)];exact hx
  have ee:Ext K m1 H1 (m1++[x]) (upd (upd H1 dx (.own x)) x (.ins c.C dx [])):=.new ⟨fun b xs q=>(cL hx2 _).t b xs ((dQ s1).t b xs q),fun b xs q=>(cL hx2 _).l b xs ((dQ s1).l b xs q),fun b xs q=>(cL (K:=K) hx2 _).c b xs ((dQ (K:=K) s1).c b xs q)⟩;refine⟨m1++[x],.ref S1.length::us,S1++[.ins c (ZQ c.ns.length none)],.non,S2,.cons_ (.ref_ (fM sr1.len)) (by simpa using i1.mono ee),(sr1.same s1).new (o:=.ins c (ZQ c.ns.length none)) hx2 ⟨dx,[],aJ,InF.new nd few⟩,h3,fun m2 v2 H2 e2 sr2 i2=>⟨i2.of_non,?_⟩⟩;exact post m2 _ H2 ((e1.trans ee).trans e2) sr2 (.ref_ (e2.get (fM sr1.len)))
 |_=>simp at h4
def qk{x:Str}{g:Fn}{k:Nat}{ps:List Str}{es:List ZR}{cr:CA}{p:Pos}(M:CMk X.prog X.w X.K X.mg X.base c x k ps g)(hr:fb (k+1) X.A)(hg:Gl X x)(ha:QA X (e::es) cr)
  (hdb:(x == ("__debug__":Str))=false:=by decide) (he:Z9 (e::es) X.env=(false,eval e X.env)::Z9 es X.env:=by rfl) (hpl:(Zi pos (Z9 es X.env)).any (·.1)=false:=by rfl):QE X (.Call (.Name x p) (e::es) [] pos) (cCB (iD c g) cr):=by
 obtain⟨fa,fd,hm,F,hb,hx⟩:=M.ex;exact(Cy hm F hr hg hx hb .nil DB ha.h hdb he hpl).imp (DS M.nd M.few)
def vV:CE:=fun _ S=>some (.ref S.length,S++[.dic []])
def tM:QE X (.Dict [] [] pos) vV:=zi.imp fun σ H Q hz=>oH hz fun m ρ S u S' sr lr hc post=>by
 cases hc;exact fun p hp=>post (m++[p]) _ _ (.new (cL hp _)) (sr.new hp ⟨[],aJ,.nil_⟩) (.ref_ (fM sr.len))
def yF(cd ck cx:CE):CE:=fun ρ S=>(cd ρ S).bind fun p=>match p.1 with
 |.ref l=>match p.2[l]? with
  |some (.dic _)=>(ck ρ p.2).bind fun q=>(cx ρ q.2).bind fun r=>match r.2[l]? with
   |some (.dic kus)=>(oY q.1).bind fun k=>some ((bF kus k).getD r.1,r.2)
   |_=>none
  |_=>none
 |_=>none
def Fq{o e f:ZR}{cd ck cx:CE}{apos:Pos}(hu:X.A.units+1<cLine)(ho:QE X o cd)(he:QE X e ck)(hf:QE X f cx)(hm:M2 X o "get" apos e f pos):QE X (.Call (.Attribute o "get" apos) [e,f] [] pos) (yF cd ck cx):=(zj hu ho he hf hm).imp fun σ H Q hz=>oH hz fun m ρ S u S' sr lr hc post=>by
 obtain⟨⟨x,S1⟩,h1,h⟩:=Q2.mp hc;refine⟨m,ρ,S,x,S1,sr,lr,h1,fun m1 v1 H1 e1 sr1 i1=>?_⟩;cases x with
 |ref l=>
  simp only at h;split at h<;>try cases h
  rename_i kus0 hS;obtain⟨⟨ku,S2⟩,h2,h⟩:=Q2.mp h;obtain⟨⟨xu,S3⟩,h3,h⟩:=Q2.mp h;simp only at h;split at h<;>try cases h
  rename_i kus hS3;obtain⟨k,hk,h⟩:=Q2.mp h;cases h;obtain⟨a,ha,rfl⟩:=i1.of_ref;obtain⟨a',ha',kvs0,hx0,_⟩:=sr1.get hS;rw[ha]at ha';cases ha';refine⟨a,rfl,.inl ⟨kvs0,.inl hx0⟩,m1,ρ,S1,ku,S2,sr1,lr.mono e1,h2,fun m2 v2 H2 e2 sr2 i2=>⟨m2,ρ,S2,xu,_,sr2,lr.mono (e1.trans e2),h3,fun m3 v3 H3 e3 sr3 i3=>?_⟩⟩;obtain⟨a',ha',kvs,hx,ip⟩:=sr3.get hS3;rw[(e2.trans e3).get ha]at ha';cases ha';have ek:=jV (i2.mono e3) hk;subst ek;have rf:=IsP.val (k:=k) ip;refine⟨_,DGet.k hx,post m3 _ H3 ((e1.trans e2).trans e3) sr3 ?_⟩;cases hv:jw kvs k with
  |none=>
   cases hw:bF kus k with
   |none=>exact i3
   |some w=>rw[hv,hw]at rf;exact rf.elim
  |some v=>
   cases hw:bF kus k with
   |none=>rw[hv,hw]at rf;exact rf.elim
   |some w=>rw[hv,hw]at rf;exact rf
 |_=>simp at h
end
def sM(n:Nat)(caps:List Nat)(ρ:Rho):Rho:=ZQ n none++caps.map fun i=>(ρ[i]?).getD none
open Classical in
def gC(ok:Sto->Prop)(g:CG)(ce:CE)(l:Nat):List U->Rho->Sto->Option Sto
 |[],_,S=>if ok S then some S else none
 |u::us,ρ,S=>if ok S then(g u ρ S).bind fun p=>(ce p.1 p.2).bind fun r=>match r.2[l]? with
  |some (.lst ys)=>if ys.length<LIM then gC ok g ce l us p.1 (r.2.set l (.lst (ys++[r.1])))else none
  |_=>none else none
def bX(ci:CI)(g:CG)(ce:CE)(n:Nat)(caps:List Nat):CE:=fun ρ S=>(ci ρ S).bind fun p=>(gC p.2.1 g ce p.2.2.length p.1 (sM n caps ρ) (p.2.2++[.lst []])).bind fun S'=>some (.ref p.2.2.length,S')
section
def AD{m:List Addr}{H:Hp}{ρ:Rho}{σ:L2.St}{n:Nat}{caps:List Nat}(lr:Lr K m H ρ σ):Lr K m H (sM n caps ρ) (OG.stC n caps σ):=by
 refine⟨by simp[sM,OG.stC],fun j u e=>?_⟩;unfold sM at e;unfold OG.stC;by_cases c:j<n
 ·rw[Zh (by simpa using c),XG]at e;split at e<;>cases e
 rw[Zu (by simp;omega),ZP]at e ⊢;simp only[YX]at e ⊢;cases q:caps[j-n]? with
 |none=>rw[q]at e;simp at e
 |some i=>
  rw[q]at e;simp only[XR,Option.some.injEq]at e ⊢;have e2:ρ[i]?=some (some u):=by
   cases z:ρ[i]? with
   |none=>rw[z]at e;simp at e
   |some y=>rw[z]at e;simp at e;rw[e]
  obtain⟨v,h1,h2⟩:=lr.at_ i u e2;exact⟨v,by rw[h1];rfl,h2⟩
def uJ{g:CG}{ce:CE}{n:Nat}{caps:List Nat}{J:It}{us:List U}{ok:Sto->Prop}{Q:VK}{m1:List Addr}{H1:Hp}{S1 S':Sto}{ρ:Rho}{σ:L2.St}{l:Addr}(sr1:Sr K m1 S1 H1)(lr:Lr K m1 H1 ρ σ)(ito:ET K J m1 H1 us ok)(hl:H1 l=none)(h2:gC ok g ce S1.length us (sM n caps ρ) (S1++[.lst []])=some S')
  (post:∀m2 H2,Ext K (m1++[l]) (upd H1 l (.lst [])) m2 H2->Sr K m2 S' H2->Q (.ref l) H2) :
  ∃W:Nat->Nat->L2.St->Hp->Prop,(∃m,W 0 m (OG.stC n caps σ) (upd H1 l (.lst [])))/\
 ∀i m σ' H2,W i m σ' H2->(J.stop i H2/\Q (.ref l) H2)\/(J.go i H2/\∃N:L2.St->Hp->Prop,(∀σ'' H',N σ'' H'->∃m',m'<m/\W (i+1) m' σ'' H')/\
  ∀x H3,J.yld i H2 x H3->tG K g x σ' H3 fun σ2 H4=>tE K ce σ2 H4 fun v H5=>∃ys,H5 l=some (.lst ys)/\ys.length<ZU/\N σ2 (upd H5 l (.lst (ys++[v])))):=by
 have ee:Ext K m1 H1 (m1++[l]) (upd H1 l (.lst [])):=.new (cL hl _);let W:Nat->Nat->L2.St->Hp->Prop:=fun i k σ2 H2=>k=us.length-i/\i<=us.length/\∃m2 ρ2 S2,Ext K (m1++[l]) (upd H1 l (.lst [])) m2 H2/\Sr K m2 S2 H2/\Lr K m2 H2 ρ2 σ2/\gC ok g ce S1.length (us.drop i) ρ2 S2=some S'
 refine⟨W,⟨us.length,nofun,Zp _,m1++[l],sM n caps ρ,S1++[.lst []],.refl,sr1.new (o:=.lst []) hl ⟨[],aJ,.nil_⟩,AD (lr.mono ee),by simpa using h2⟩,?_⟩;rintro i k σ2 H2 ⟨rfl,hi,m2,ρ2,S2,e2,sr2,lr2,hl2⟩;by_cases hlt:i<us.length
 ·have hu:=Z7 hlt;rw[oJ hu]at hl2;unfold gC at hl2;split at hl2
  ·rename_i hok;obtain⟨⟨ρ3,S3⟩,h3,hl2⟩:=Q2.mp hl2;obtain⟨⟨u4,S4⟩,h4,hl2⟩:=Q2.mp hl2;simp only at hl2;split at hl2<;>try cases hl2
   rename_i ys hys;split at hl2<;>try cases hl2
   rename_i hlen;obtain⟨hgo,hy⟩:=(ito m2 S2 H2 i (ee.trans e2) sr2 hok).1 _ hu;refine .inr ⟨hgo,W (i+1) (us.length-(i+1)),fun σ' H' w'=>⟨_,⋯,w'⟩,fun x H3 y=>?_⟩;obtain⟨e3,sr3,ix⟩:=hy x H3 y;refine⟨m2,ρ2,S2,_,ρ3,S3,sr3,lr2.mono e3,ix,h3,fun m4 σ4 H4 e4 sr4 lr4=>⟨m4,ρ3,S3,u4,S4,sr4,lr4,h4,fun m5 v5 H5 e5 sr5 i5=>?_⟩⟩;obtain⟨a',ha',xs,hx,il⟩:=sr5.get hys;have ha:m5[S1.length]?=some l:=(((e2.trans e3).trans e4).trans e5).get (fM sr1.len);rw[ha]at ha';cases ha';have eu:Ext K m5 H5 m5 (upd H5 l (.lst (xs++[v5]))):=.of (sr5.keep ha _);refine⟨xs,hx,Ng (by rw[il.length];exact hlen),rfl,hlt,m5,ρ3,_,((((e2.trans e3).trans e4).trans e5).trans eu),sr5.put (o:=.lst (ys++[u4])) ha ⟨_,aJ,(il.append (.cons_ i5 .nil_)).mono eu⟩,(lr4.mono (e5.trans eu)),hl2⟩
  cases hl2
 have e:i=us.length:=by omega
 subst e;rw[List.drop_length]at hl2;unfold gC at hl2;split at hl2;rename_i hok;cases hl2;exact .inl ⟨(ito m2 _ H2 _ (ee.trans e2) sr2 hok).2 (Z6 _),post m2 H2 e2 sr2⟩;cases hl2
def xE{ci:CI}{g:CG}{ce:CE}{n:Nat}{caps:List Nat}:∀σ H Q,tE K (bX ci g ce n caps) σ H Q->CQ (tI K ci) (tG K g) (tE K ce) n caps σ H Q:=by
 rintro σ H Q ⟨m,ρ,S,u,S',sr,lr,hc,post⟩;obtain⟨⟨us,ok,S1⟩,h1,h2⟩:=Q2.mp hc;obtain⟨S2,h2,h3⟩:=Q2.mp h2;cases h3;refine⟨m,ρ,S,us,ok,S1,sr,lr,h1,fun m1 H1 J e1 sr1 ito l hl=>?_⟩;have ee:Ext K m1 H1 (m1++[l]) (upd H1 l (.lst [])):=.new (cL hl _);exact uJ sr1 (lr.mono e1) ito hl h2 fun m2 H2 e2 sr2=>post m2 _ H2 ((e1.trans ee).trans e2) sr2 (.ref_ (e2.get (fM sr1.len)))
def jK{Nc capN tn:List Str}{scope:Xz}{cl:List (Str×Addr)}{n:Nat}{caps:List Nat}{tg iter elt:ZR}{pos:Pos}{ci:CI}{g:CG}{ce:CE}
  (hc:X.calm=true) (hi:QI X tg iter ci) (hg:∀s3 H3 fp,WG (cxC X Nc scope cl s3 H3 fp) tg (tG X.K g)) (he:∀s3 H3 fp,WE (cxC X Nc scope cl s3 H3 fp) elt (tE X.K ce))
  (hclos:closureFor scope X.env=pure cl) (hkind:scope.kind=.function) (hnl:∀x∈scope.names,x.2=.local->scope.names.lookup x.1=some .local) (hcell:∀x∈scope.names,x.2≠.cell)
  (hcl:xV X.env cl) (hhas:((relabel scope X.env).names.all fun p=>!(p.2 == .cell||p.2 == .free)||(cl.lookup p.1).isSome)=true)
  (hcap:Paired (Cap X scope cl) caps capN) (hN:Nc=tn++capN) (hn:tn.length=n)
  (hs:∀x,foldedSetIterable iter X.env x=pure x:=by intro _;rfl) :
  QE X (.ListComp elt [⟨tg,iter,[],0⟩] scope pos) (bX ci g ce n caps):=(wA hc hi hg he hclos hkind hnl hcell hcl hhas hcap hN hn hs).imp xE
def jC:Fn
 |[.tup us],S=>some (.int us.length,S)
 |[.ref l],S=>match S[l]? with
  |some (.lst us)=>some (.int us.length,S)
  |some (.dic us)=>some (.int us.length,S)
  |_=>none
 |[.kl ns],S=>some (.int ns.length,S)
 |_,_=>none
abbrev P7(K:Q3):List V->Hp->VK->Prop:=fun xs H Q=>(∃p ys,xs=[.ref p]/\(SqL K H p ys\/SqT K H p ys)/\Q (.int ys.length) H)\/∃a kvs,xs=[V.ref a]/\H a=some (.dK kvs)/\Q (.int kvs.length) H
def oh:hV X (.builtin "len") (P7 X.K):=uM.or BG
def IsL.one{m:List Addr}{H:Hp}{vs:List V}{u:U}(h:IsL K m H vs [u]):∃v,vs=[v]/\Is K m H v u:=by
 obtain⟨x,r,rfl,i,t⟩:=h.of_cons;rw[t.of_nil];exact⟨x,rfl,i⟩
def IsL.two{m:List Addr}{H:Hp}{vs:List V}{u w:U}(h:IsL K m H vs [u,w]):∃v x,vs=[v,x]/\Is K m H v u/\Is K m H x w:=by
 obtain⟨x,r,rfl,i,t⟩:=h.of_cons;obtain⟨y,rfl,j⟩:=t.one;exact⟨x,y,rfl,i,j⟩
def oe:mO K (P7 K) jC:=by
 intro m S H us vs u S' Q sr i hf post;match us,hf with
 |[.tup ws],hf=>
  cases hf;obtain⟨v,rfl,iv⟩:=i.one;obtain⟨a,xs,rfl,sa,la⟩:=iv.of_tup;exact .inl ⟨a,xs,rfl,.inr sa,by rw[la.length];exact post m _ H .refl sr .int_⟩
 |[.ref l],hf=>
  obtain⟨v,rfl,iv⟩:=i.one;obtain⟨a,ha,rfl⟩:=iv.of_ref;simp only[jC]at hf;split at hf<;>try cases hf
  rename_i ws hS;obtain⟨a',ha',xs,hx,la⟩:=sr.get hS;rw[ha]at ha';cases ha';exact .inl ⟨a,xs,rfl,.inl (SqL.of hx),by rw[la.length];exact post m _ H .refl sr .int_⟩;rename_i ws hS;obtain⟨a',ha',xs,hx,la⟩:=sr.get hS;rw[ha]at ha';cases ha';exact .inr ⟨a,xs,rfl,hx,by rw[IsP.length la];exact post m _ H .refl sr .int_⟩
 |[.kl ns],hf=>
  cases hf;obtain⟨v,rfl,iv⟩:=i.one;obtain⟨a,rfl,ka⟩:=iv.of_kl;exact .inl ⟨a,_,rfl,.inl ka.sq,by rw[Q7];exact post m _ H .refl sr .int_⟩
def oG:Fn
 |[.tup us],S=>some (.ref S.length,S++[.lst us])
 |[.ref l],S=>match S[l]? with
  |some (.lst us)=>some (.ref S.length,S++[.lst us])
  |_=>none
 |_,_=>none
def Aq:mO K (fun xs H Q=>∃p ys,xs=[.ref p]/\(SqL K H p ys\/SqT K H p ys)/\∀l,H l=none->Q (.ref l) (upd H l (.lst ys))) oG:=by
 intro m S H us vs u S' Q sr i hf post;match us,hf with
 |[.tup ws],hf=>
  cases hf;obtain⟨v,rfl,iv⟩:=i.one;obtain⟨a,xs,rfl,sa,la⟩:=iv.of_tup;exact⟨a,xs,rfl,.inr sa,fun l hl=>fH sr la post hl⟩
 |[.ref l],hf=>
  obtain⟨v,rfl,iv⟩:=i.one;obtain⟨a,ha,rfl⟩:=iv.of_ref;simp only[oG]at hf;split at hf<;>try cases hf
  rename_i ws hS;obtain⟨a',ha',xs,hx,la⟩:=sr.get hS;rw[ha]at ha';cases ha';exact⟨a,xs,rfl,.inl (SqL.of hx),fun l hl=>fH sr la post hl⟩
def mH:Fn
 |[.tup us],S=>some (.tup us,S)
 |[.ref l],S=>match S[l]? with
  |some (.lst us)=>some (.tup us,S)
  |_=>none
 |_,_=>none
def vx:mO K (fun xs H Q=>∃p ys,xs=[.ref p]/\((SqL K H p ys/\∀l,H l=none->Q (.ref l) (upd H l (.tup ys)))\/(SqT K H p ys/\Q (.ref p) H))) mH:=by
 intro m S H us vs u S' Q sr i hf post;match us,hf with
 |[.tup ws],hf=>
  cases hf;obtain⟨v,rfl,iv⟩:=i.one;obtain⟨a,xs,rfl,sa,la⟩:=iv.of_tup;exact⟨a,xs,rfl,.inr ⟨sa,post m _ H .refl sr iv⟩⟩
 |[.ref l],hf=>
  obtain⟨v,rfl,iv⟩:=i.one;obtain⟨a,ha,rfl⟩:=iv.of_ref;simp only[mH]at hf;split at hf<;>try cases hf
  rename_i ws hS;obtain⟨a',ha',xs,hx,la⟩:=sr.get hS;rw[ha]at ha';cases ha';exact⟨a,xs,rfl,.inl ⟨SqL.of hx,fun l hl=>qZ sr la post hl⟩⟩
def Pj:Fn
 |[.int i],S=>some (.int i,S)
 |[.bl b],S=>some (.int (if b then 1 else 0),S)
 |_,_=>none
def O0:mO K (fun xs H Q=>(∃i,xs=[.int i]/\Q (.int i) H)\/∃k,xs=[.bl k]/\Q (.int (if k then 1 else 0)) H) Pj:=by
 intro m S H us vs u S' Q sr i hf post;match us,hf with
 |[.int j],hf=>
  cases hf;obtain⟨v,rfl,iv⟩:=i.one;exact .inl ⟨j,by rw[iv.of_int],post m _ H .refl sr .int_⟩
 |[.bl j],hf=>
  cases hf;obtain⟨v,rfl,iv⟩:=i.one;exact .inr ⟨j,by rw[iv.of_bl],post m _ H .refl sr .int_⟩
def Jo:Fn
 |[.int i,.int j],S=>some (.int (if j<i then j else i),S)
 |_,_=>none
def OY:mO K (fun xs H Q=>∃i j,xs=[.int i,.int j]/\Q (.int (if j<i then j else i)) H) Jo:=by
 intro m S H us vs u S' Q sr i hf post;match us,hf with
 |[.int j,.int k],hf=>
  cases hf;obtain⟨v,w,rfl,iv,iw⟩:=i.two;exact⟨j,k,by rw[iv.of_int,iw.of_int],post m _ H .refl sr .int_⟩
def Jp:Fn
 |[.int i,.int j],S=>some (.int (if j>i then j else i),S)
 |_,_=>none
def OZ:mO K (fun xs H Q=>∃i j,xs=[.int i,.int j]/\Q (.int (if j>i then j else i)) H) Jp:=by
 intro m S H us vs u S' Q sr i hf post;match us,hf with
 |[.int j,.int k],hf=>
  cases hf;obtain⟨v,w,rfl,iv,iw⟩:=i.two;exact⟨j,k,by rw[iv.of_int,iw.of_int],post m _ H .refl sr .int_⟩
def Eg:List U->Option (List Int)
 |[]=>some []
 |.int i::r=>(Eg r).map (i::·)
 |_=>none
def IZ:List U->Option (List Bool)
 |[]=>some []
 |.bl i::r=>(IZ r).map (i::·)
 |_=>none
def xp:∀{us:List U} {ns:List Int},Eg us=some ns->us=ns.map U.int
 |[],ns,h=>by cases h;rfl
 |u::r,ns,h=>by
  cases u<;>simp only[Eg]at h<;>try cases h
  obtain⟨ms,e,h⟩:=XH.mp h;subst h;rw[xp e];rfl
def vW:∀{us:List U} {ns:List Bool},IZ us=some ns->us=ns.map U.bl
 |[],ns,h=>by cases h;rfl
 |u::r,ns,h=>by
  cases u<;>simp only[IZ]at h<;>try cases h
  obtain⟨ms,e,h⟩:=XH.mp h;subst h;rw[vW e];rfl
def rX:∀(ns:List Bool),IZ (ns.map U.bl)=some ns
 |[]=>rfl
 |n::r=>by simp[IZ,rX r]
def IsL.ints{m:List Addr}{H:Hp}:∀{xs:List V} {ns:List Int},IsL K m H xs (ns.map U.int)->xs=ns.map V.int
 |xs,[],h=>h.of_nil
 |xs,n::ns,h=>by
  obtain⟨x,r,rfl,i,t⟩:=h.of_cons;rw[IsL.ints t,i.of_int];rfl
def IsL.bls{m:List Addr}{H:Hp}:∀{xs:List V} {ns:List Bool},IsL K m H xs (ns.map U.bl)->xs=ns.map V.bl
 |xs,[],h=>h.of_nil
 |xs,n::ns,h=>by
  obtain⟨x,r,rfl,i,t⟩:=h.of_cons;rw[IsL.bls t,i.of_bl];rfl
def mX{m:List Addr}{H:Hp}:∀(ns:List Int),IsL K m H (ns.map V.int) (ns.map U.int)
 |[]=>.nil_
 |n::ns=>.cons_ .int_ (mX ns)
def Mr:Fn
 |[.ref l],S=>match S[l]? with
  |some (.lst us)=>(IZ us).bind fun bs=>some (.bl (bs.all id),S)
  |_=>none
 |_,_=>none
def O1:mO K (fun xs H Q=>∃(p:Addr) (bs:List Bool),xs=[.ref p]/\SqL K H p (bs.map V.bl)/\Q (.bl (bs.all id)) H) Mr:=by
 intro m S H us vs u S' Q sr i hf post;match us,hf with
 |[.ref l],hf=>
  obtain⟨v,rfl,iv⟩:=i.one;obtain⟨a,ha,rfl⟩:=iv.of_ref;simp only[Mr]at hf;split at hf<;>try cases hf
  rename_i ws hS;obtain⟨bs,hb,h⟩:=Q2.mp hf;cases h;obtain⟨a',ha',xs,hx,la⟩:=sr.get hS;rw[ha]at ha';cases ha';rw[vW hb]at la;rw[la.bls]at hx;exact⟨a,bs,rfl,SqL.of hx,post m _ H .refl sr .bl_⟩
def cBM(f:U->List U->Sto->Option (U×Sto))(co:CE)(cr:CA):CE:=fun ρ S=>(co ρ S).bind fun p=>match p.1 with
 |.ref l=>match p.2[l]? with
  |some (.lst _)=>(cr ρ p.2).bind fun q=>f p.1 q.1 q.2
  |_=>none
 |_=>none
def MtP(K:Q3)(r:V->List V->Hp->VK->Prop)(f:U->List U->Sto->Option (U×Sto)):Prop:=
 ∀m S H x v us vs u S' Q,Sr K m S H->Is K m H v x->IsL K m H vs us->f x us S=some (u,S')->kX K m H Q u S'->r v vs H Q
def xM{r:V->List V->Hp->VK->Prop}{f:U->List U->Sto->Option (U×Sto)}{co:CE}{cr:CA}(hp:MtP K r f):∀σ H Q,tE K (cBM f co cr) σ H Q->tBM K "list" r (tE K co) (tA K cr) σ H Q:=by
 rintro σ H Q ⟨m,ρ,S,u,S',sr,lr,hc,post⟩;obtain⟨⟨x,S1⟩,h1,h2⟩:=Q2.mp hc;refine⟨m,ρ,S,x,S1,sr,lr,h1,fun m1 v1 H1 e1 sr1 i1=>?_⟩;cases x with
 |ref l=>
  simp only at h2;split at h2<;>try cases h2
  rename_i ws hS;obtain⟨⟨us,S2⟩,h3,h4⟩:=Q2.mp h2;obtain⟨a,ha,rfl⟩:=id i1.of_ref;obtain⟨a',ha',xs,hx,la⟩:=sr1.get hS;rw[ha]at ha';cases ha';exact⟨.inl ⟨rfl,xs,SqL.of hx⟩,m1,ρ,S1,us,S2,sr1,lr.mono e1,h3,fun m2 vs H2 e2 sr2 i2=>hp m2 S2 H2 _ _ us vs u S' Q sr2 (i1.mono e2) i2 h4 (post.mono (e1.trans e2))⟩
 |_=>simp at h2
def bK:U->List U->Sto->Option (U×Sto)
 |.ref l,[u],S=>match S[l]? with
  |some (.lst us)=>if us.length<LIM then some (.non,S.set l (.lst (us++[u])))else none
  |_=>none
 |_,_,_=>none
def DK:MtP K zY bK:=by
 intro m S H x v us vs u S' Q sr ix i hf post;match x,us,hf with
 |.ref l,[w],hf=>
  simp only[bK]at hf;split at hf<;>try cases hf
  rename_i ws hS;split at hf<;>try cases hf
  rename_i hl;obtain⟨a,ha,rfl⟩:=ix.of_ref;obtain⟨a',ha',xs,hx,la⟩:=sr.get hS;rw[ha]at ha';cases ha';obtain⟨y,rfl,iy⟩:=i.one;have eu:Ext K m H m (upd H a (.lst (xs++[y]))):=.of (sr.keep ha _);exact⟨a,xs,y,rfl,rfl,hx,Ng (by rw[la.length];exact hl),post m _ _ eu (sr.put ha ⟨_,aJ,(la.append (.cons_ iy .nil_)).mono eu⟩) .non_⟩
variable{co:CE}{o:ZR}{apos cpos:Pos}
def bY (ho : QE X o co) (ha : QA X (e :: es) cr) (hbase : attributeBase o "append" X.env (eval o X.env) = eval o X.env := by rfl) (hfew : ((Zi cpos (Z9 (e :: es) X.env)).all (fun x => !x.1) && (backToKw cpos (keywordEach [] X.env)).all (fun x => x.1.isSome)
   && decide ((e::es).length+([]:List Keyword).length+(if ([]:List Keyword).isEmpty then 0 else 1)<30))=true:=by rfl) (hline:(apos.endLine == cpos.line)=true:=by rfl) (hs:Z9 (e::es) X.env=(false,eval e X.env)::Z9 es X.env:=by rfl) (hplain:(Zi cpos (Z9 es X.env)).any (·.1)=false:=by rfl) :
  QE X (.Call (.Attribute o "append" apos) (e::es) [] cpos) (cBM bK co cr):=(zo YK PySem.F.slot_list_append PySem.F.type_list_append oj ho ha.h hbase hfew hline hs hplain).imp (xM DK)
end
def Py:CS:=fun ρ S=>some (.bk,ρ,S)
structure TC(K:Q3)(c:Cl)(NS:List Str):Prop where
 cl:Cls K c.C
 ns:c.ns=NS
 nas:∀f∈NS,jP K c.C f
section
variable{c:Cl}{NS:List Str}
def TC.ix(T:TC K c NS){i:Nat}{f:Str}(h:NS[i]?=some f):c.ns[i]?=some f:=by rw[T.ns];exact h
def TC.na(T:TC K c NS)(i:Nat){f:Str}(h:NS[i]?=some f):jP K c.C f:=T.nas f (XJ h)
def TC.nm(T:TC K c NS){f:Str}(h:f∉NS):f∉c.ns:=by rw[T.ns];exact h
end
def _root_.L2.Fun.pure{P:ZI}{w:Zk}{K:Q3}{mg:Str->Option Q4}{base:Heap}{x qual:Str}{st:Zv}{f:Addr}{fd:XE}{N ps:List Str}{k:Nat}{c:CS}(F:Fun K x qual st f fd)(S:cP N ps (aA st))
  (hb:∀(cdv:Q4) (A:Zy) (outer:List Env) (s:Q5) (H:Hp) (E:XK),fb k (A.deeper (envOfC qual (aA st) s.heap.objs.size f cdv))->
   WSs (oK CX0 P w K mg base N qual (aA st) f cdv A outer s H E).nox (bN st) (tS K c)):lQ P w K mg base CX0 (k+1) f fd ps (Cb K (fnU N.length ps.length c)):=
 Fun.okW F S (fun vs H Q E h=>mS h) fun cdv A outer s H vs Q E hr h=>⟨_,hb cdv A outer s H E hr,rK (X:=(oK CX0 P w K mg base N qual (aA st) f cdv A outer s H E).nox) (body:=[]) (ps:=ps) rfl h⟩
def SI:Bool->Heap->Addr->Addr->Nat->Prop
 |true,h,it,a,i=>h.IsListIter it a i
 |false,h,it,a,i=>h.IsTupleIter it a i
def SA:Bool->Heap->Addr->Array Q4->Prop
 |true,h,a,xs=>h.IsList a xs
 |false,h,a,xs=>h.IsTuple a xs
def SI.at_{b:Bool}{h h':Heap}{it a:Addr}{i:Nat}(x:SI b h it a i)(k:∀o,h.get? it=some o->h'.get? it=some o):SI b h' it a i:=by
 cases b with
 |true=>obtain⟨o,e,r⟩:=x;exact⟨o,k o e,r⟩
 |false=>obtain⟨o,e,r⟩:=x;exact⟨o,k o e,r⟩
def SA.at_{b:Bool}{h h':Heap}{a:Addr}{xs:Array Q4}(x:SA b h a xs)(k:∀o,h.get? a=some o->h'.get? a=some o):SA b h' a xs:=by
 cases b with
 |true=>obtain⟨o,e,r⟩:=x;exact⟨o,k o e,r⟩
 |false=>obtain⟨o,e,r⟩:=x;exact⟨o,k o e,r⟩
def SI.obj{b:Bool}{h:Heap}{it a:Addr}{i:Nat}(x:SI b h it a i):∃o,h.get? it=some o/\∀v,o.data≠.cell v:=by
 cases b with
 |true=>obtain⟨o,e,c,d⟩:=x;exact⟨o,e,fun v z=>by rw[d]at z;cases z⟩
 |false=>obtain⟨o,e,c,d⟩:=x;exact⟨o,e,fun v z=>by rw[d]at z;cases z⟩
def SA.lt{b:Bool}{h:Heap}{a:Addr}{xs:Array Q4}(x:SA b h a xs):a<h.objs.size:=by
 cases b with
 |true=>obtain⟨o,e,_⟩:=x;exact ZX e
 |false=>obtain⟨o,e,_⟩:=x;exact ZX e
variable{s:Q5}
section
variable{prog:ZI}{w:Zk}{A:Zy}{E:Q4->Q5->Prop}
def CM{I t:Addr}{j:Nat}{ys:Array Q4}{y:Q4}{Q:Q4->Q5->Prop}(hI:s.heap.IsTupleIter I t j)(hT:s.heap.IsTuple t ys)(hy:ys[j]?=some y)
  (k:∀h',h'.IsTupleIter I t (j+1)->Heap.SameBut I s.heap h'->Q y { s with heap:=h' }):wpAny (ZL prog w) A (Builtin.SmallTypes.nextOf (.ref I)) Q E s:=by
 obtain⟨oi,gi,ci,di⟩:=id hI;obtain⟨ot,gt,_,nt,dt⟩:=hT;unfold Builtin.SmallTypes.nextOf;refine Q8 (wpAny_callSpecial?_slot (name:=Str.ofString "__next__") hI.typeIs YJ (wpAny_call_entry YJ hI.typeIs PySem.F.entry_tuple_iterator_next ?_ (PySem.F.args_tuple_iterator_next_1 _)));show wpAny _ _ (field (.ref I) 0 >>= _) _ _ s;refine Q8 (wpAny_field gi di (x:=.ref t) rfl ?_);show wpAny _ _ (ite ((Value.ref t == Value.none)=true) _ _) _ _ s;rw[Xf (by exact Z8)];show wpAny _ _ (field (.ref I) 1 >>= _) _ _ s;refine Q8 (wpAny_field gi di (x:=.int j 0) rfl ?_);show wpAny _ _ (seqItems? (.ref t) >>= _) _ _ s;refine Q8 (wpAny_seqItems gt dt ?_);simp only[hy,YV];refine Q8 (wpAny_setField gi di nofun (ZC ⟨y,rfl,ZC (k _ ⟨_,Heap.get?_update_self _ gi (Obj.isFreed_of_fields (Obj.data_mapFields di _)),(Obj.cls_mapFields ..).trans ci,?_⟩ (Heap.SameBut.update ..))⟩));rw[Obj.data_mapFields di];simp[rawInt]
def sY{I t:Addr}{j:Nat}{ys:Array Q4}{Q:Q4->Q5->Prop}(hh:A.handled=none)(hI:s.heap.IsTupleIter I t j)(hT:s.heap.IsTuple t ys)(hy:ys[j]?=none)
  (k:∀h' e,Heap.ExtBut I s.heap h'->(∃o,h'.get? e=some o/\o.cls=.type "StopIteration")->E (.ref e) { s with heap:=h' }):wpAny (ZL prog w) A (Builtin.SmallTypes.nextOf (.ref I)) Q E s:=by
 obtain⟨oi,gi,ci,di⟩:=id hI;obtain⟨ot,gt,_,nt,dt⟩:=hT;unfold Builtin.SmallTypes.nextOf;refine Q8 (wpAny_callSpecial?_slot (name:=Str.ofString "__next__") hI.typeIs YJ (wpAny_call_entry YJ hI.typeIs PySem.F.entry_tuple_iterator_next ?_ (PySem.F.args_tuple_iterator_next_1 _)));show wpAny _ _ (field (.ref I) 0 >>= _) _ _ s;refine Q8 (wpAny_field gi di (x:=.ref t) rfl ?_);show wpAny _ _ (ite ((Value.ref t == Value.none)=true) _ _) _ _ s;rw[Xf (by exact Z8)];show wpAny _ _ (field (.ref I) 1 >>= _) _ _ s;refine Q8 (wpAny_field gi di (x:=.int j 0) rfl ?_);show wpAny _ _ (seqItems? (.ref t) >>= _) _ _ s;refine Q8 (wpAny_seqItems gt dt ?_);simp only[hy,YV];refine Q8 (wpAny_rule (Q8 (wpAny_setField gi di nofun ?_)));show wpAny _ _ (newExc (.type "StopIteration") [] >>= _) _ _ _;simp only[newExc,newTuple];refine Q8 ?_;refine Q8 (wpAny_newObj_type ?_ (by(size_fits)));refine Q8 (m:=firstArgMember _ _) (wpAny_of_eq (a:=Value.none) (by simp only[firstArgMember]<;>rfl) ?_);refine wpAny_newObj_type ?_ (by(size_fits));simp only[raiseNew];refine Q8 (wpAny_handled ?_);rw[show A.in1.handled=none from hh];exact Q8 (ZC (wpAny_throw (k _ _ (((Heap.SameBut.update ..).extBut.push _).push _) ⟨_,ZT _ rfl,rfl⟩)))
def Hb{b:Bool}{I t:Addr}{j:Nat}{ys:Array Q4}{y:Q4}{Q:Q4->Q5->Prop}(hI:SI b s.heap I t j)(hT:SA b s.heap t ys)(hy:ys[j]?=some y)
  (k:∀h',SI b h' I t (j+1)->Heap.SameBut I s.heap h'->Q y { s with heap:=h' }):wpAny (ZL prog w) A (Builtin.SmallTypes.nextOf (.ref I)) Q E s:=by
 cases b with
 |true=>exact wpAny_nextOf_list_item hI hT hy k
 |false=>exact CM hI hT hy k
def ng{b:Bool}{I t:Addr}{j:Nat}{ys:Array Q4}{Q:Q4->Q5->Prop}(hh:A.handled=none)(hI:SI b s.heap I t j)(hT:SA b s.heap t ys)(hy:ys[j]?=none)
  (k:∀h' e,Heap.ExtBut I s.heap h'->(∃o,h'.get? e=some o/\o.cls=.type "StopIteration")->E (.ref e) { s with heap:=h' }):wpAny (ZL prog w) A (Builtin.SmallTypes.nextOf (.ref I)) Q E s:=by
 cases b with
 |true=>exact wpAny_nextOf_list_end hh hI hT hy k
 |false=>exact sY hh hI hT hy k
def itO(b:Bool)(a:Addr):Obj:={ cls:=.type (if b then "list_iterator" else "tuple_iterator"),data:=.fields #[.ref a,.int 0 0] }
def L4{b:Bool}{a i:Addr}{h:Heap}(e:h.get? i=some (itO b a)):SI b h i a 0:=by
 cases b with
 |true=>exact⟨_,e,rfl,rfl⟩
 |false=>exact⟨_,e,rfl,rfl⟩
end
def Sq(K:Q3):Bool->Hp->Addr->List V->Prop
 |true,H,a,xs=>SqL K H a xs
 |false,H,a,xs=>SqT K H a xs
section
variable{pins:List (Addr×Obj)}{h':Heap}
def _root_.L2.Inv.turnedL{t':Nat}{ch:List Addr}(I:Inv X pins σ H s)(k:∀b o,b∉ch->s.heap.get? b=some o->h'.get? b=some o)(hf:∀b∈ch,yS X pins H b):Inv X pins σ H { s with heap:=h',toks:=t' }:=by
 have nit:∀b u,H b=some u->b∉ch:=fun b u e z=>by rw[(hf b z).1]at e;cases e
 refine I.step (g':=s.gens) (d':=s.drawn) (ch:=ch) (fun b hb=>⟨(hf b hb).2.2.2.1,(hf b hb).2.1,(hf b hb).2.2.2.2.1,(hf b hb).2.2.2.2.2⟩) (fun b o _ _ hc e _=>k b o hc e) (fun b o _ _ hc e _=>⟨o.slots,k b o hc e⟩) (fun _ _ _ _ n=>n)
  (fun b o hc e=>⟨o,k b o hc e⟩) (fun _ _ e=>e) (fun _ _ _ e=>e) (fun b ps e=>⟨#[],by rw[e];simp⟩) (fun m hm=>?_) (fun b u e=>?_) I.bare
 obtain⟨o,es,ep,ho,r⟩:=hm;exact⟨o,es,ep,k _ o (fun z=>(hf _ z).2.1 rfl) ho,r⟩;refine(I.hok b u e).stay (fun c v hc q=>k c v ?_ q) (fun _ q=>q) fun _ _ q=>q;rcases hc with z|z;rw[z];exact nit b u e;exact nit c _ z
def _root_.L2.Inv.sq{b:Bool}{a:Addr}{xs:List V}(I:Inv X pins σ H s)(h:Sq X.K b H a xs):∃its:List Q4,cm xs its/\SA b s.heap a its.toArray:=by
 cases b with
 |true=>obtain⟨its,r,p,_⟩:=I.list h;exact⟨its,r,p.isList⟩
 |false=>obtain⟨its,r,p,_⟩:=I.tuple h;exact⟨its,r,p⟩
def _root_.L2.Inv.sq_inj{b:Bool}{a:Addr}{xs ys:List V}(I:Inv X pins σ H s)(h:Sq X.K b H a xs)(h2:Sq X.K b H a ys):xs=ys:=by
 cases b with
 |true=>exact I.list_inj h h2
 |false=>exact I.tuple_inj h h2
end
def Df{h:Heap}{ob o:Obj}{e:Addr}(q:(h.push ob).get? e=some o)(ne:e≠h.objs.size):h.get? e=some o:=(Heap.get?_push_ne h e ob ne).symm.trans q
def DC{P:ZI}{w:Zk}{H:Hp}{h:Heap}{a:Addr}{x y:V}{u v:Q4}(e:h.get? a=some { cls:=.type "tuple",data:=.seq #[u,v] })(rx:dk x u)(ry:dk y v):eN P w H h a (.tup [x,y]):=
 ⟨by show 2<=ZU;decide,[u,v],.cons rx (.cons ry .nil),⟨_,e,rfl,_,rfl⟩⟩
def Jj:U->Sto->Option (List U×(Sto->Prop))
 |.tup us,_=>some (us,fun _=>True)
 |.ref l,S=>match S[l]? with
  |some (.lst us)=>some (us,fun S=>S[l]?=some (.lst us))
  |_=>none
 |_,_=>none
def Ku{K:Q3}{m:List Addr}{S:Sto}{H:Hp}{u:U}{v:V}{us:List U}{ok:Sto->Prop}(sr:Sr K m S H)(iu:Is K m H v u)(h:Jj u S=some (us,ok)) :
  ∃b a,v=.ref a/\(∃xs,Sq K b H a xs)/\∀m2 S2 H2,Ext K m H m2 H2->Sr K m2 S2 H2->ok S2->∃xs,Sq K b H2 a xs/\IsL K m2 H2 xs us:=by
 cases u with
 |tup ws=>
  cases h;obtain⟨a,xs,rfl,sq,il⟩:=iu.of_tup;exact⟨false,a,rfl,⟨xs,sq⟩,fun m2 S2 H2 e _ _=>⟨xs,e.keep.t _ _ sq,il.mono e⟩⟩
 |ref l=>
  simp only[Jj]at h;split at h<;>try cases h
  rename_i us hS;obtain⟨a,ha,rfl⟩:=iu.of_ref;obtain⟨a',ha',xs,hx,il⟩:=sr.get hS;rw[ha]at ha';cases ha';refine⟨true,a,rfl,⟨xs,SqL.of hx⟩,fun m2 S2 H2 e sr2 hok=>?_⟩;obtain⟨a',ha',xs,hx,il⟩:=sr2.get hok;rw[e.get ha]at ha';cases ha';exact⟨xs,SqL.of hx,il⟩
 |_=>simp[Jj]at h
def IT{b:Bool}{prog:ZI}{w:Zk}{A:Zy}(hh:A.handled=none)(it a:Addr)(hne:a≠it)(ys:Array Q4) :
  Draws prog w A it [it,a] ys.size (fun i v=>ys[i]?=some v) (fun i h=>SI b h it a i/\SA b h a ys) where
 live:=fun _ _ st=>let ⟨o,ho,_⟩:=st.1.obj;⟨o,ho⟩
 frame:=fun _ _ _ st hk=>⟨st.1.at_ fun o e=>hk it nofun o e,st.2.at_ fun o e=>hk a nofun o e⟩
 item:=fun i s Q E hi st hQ=>Hb st.1 st.2 (y:=ys[i]) (by simp[hi]) fun h' it' s'=>hQ _ h' s.toks (by simp[hi]) ⟨it',st.2.at_ fun o e=>s'.extBut _ _ hne e⟩ s'
 done:=fun s Q E st hE=>ng hh st.1 st.2 nofun hE
structure ESt(b:Bool)(h:Heap)(e it a:Addr)(n:Nat):Prop where
 he:∃old,IsEnum h e it n old
 hi:SI b h it a n
def Bo(l:Addr)(ys:Array Q4)(n:Nat)(dct:Option Addr)(sl:Array (Option Q4)) :
  Meets (Builtin.«enumerate.__new__» ⟨[.type "enumerate",.ref l],[]⟩) (fun _ R s=>s.heap.get? l=some { cls:=.type "tuple",dict:=dct,data:=.seq ys n,slots:=sl }/\
   R (.ok (.ret (.ref (s.heap.push (itO false l)).objs.size))) { s with heap:=(s.heap.push (itO false l)).push { cls:=.type "enumerate",data:=.fields #[.none,.bool false,.ref s.heap.objs.size,rawInt 0,.none,.none] } }):=
 .of_wp fun prog w A R s q=>by
  obtain⟨hp,g,d,tk,os⟩:=s;obtain⟨gl,q⟩:=q;have sb:=sub_enumerate;have tl:Heap.IsTuple (Shared.heap ⟨hp,g,d,tk,os⟩) l ys:=⟨_,gl,rfl,n,rfl⟩
  wp_walk using wpAny_loadPart' gl
  refine wpAny_stack_any (fun st=>ZC ?_);split
  ·rename_i c _ _ _ _ _;cases (c == Value.type "enumerate")<;>(wp_walk using wpAny_loadPart' gl,wpAny_pyIter_tuple tl;exact⟨_,rfl,q⟩)
  wp_walk using wpAny_loadPart' gl,wpAny_pyIter_tuple tl
  exact⟨_,rfl,q⟩
def Bp{b:Bool}{prog:ZI}{w:Zk}{A:Zy}{E:Q4->Q5->Prop}{s:Q5}{a:Addr}{ys:Array Q4}{Q:Q4->Q5->Prop}(ha:SA b s.heap a ys)
  (k:∀h' e it,e≠it->s.heap.objs.size<=e->s.heap.objs.size<=it->ESt b h' e it a 0->(∀c o,s.heap.get? c=some o->h'.get? c=some o)->Q (.ref e) { s with heap:=h' }) :
  wpAny (ZL prog w) A (call (.type "enumerate") [.ref a]) Q E s:=by
 cases b with
 |true=>exact call_enumerate_list ha fun h' e1 e2 sz up=>k h' _ _ ⋯ (Nat.le_add_right _ _) (Z6 _) ⟨⟨_,e1⟩,e2⟩ up
 |false=>
  obtain⟨⟨c,dct,dt,sl⟩,gl,hc,n,hd⟩:=ha;simp only at hc hd;subst hc hd;refine callType_new PySem.F.called_enumerate ∅ (PySem.F.typeCall_enumerate_1 _) (PySem.F.newCall_enumerate_1 _) (fun obj=>PySem.F.args_object_init_2 obj _) PySem.F.entry_enumerate_new (Bo a ys n dct sl) ⟨gl,?_⟩;have n1:(s.heap.push (itO false a)).objs.size=s.heap.objs.size+1:=Yd ..;have p2:=ZT (s.heap.push (itO false a)) (o:={ cls:=.type "enumerate",data:=.fields #[.none,.bool false,.ref s.heap.objs.size,rawInt 0,.none,.none] }) rfl;have p1:((s.heap.push (itO false a)).push { cls:=.type "enumerate",data:=.fields #[.none,.bool false,.ref s.heap.objs.size,rawInt 0,.none,.none] }).get? s.heap.objs.size=some (itO false a):=Q9 _ (ZT _ rfl);rw[n1]at p2;show _/\_;rw[n1];exact⟨⟨_,p2,rfl⟩,k _ (s.heap.objs.size+1) s.heap.objs.size (Xj (Nat.lt_succ_self _)) (Nat.le_add_right _ _) (Z6 _) ⟨⟨_,p2⟩,L4 p1⟩ fun c o x=>Q9 _ (Q9 _ x)⟩
def Em{b:Bool}{prog:ZI}{w:Zk}{A:Zy}{E:Q4->Q5->Prop}{s:Q5}{e it a:Addr}{i:Int}{j:Nat}{ys:Array Q4}{old:Q4}{Q:Option Q4->Q5->Prop}(hh:A.in1.handled=none)(he:IsEnum s.heap e it i old)(hi:SI b s.heap it a j)(ha:SA b s.heap a ys)(hx:ys[j]?=none)
  (k:∀h',Heap.ExtBut it s.heap h'->Q none { s with heap:=h' }):wpAny (ZL prog w) A (pyNext (.ref e)) Q E s:=by
 have ty:s.TypeIs (.ref e) "enumerate":=⟨_,he,rfl⟩;unfold pyNext;refine Q8 (wpAny_attempt (wpAny_callSpecial?_slot (name:=Str.ofString "__next__") ty PySem.F.slot_enumerate_next (wpAny_call_entry PySem.F.slot_enumerate_next ty PySem.F.entry_enumerate_next ?_ (PySem.F.args_enumerate_next_1 _))));show wpAny _ _ (field (.ref e) 2 >>= fun _=>_) _ _ _;refine Q8 (wpAny_field he rfl (x:=.ref it) rfl (Q8 (ng hh hi ha hx fun h' x he' hx'=>?_)));obtain⟨o,ho,co⟩:=hx';exact Q8 (wpAny_isInstance (T:="StopIteration") (b:=true) ⟨o,ho,co⟩ isSubtype_stop (ZC (k _ he')))
def Ite(K:Q3)(b:Bool)(a:Addr):It:=
  ⟨fun i H=>∃xs x,Sq K b H a xs/\xs[i]?=some x,
   fun i H v H'=>∃p x,v=.ref p/\H p=none/\H'=upd H p (.tup [.int i,x])/\∀xs,Sq K b H a xs->xs[i]?=some x,
   fun i H=>∃xs,Sq K b H a xs/\xs.length<=i⟩
def zD{P:ZI}{w:Zk}{K:Q3}{es:List ZR}{k:Nat}{pos:Pos}{b:Bool}{e it a:Addr}(ne:e≠it)(nae:a≠e)(nai:a≠it) :
  Js P w K (.Tuple es k pos) (Ite K b a) [e,it] e (fun n h=>ESt b h e it a n) where
 mem:=by simp
 obj:=fun n h st c hc=>by
  obtain⟨⟨old,he⟩,hi⟩:=st;simp only[ZD,XB,or_false]at hc;rcases hc with rfl|rfl;exact⟨_,he,fun v q=>by cases q⟩;exact hi.obj
 keep:=fun n h h' st kp=>let ⟨old,he⟩:=st.he;⟨⟨old,kp e nofun _ he⟩,st.hi.at_ fun o q=>kp it nofun o q⟩
 item:=by
  intro X hP hw hK hc n pins s σ H E Iv hf st hg;subst hP hw hK;obtain⟨xs,x,qa,hx⟩:=hg;obtain⟨ia,ra,sa⟩:=Iv.sq qa;obtain⟨u,hu,ru⟩:=ra.get hx;obtain⟨⟨old,he⟩,hi⟩:=st;have hlt:n<ia.toArray.size:=by simpa using (Q6.mp hu).1
  refine wpAny_pyNext_enum_itemD (IT (b:=b) (show X.A.in1.handled=none from Iv.ok.hd hc) it a nai ia.toArray) he ⟨hi,sa⟩ hlt ne (by simp[ne,Ne.symm nae]) fun y h1 tk py out1 st1 T1 sz1 up1=>⟨_,rfl,wpAny_letOwnedTupleGo_enum out1 fun h2 e2 s2=>?_⟩;have ey:y=u:=by
   have p':ia.toArray[n]?=some y:=py;rw[List.getElem?_toArray,hu]at p';cases p';rfl
  subst ey;have hfr:H s.heap.objs.size=none:=Iv.hok.fresh (Z6 _);have elt:e<s.heap.objs.size:=ZX he;have ilt:it<s.heap.objs.size:=by obtain⟨o,q,_⟩:=hi.obj;exact ZX q
  have sz:∀c∈[e,it],c<s.heap.objs.size:=fun c hc=>by
   simp only[ZD,XB,or_false]at hc;rcases hc with rfl|rfl;exact elt;exact ilt
  have T2:h2.get? s.heap.objs.size=some { cls:=.type "tuple",data:=.seq #[.int n tk,y] }:=s2.extBut _ _ (Xj elt) T1;have I1:Inv X pins σ (upd H s.heap.objs.size (.tup [.int n,x])) { s with heap:=s.heap.push { cls:=.type "tuple",data:=.seq #[.int n tk,y] },toks:=s.toks }:=
   Iv.laid (fun b o e=>Q9 _ e) (Z6 _) (DC (ZT _ rfl) ⟨tk,rfl⟩ ru)
  have fr2:∀c∈[e,it],(upd H s.heap.objs.size (.tup [.int n,x])) c=none:=fun c hc=>by rw[aM (Zq (sz c hc))];exact(hf c hc).1
  have I2:Inv X pins σ (upd H s.heap.objs.size (.tup [.int n,x])) { s with heap:=h2,toks:=tk+1 }:=
   Inv.turnedL (s:={ s with heap:=s.heap.push { cls:=.type "tuple",data:=.seq #[.int n tk,y] },toks:=s.toks }) (h':=h2) (t':=tk+1) (ch:=[e,it]) I1 (fun c o hn q=>by
    by_cases ce:c=s.heap.objs.size;subst ce;have q':(s.heap.push { cls:=.type "tuple",data:=.seq #[.int n tk,y] }).get? s.heap.objs.size=some o:=q;rw[ZT _ rfl]at q';cases q';exact T2;have q':s.heap.get? c=some o:=Df q ce;simp only[ZD,XB,or_false,not_or]at hn;exact s2.extBut _ _ hn.1 (up1 c o hn.1 hn.2 q')) fun c hc=>⟨fr2 c hc,(hf c hc).2⟩
  refine⟨.ref s.heap.objs.size,_,I2,rfl,⟨_,x,rfl,hfr,rfl,fun xs' q=>by rw[Iv.sq_inj q qa];exact hx⟩,⟨⟨_,by simpa using e2⟩,st1.1.at_ fun o q=>s2.extBut _ _ (Ne.symm ne) q⟩,fr2⟩
 done:=by
  intro X hP hw hK hc n pins s σ H E Iv hf st hg;subst hP hw hK;obtain⟨xs,qa,hx⟩:=hg;obtain⟨ia,ra,sa⟩:=Iv.sq qa;have la:=ra.length;obtain⟨⟨old,he⟩,hi⟩:=st;refine Em (show X.A.in1.handled=none from Iv.ok.hd hc) he hi sa (by simp;omega) fun h1 up1=>⟨rfl,?_⟩;exact Iv.turnedL (t':=s.toks) (ch:=[e,it]) (fun c o hn q=>by
   simp only[ZD,XB,or_false,not_or]at hn;exact up1 c o hn.2 q) hf
 self:=fun _ _ _ _ _ st h=>let ⟨old,he⟩:=st.he;wpAny_pyIter_enum he h
def L8(K:Q3)(ta:TA):TI:=fun σ H R=>ta σ H fun vs H2=>∃b a,vs=[.ref a]/\(∃xs,Sq K b H2 a xs)/\R (Ite K b a) H2
def BL:Zn "enumerate"=some (.type "enumerate"):=rfl
def GW{es:List ZR}{k:Nat}{tp p:Pos}{a:ZR}{ta:TA}(hg:Gl X "enumerate")(hm:X.mg "enumerate"=none)(ha:WA X [a] ta)
  (hs:Z9 [a] X.env=(false,eval a X.env)::Z9 [] X.env:=by rfl) (hpl:(Zi pos (Z9 [] X.env)).any (·.1)=false:=by rfl):WI X (.Tuple es k tp) (.Call (.Name "enumerate" p) [a] [] pos) (L8 X.K ta):=by
 constructor;intro pins s σ H R I h;refine wpAny_Call_Name_kw (uc I hg hm OP.BL ?_);refine PyProof.Rows.callWith_type1 (thn (ha.h pos pins s σ H _ I h) fun us s1 hz=>?_) hs hpl;obtain⟨vs,H1,I1,r1,q1⟩:=hz;obtain⟨b,aa,rfl,⟨xs,qa⟩,q⟩:=q1;obtain⟨u,rfl,ru⟩:=m8 r1;cases ru;obtain⟨ia,ra,sa⟩:=I1.sq qa;refine Bp sa fun h1 e it ne he hi st up=>?_;obtain⟨old,hE⟩:=st.he;refine wpAny_pyIter_enum hE ⟨e,[e,it],_,_,H1,rfl,I1.kept (t':=s1.toks) up,zD ne (Zq (ZE sa.lt he)) (Zq (ZE sa.lt hi)),st,fun c hc=>?_,q⟩;simp only[ZD,XB,or_false]at hc;rcases hc with rfl|rfl;exact I1.fpOk he (I1.hok.fresh he);exact I1.fpOk hi (I1.hok.fresh hi)
def yB(us:List U):List U:=us.zipIdx.map fun p=>.tup [.int p.2,p.1]
def vK(ca:CE):CI:=fun ρ S=>(ca ρ S).bind fun p=>(Jj p.1 p.2).bind fun x=>some (yB x.1,x.2,p.2)
def zZ{es:List ZR}{k:Nat}{tp p:Pos}{a:ZR}{ca:CE}(hg:Gl X "enumerate")(hm:X.mg "enumerate"=none)(ha:QE X a ca)
  (hs:Z9 [a] X.env=(false,eval a X.env)::Z9 [] X.env:=by rfl) (hpl:(Zi pos (Z9 [] X.env)).any (·.1)=false:=by rfl) :
  QI X (.Tuple es k tp) (.Call (.Name "enumerate" p) [a] [] pos) (vK ca):=(GW hg hm (wC ha zq hs) hs hpl).imp fun σ H R hz=>xw hz fun m ρ S us ok S' sr lr hf post=>by
 obtain⟨⟨x,S1⟩,h1,h⟩:=Q2.mp hf;obtain⟨⟨xs,okx⟩,h3,h⟩:=Q2.mp h;cases h;refine⟨m,ρ,S,x,_,sr,lr,h1,fun m1 v1 H1 e1 sr1 i1=>?_⟩;obtain⟨b,aa,rfl,q1,k1⟩:=Ku sr1 i1 h3;refine⟨b,aa,rfl,q1,post m1 H1 _ e1 sr1 fun m3 S3 H3 i e3 sr3 hok=>?_⟩;obtain⟨vs,sq1,l1⟩:=k1 m3 S3 H3 e3 sr3 hok;have n1:=l1.length;refine⟨fun u hu=>?_,fun hi=>⟨vs,sq1,?_⟩⟩;simp only[yB,ZP,XH,List.getElem?_zipIdx]at hu;obtain⟨⟨p,q⟩,⟨y,hp,e⟩,rfl⟩:=hu;cases e;obtain⟨vp,ep,ip⟩:=l1.getD hp;refine⟨⟨vs,vp,sq1,ep⟩,fun v H4 hy=>?_⟩;obtain⟨r,x',rfl,hr,rfl,f1⟩:=hy;have:=f1 vs sq1;rw[ep]at this;cases this;have ee:Ext X.K m3 H3 m3 (upd H3 r (.tup [.int i,vp])):=.of (cL hr _);exact⟨ee,sr3.same (iF hr _),.tup_ (SqT.of aJ) (.cons_ (by simp only[YT];exact .int_) (.cons_ (ip.mono ee) .nil_))⟩;simp only[yB,Q7,List.length_zipIdx]at hi;omega
def ug:∀{vs:List Q4} {ns:List Int},IntsAre vs ns->cm (ns.map V.int) vs
 |_,_,.nil=>.nil
 |_,_,.cons n t r=>.cons ⟨t,rfl⟩ (ug r)
def ja:∀{ns:List Int} {vs:List Q4},cm (ns.map V.int) vs->IntsAre vs ns
 |[],_,h=>by cases h;exact .nil
 |n::ns,_,.cons r t=>by
  obtain⟨k,rfl⟩:=r;exact .cons n k (ja t)
def zW(K:Q3):List V->Hp->VK->Prop:=fun xs H Q=>∃(p:Addr) (ns:List Int),xs=[.ref p]/\(SqL K H p (ns.map V.int)\/∃kvs,H p=some (.dK kvs)/\kvs.map (·.1)=ns.map Sum.inl)/\ns.length<64/\
 ∀(l:Addr) (ms:List Int),H l=none->ms.Perm ns->ms.Pairwise (·<=·)->Q (.ref l) (upd H l (.lst (ms.map V.int)))
def vG{κ:Type}:∀{kvs:List (κ×V)} {vs:List (κ×Q4)},KV kvs vs->vs.map (·.1)=kvs.map (·.1)
 |_,_,.nil=>rfl
 |_,_,.cons r t=>by rw[ZK,ZK,vG t,r.1]
def AB{P:ZI}{w:Zk}{H:Hp}{h:Heap}{a:Addr}{ms:List Int}{out:Array Q4}{e:Nat}(g:h.get? a=some (seqObj "list" out e))(hI:IntsAre out.toList ms)(hl:ms.length<64):eN P w H h a (.lst (ms.map V.int)):=
 ⟨by rw[Q7];exact YU (ZE hl (by unfold ZU;decide)),out.toList,e,ug hI,by rw[Array.toArray_toList];exact g⟩
def wV{X:Cx}(hc:X.calm=true):hV X (.builtin "sorted") (zW X.K):=by
 rintro pins s σ H xs us Q I r ⟨p,ns,rfl,src,h64,q⟩;obtain⟨u,rfl,ru⟩:=m8 r;cases ru;rcases src with hL|⟨kvs,hD,hk⟩;obtain⟨its,rv,pl,hz⟩:=I.list hL;have hI:=ja rv;have hlen:=rv.length;rw[Q7]at hlen;refine sorted_ints pl.isList hI ⋯ fun out ms a1 a2 a3=>?_;obtain⟨e,ge⟩:=sortedAll_at s.heap its out;have hf:=I.hok.fresh (Xg s.heap.objs.size);exact⟨.ref (s.heap.objs.size+1),_,I.laid (t':=s.toks) (fun b o e=>sortedAll_old e) (Xg _) (AB ge a1 (by rw[a2.length_eq];exact h64)),rfl,q _ ms hf a2 a3⟩;obtain⟨z,hd,vs,rel,dd⟩:=Bw I.hok hD;obtain⟨ep,da⟩:=dd.dictAt;have lkv:kvs.length=ns.length:=by have:=congrArg List.length hk;simpa using this
 have lv:vs.length=ns.length:=by rw[<-Paired.length rel];exact lkv
 have ks:vs.map (·.1)=ns.map Sum.inl:=by
  rw[<-hk];exact vG rel
 refine Calls.call_function_entry kind_sorted plain_sorted entry_sorted (args_sorted1 _) ?_;unfold Builtin.«sorted»;refine Q8 (m:=checkCount "sorted" 1 1 _) (ZC (Q8 (PySem.W.kdu_collect (PySem.W.kdl_dict (kvs:=vs) (ep:=ep) hd) (show X.A.in1.handled=none from I.ok.hd hc) da (by rw[lv,<-lkv];exact z) fun h1 tk acc up hac=>?_)));have hla:acc.toList.length=ns.length:=by rw[Zm,hac.1,lv]
 have hI:IntsAre acc.toList ns:=by
  have key:∀(i:Nat) (v:Q4),acc.toList[i]?=some v->∃(n:Int) (t:Tok),ns[i]?=some n/\v=Value.int n t:=fun i v e=>by
   obtain⟨k,x,e1,e2⟩:=hac.2 i v (by rw[<-Array.getElem?_toList];exact e);have e3:(vs.map (·.1))[i]?=some k:=by rw[ZP,e1];rfl
   rw[ks,ZP]at e3;obtain⟨n,e4,e5⟩:=XH.mp e3;subst e5;rcases bJ (k:=Sum.inl n) e2 with⟨j,t,e6,e7⟩|⟨j,t,e6,e7⟩;cases e6;exact⟨n,t,e4,e7⟩;cases e6
  clear hac;generalize acc.toList=L at key hla;clear ks lv lkv h64 q hk;induction L generalizing ns with
  |nil=>cases ns with
   |nil=>exact .nil
   |cons a b=>simp at hla
  |cons a b ih=>cases ns with
   |nil=>simp at hla
   |cons c d=>
    obtain⟨n,t,e1,e2⟩:=key 0 a nofun;simp at e1;subst e1;subst e2;exact .cons _ t (ih _ (fun i v e=>by have:=key (i+1) v (by simpa using e);simpa using this) (by simpa using hla))
 refine Q8 (wpAny_newList ?_ (by rw[hla,<-lkv];exact z));have gL:(h1.push { cls:=.type "list",data:=.seq acc.toList.toArray }).get? h1.objs.size=some (seqObj "list" acc.toList.toArray 0):=ZT _ rfl;refine Q8 (wpAny_holding (wpAny_call_entry slot_list_sort ⟨_,gL,rfl⟩ entry_list_sort (list_sort_tree (s:={ s with heap:=h1.push { cls:=.type "list",data:=.seq acc.toList.toArray },toks:=tk }) gL hI ⋯ fun out ms a1 a2 a3=>⟨_,rfl,?_⟩) (args_list_sort _)));obtain⟨e,ge⟩:=sortedHeap_at (out:=out) gL;have I1:Inv X pins σ H { s with heap:=h1,toks:=tk }:=I.kept up;have hf:=I1.hok.fresh (Z6 h1.objs.size);refine ZC ⟨_,rfl,.ref h1.objs.size,_,Inv.laid (s:={ s with heap:=h1,toks:=tk }) (h':=sortedHeap (h1.push { cls:=.type "list",data:=.seq acc.toList.toArray }) h1.objs.size acc.toList out) (t':=tk) I1 (fun b o g1=>?_) (Z6 _) (AB ge a1 (by rw[a2.length_eq];exact h64)),rfl,q _ ms hf a2 a3⟩;have g1:h1.get? b=some o:=g1;have lt1:=ZX g1;rw[sortedHeap_old (Zq lt1) (by rw[Yd];exact Nat.lt_succ_of_lt lt1)];exact Q9 _ g1
noncomputable def bL(ns:List Int):List Int:=ns.mergeSort (fun a b=>decide (a<=b))
def ib(ns:List Int):(bL ns).Perm ns:=List.mergeSort_perm ..
def tq(ns:List Int):(bL ns).Pairwise (·<=·):=by
 have:=List.pairwise_mergeSort (le:=fun(a b:Int)=>decide (a<=b)) (fun a b c h1 h2=>by simp at h1 h2 ⊢;omega) (fun a b=>by simp;omega) ns;exact this.imp fun h=>by simpa using h
def qU{ns ms:List Int}(p:ms.Perm ns)(s:ms.Pairwise (·<=·)):ms=bL ns:=PySem.W.lks_uniq (p.trans (ib ns).symm) s (tq ns)
def ox:List (Key×U)->Option (List Int)
 |[]=>some []
 |(.inl n,_)::r=>(ox r).map (n::·)
 |_=>none
def rh:∀{kus:List (Key×U)} {ns:List Int},ox kus=some ns->kus.map (·.1)=ns.map Sum.inl
 |[],ns,h=>by cases h;rfl
 |(k,u)::r,ns,h=>by
  cases k<;>simp only[ox]at h<;>try cases h
  obtain⟨ms,e,h⟩:=XH.mp h;subst h;simp[rh e]
def jh:Fn
 |[.ref l],S=>match S[l]? with
  |some (.lst us)=>(Eg us).bind fun ns=>if ns.length<64 then some (.ref S.length,S++[.lst ((bL ns).map U.int)])else none
  |some (.dic kus)=>(ox kus).bind fun ns=>if ns.length<64 then some (.ref S.length,S++[.lst ((bL ns).map U.int)])else none
  |_=>none
 |_,_=>none
def wO{K:Q3}:mO K (zW K) jh:=by
 intro m S H us vs u S' Q sr i hf post;match us,hf with
 |[.ref l],hf=>
  obtain⟨v,rfl,iv⟩:=i.one;obtain⟨a,ha,rfl⟩:=iv.of_ref;simp only[jh]at hf;split at hf<;>try cases hf
  ·rename_i ws hS;obtain⟨ns,hn,h⟩:=Q2.mp hf;split at h<;>try cases h
   have hc:ns.length<64:=by assumption
   obtain⟨a',ha',xs,hx,la⟩:=sr.get hS;rw[ha]at ha';cases ha';rw[xp hn]at la;rw[la.ints]at hx;refine⟨a,ns,rfl,.inl (SqL.of hx),hc,fun p ms hp pm sm=>?_⟩;rw[qU pm sm];exact fH sr (mX _) post hp
  ·rename_i ws hS;obtain⟨ns,hn,h⟩:=Q2.mp hf;split at h<;>try cases h
   have hc:ns.length<64:=by assumption
   obtain⟨a',ha',kvs,hx,ip⟩:=sr.get hS;rw[ha]at ha';cases ha';refine⟨a,ns,rfl,.inr ⟨kvs,hx,by rw[ip.1,rh hn]⟩,hc,fun p ms hp pm sm=>?_⟩;rw[qU pm sm];exact fH sr (mX _) post hp
variable{t:CT}{cc:CE}{x:U}
section
variable{u y:U}{f:U->U->Sto->Option (U×Sto)}{b:Bool}
def Qc(S:Sto):Option (Option U)->Option (U×Sto)
 |some (some u)=>some (u,S)
 |_=>none
def sO:ak i ρ S=Qc S (ρ[i]?):=rfl
def lR:Qc S (some (some u))=some (u,S):=rfl
def x_c:cC u ρ S=some (u,S):=rfl
noncomputable def O8(f:U->U->Sto->Option (U×Sto))(x:U)(q:U×Sto):=f x q.1 q.2
def Qi(f:U->U->Sto->Option (U×Sto))(cb:CE)(ρ:Rho)(p:U×Sto):=(cb ρ p.2).bind (O8 f p.1)
def Jh:cOp f ca cb ρ S=(ca ρ S).bind (Qi f cb ρ):=rfl
def xY:Qi f cb ρ (x,S)=(cb ρ S).bind (O8 f x):=rfl
def xX:O8 f x (y,S)=f x y S:=rfl
def LS:U×Sto->Option (Bool×Sto)
 |(.bl b,S)=>some (b,S)
 |_=>none
def wm:aR ca ρ S=(ca ρ S).bind LS:=by
 unfold aR;congr 1;funext p;obtain⟨u,S⟩:=p;cases u<;>rfl
def qL:LS (.bl b,S)=some (b,S):=rfl
def Pg(tb:CT)(ρ:Rho)(p:Bool×Sto):=if p.1=true then tb ρ p.2 else some (false,p.2)
def kOr(tb:CT)(ρ:Rho)(p:Bool×Sto):=if p.1=true then some (true,p.2)else tb ρ p.2
def Qj(p:Bool×Sto):Option (Bool×Sto):=some (!p.1,p.2)
def JW:yH ta tb ρ S=(ta ρ S).bind (Pg tb ρ):=rfl
def E1:Pg tb ρ (true,S)=tb ρ S:=rfl
def EZ:Pg tb ρ (false,S)=some (false,S):=rfl
def Qy:cOr ta tb ρ S=(ta ρ S).bind (kOr tb ρ):=rfl
def NN:kOr tb ρ (true,S)=some (true,S):=rfl
def NM:kOr tb ρ (false,S)=tb ρ S:=rfl
def NO:Jq ta ρ S=(ta ρ S).bind Qj:=rfl
def JG:Qj (b,S)=some (!b,S):=rfl
def Iu(cb:CE)(ρ:Rho):U×Sto->Option (U×Sto)
 |(.bl true,S)=>cb ρ S
 |(.bl false,S)=>some (.bl false,S)
 |_=>none
def O7(cb:CE)(ρ:Rho):U×Sto->Option (U×Sto)
 |(.bl false,S)=>cb ρ S
 |(.bl true,S)=>some (.bl true,S)
 |_=>none
def LV:U×Sto->Option (U×Sto)
 |(.bl b,S)=>some (.bl (!b),S)
 |_=>none
def JV:yG ca cb ρ S=(ca ρ S).bind (Iu cb ρ):=by
 unfold yG;congr 1;funext p;obtain⟨u,S⟩:=p;cases u with
 |bl b=>cases b<;>rfl
 |_=>rfl
def Gu:Iu cb ρ (.bl true,S)=cb ρ S:=rfl
def Gs:Iu cb ρ (.bl false,S)=some (.bl false,S):=rfl
def NL:MG ca cb ρ S=(ca ρ S).bind (O7 cb ρ):=by
 unfold MG;congr 1;funext p;obtain⟨u,S⟩:=p;cases u with
 |bl b=>cases b<;>rfl
 |_=>rfl
def JE:O7 cb ρ (.bl false,S)=cb ρ S:=rfl
def JD:O7 cb ρ (.bl true,S)=some (.bl true,S):=rfl
def JF:EB ca ρ S=(ca ρ S).bind LV:=by
 unfold EB;congr 1;funext p;obtain⟨u,S⟩:=p;cases u<;>rfl
def Gi:LV (.bl b,S)=some (.bl (!b),S):=rfl
def AX(u:U)(q:List U×Sto):Option (List U×Sto):=some (u::q.1,q.2)
def FF(cr:CA)(ρ:Rho)(p:U×Sto):=(cr ρ p.2).bind (AX p.1)
def sP:ay ρ S=some ([],S):=rfl
def lS:ag ca cr ρ S=(ca ρ S).bind (FF cr ρ):=rfl
def jR:FF cr ρ (u,S)=(cr ρ S).bind (AX u):=rfl
def jQ:AX u (us,S)=some (u::us,S):=rfl
def Qd(p:List U×Sto):Option (U×Sto):=some (.tup p.1,p.2)
def Qk(p:List U×Sto):Option (U×Sto):=some (.ref p.2.length,p.2++[.lst p.1])
def Nz:iU cr ρ S=(cr ρ S).bind Qd:=rfl
def Jx:Qd (us,S)=some (.tup us,S):=rfl
def JH:hX cr ρ S=(cr ρ S).bind Qk:=rfl
def EV:Qk (us,S)=some (.ref S.length,S++[.lst us]):=rfl
noncomputable def kCB(f:Fn)(p:List U×Sto):=f p.1 p.2
def Gr{f:Fn}:cCB f cr ρ S=(cr ρ S).bind (kCB f):=rfl
def x4{f:Fn}:kCB f (us,S)=f us S:=rfl
def Nh(c2:CS):Out×Rho×Sto->Option (Out×Rho×Sto)
 |(.nx,ρ,S)=>c2 ρ S
 |(o,ρ,S)=>some (o,ρ,S)
def EU:bW ρ S=some (.nx,ρ,S):=rfl
def xW:aS c1 c2 ρ S=(c1 ρ S).bind (Nh c2):=by
 unfold aS;congr 1;funext p;obtain⟨o,ρ,S⟩:=p;cases o<;>rfl
def wo:Nh c2 (.nx,ρ,S)=c2 ρ S:=rfl
def JB:Nh c2 (.rt u,ρ,S)=some (.rt u,ρ,S):=rfl
def JA:Nh c2 (.bk,ρ,S)=some (.bk,ρ,S):=rfl
def LX(ρ:Rho)(p:U×Sto):Option (Out×Rho×Sto):=some (.nx,ρ,p.2)
def Qh(ρ:Rho)(p:U×Sto):Option (Out×Rho×Sto):=some (.rt p.1,ρ,p.2)
def EY:bR ca ρ S=(ca ρ S).bind (LX ρ):=rfl
def yX:LX ρ (u,S)=some (.nx,ρ,S):=rfl
def Gg:b7 ca ρ S=(ca ρ S).bind (Qh ρ):=rfl
def JC:Qh ρ (u,S)=some (.rt u,ρ,S):=rfl
noncomputable def O9(c1 c2:CS)(ρ:Rho)(p:Bool×Sto):=if p.1=true then c1 ρ p.2 else c2 ρ p.2
def x3:dY t c1 c2 ρ S=(t ρ S).bind (O9 c1 c2 ρ):=rfl
def wx:O9 c1 c2 ρ (true,S)=c1 ρ S:=rfl
def wt:O9 c1 c2 ρ (false,S)=c2 ρ S:=rfl
def Qe(i:Nat)(ρ:Rho)(p:U×Sto):Option (Out×Rho×Sto):=some (.nx,ρ.set i (some p.1),p.2)
def yU:cQ i ca ρ S=(ca ρ S).bind (Qe i ρ):=rfl
def yT:Qe i ρ (u,S)=some (.nx,ρ.set i (some u),S):=rfl
def N9:gNm i u ρ S=some (ρ.set i (some u),S):=rfl
def N7{is:List Nat}:gTp is (.tup us) ρ S=(iZ is us ρ).bind fun ρ'=>some (ρ',S):=rfl
def JY:iZ [] [] ρ=some ρ:=rfl
def JX{is:List Nat}:iZ (i::is) (u::us) ρ=iZ is us (ρ.set i (some u)):=rfl
def LU(ρ:Rho)(S':Sto):Option (Out×Rho×Sto):=some (.nx,ρ,S')
def O5(o v:U)(ρ:Rho)(r:U×Sto):=(oF o r.1 v r.2).bind (LU ρ)
def O6(ci:CE)(v:U)(ρ:Rho)(q:U×Sto):=(ci ρ q.2).bind (O5 q.1 v ρ)
def kSI(co ci:CE)(ρ:Rho)(p:U×Sto):=(co ρ p.2).bind (O6 ci p.1 ρ)
def Qw:js ca cb cc ρ S=(cc ρ S).bind (kSI ca cb ρ):=rfl
def NG:kSI ca cb ρ (u,S)=(ca ρ S).bind (O6 cb u ρ):=rfl
def NF:O6 cb y ρ (u,S)=(cb ρ S).bind (O5 u y ρ):=rfl
def ND:O5 x y ρ (u,S)=(oF x u y S).bind (LU ρ):=rfl
def NC:LU ρ S=some (.nx,ρ,S):=rfl
def kIx(y:U)(S:Sto):Option O->Option (U×Sto)
 | some (.lst us)=>(match y with
   |.int i=>(atI us i).bind fun u=>some (u,S)
   |_=>none)
 |some (.dic kus)=>(oY y).bind fun k=>(bF kus k).bind fun u=>some (u,S)
 |some (.fdc _ kus)=>(oY y).bind fun k=>(bF kus k).bind fun u=>some (u,S)
 |_=>none
def NW{j:Int}:fIx (.tup us) (.int j) S=(atI us j).bind fun u=>some (u,S):=rfl
def JM:fIx (.ref l) y S=kIx y S S[l]?:=by
 unfold fIx kIx;dsimp only<;>(generalize S[l]?=q;rcases q with _|o<;>first|rfl|(cases o<;>rfl))
def JN{j:Int}:kIx (.int j) S (some (.lst us))=(atI us j).bind fun u=>some (u,S):=rfl
def NY{kus:List (Key×U)}:kIx y S (some (.dic kus))=(oY y).bind fun k=>(bF kus k).bind fun u=>some (u,S):=rfl
def Ni(l:Nat)(i v:U)(S:Sto):Option O->Option Sto
 | some (.lst us)=>(match i with
   |.int k=>(ixN us.length k).bind fun j=>some (S.set l (.lst (us.set j v)))
   |_=>none)
 |some (.dic kus)=>(oY i).bind fun k=>if kus.length<LIM then some (S.set l (.dic (gB kus k v)))else none
 |_=>none
def NB:oF (.ref l) x y S=Ni l x y S S[l]?:=by
 unfold oF Ni;dsimp only<;>(generalize S[l]?=q;rcases q with _|o<;>first|rfl|(cases o<;>rfl))
def Jy{j:Int}:Ni l (.int j) y S (some (.lst us))=(ixN us.length j).bind fun j=>some (S.set l (.lst (us.set j y))):=rfl
def Jz{kus:List (Key×U)}:Ni l x y S (some (.dic kus))=(oY x).bind fun k=>if kus.length<LIM then some (S.set l (.dic (gB kus k y)))else none:=rfl
def at0{α:Type}{a:α}{r:List α}:atI (a::r) 0=some a:=by show atI _ ((0:Nat):Int)=_;exact iW rfl
def at1{α:Type}{a b:α}{r:List α}:atI (a::b::r) 1=some b:=by show atI _ ((1:Nat):Int)=_;exact iW rfl
def at2{α:Type}{a b c:α}{r:List α}:atI (a::b::c::r) 2=some c:=by show atI _ ((2:Nat):Int)=_;exact iW rfl
def at3{α:Type}{a b c d:α}{r:List α}:atI (a::b::c::d::r) 3=some d:=by show atI _ ((3:Nat):Int)=_;exact iW rfl
def ix0{n:Nat}:ixN (n+1) 0=some 0:=by simp[ixN]
def ix1{n:Nat}:ixN (n+1+1) 1=some 1:=by simp[ixN];omega
def ix2{n:Nat}:ixN (n+1+1+1) 2=some 2:=by simp[ixN];omega
def Nl(S:Sto):Option O->Option (U×Sto)
 |some (.lst us)=>some (.int us.length,S)
 |some (.dic us)=>some (.int us.length,S)
 |_=>none
def JJ:jC [.ref l] S=Nl S S[l]?:=by
 unfold jC Nl;dsimp only<;>(generalize S[l]?=q;rcases q with _|o<;>first|rfl|(cases o<;>rfl))
def JK:Nl S (some (.lst us))=some (.int us.length,S):=rfl
def JL{kus:List (Key×U)}:Nl S (some (.dic kus))=some (.int kus.length,S):=rfl
def JI:jC [.tup us] S=some (.int us.length,S):=rfl
variable{j k:Int}
def Gv:i8 (.int j) (.int k) S=some (.int (j+k),S):=rfl
def NA:IK (.int j) (.int k) S=some (.int (j-k),S):=rfl
def sQ(h:B9 j k):pH (.int j) (.int k) S=some (.int (j*k),S):=by simp[pH,fI,h]
def JR(h:yL j k):FQ (.int j) (.int k) S=some (.int (j / k),S):=by simp[FQ,fI,h]
def xZ(h:0<k):uC (.int j) (.int k) S=some (.int (j % k),S):=by simp[uC,fI,h]
def NU:fLt (.int j) (.int k) S=some (.bl (decide (j<k)),S):=rfl
def Qz:fLe (.int j) (.int k) S=some (.bl (decide (j<=k)),S):=rfl
def N8:fGt (.int j) (.int k) S=some (.bl (decide (k<j)),S):=rfl
def QB:fGe (.int j) (.int k) S=some (.bl (decide (k<=j)),S):=rfl
def Of:fEq (.int j) (.int k) S=some (.bl (decide (j=k)),S):=rfl
def NQ:fNe (.int j) (.int k) S=some (.bl (!decide (j=k)),S):=rfl
def Oe{a c:Str}:fEq (.str a) (.str c) S=some (.bl (decide (a=c)),S):=rfl
def NP{a c:Str}:fNe (.str a) (.str c) S=some (.bl (!decide (a=c)),S):=rfl
def Og{a c:Bool}:fEq (.bl a) (.bl c) S=some (.bl (decide (a=c)),S):=rfl
def NR{a c:Bool}:fNe (.bl a) (.bl c) S=some (.bl (!decide (a=c)),S):=rfl
def kFn:Out×Rho×Sto->Option (U×Sto)
 |(.rt u,_,S)=>some (u,S)
 |(.nx,_,S)=>some (.non,S)
 |_=>none
def vb{n k:Nat}(h:us.length=k):fnU n k c1 us S=(c1 (tm n us) S).bind kFn:=by
 unfold fnU;rw[Xd h];congr 1;funext p;obtain⟨o,ρ,S⟩:=p;cases o<;>rfl
def pI{c:CS}{a0:U}{S:Sto}:fnU 1 1 c [a0] S=(c [some a0] S).bind kFn:=vb rfl
def Bs{c:CS}{a0:U}{S:Sto}:fnU 2 1 c [a0] S=(c [some a0,none] S).bind kFn:=vb rfl
def kW{c:CS}{a0 a1:U}{S:Sto}:fnU 2 2 c [a0,a1] S=(c [some a0,some a1] S).bind kFn:=vb rfl
def oI{c:CS}{a0 a1:U}{S:Sto}:fnU 3 2 c [a0,a1] S=(c [some a0,some a1,none] S).bind kFn:=vb rfl
def uE{c:CS}{a0 a1 a2:U}{S:Sto}:fnU 3 3 c [a0,a1,a2] S=(c [some a0,some a1,some a2] S).bind kFn:=vb rfl
def Er{c:CS}{a0:U}{S:Sto}:fnU 4 1 c [a0] S=(c [some a0,none,none,none] S).bind kFn:=vb rfl
def Pp{c:CS}{a0 a1:U}{S:Sto}:fnU 4 2 c [a0,a1] S=(c [some a0,some a1,none,none] S).bind kFn:=vb rfl
def MA{c:CS}{a0 a1 a2:U}{S:Sto}:fnU 4 3 c [a0,a1,a2] S=(c [some a0,some a1,some a2,none] S).bind kFn:=vb rfl
def Mz{c:CS}{a0 a1:U}{S:Sto}:fnU 5 2 c [a0,a1] S=(c [some a0,some a1,none,none,none] S).bind kFn:=vb rfl
def My{c:CS}{a0 a1 a2:U}{S:Sto}:fnU 5 3 c [a0,a1,a2] S=(c [some a0,some a1,some a2,none,none] S).bind kFn:=vb rfl
def Po{c:CS}{a0 a1 a2 a3:U}{S:Sto}:fnU 5 4 c [a0,a1,a2,a3] S=(c [some a0,some a1,some a2,some a3,none] S).bind kFn:=vb rfl
def Pn{c:CS}{a0 a1 a2 a3 a4:U}{S:Sto}:fnU 5 5 c [a0,a1,a2,a3,a4] S=(c [some a0,some a1,some a2,some a3,some a4] S).bind kFn:=vb rfl
def Mx{c:CS}{a0 a1:U}{S:Sto}:fnU 6 2 c [a0,a1] S=(c [some a0,some a1,none,none,none,none] S).bind kFn:=vb rfl
def Pk{c:CS}{a0 a1:U}{S:Sto}:fnU 7 2 c [a0,a1] S=(c [some a0,some a1,none,none,none,none,none] S).bind kFn:=vb rfl
def MB{c:CS}{a0 a1 a2 a3 a4:U}{S:Sto}:fnU 11 5 c [a0,a1,a2,a3,a4] S=(c [some a0,some a1,some a2,some a3,some a4,none,none,none,none,none,none] S).bind kFn:=vb rfl
def Oc:kFn (.rt u,ρ,S)=some (u,S):=rfl
def Oa:kFn (.nx,ρ,S)=some (.non,S):=rfl
end
section
variable{u:U}{b:Bool}{c:Cl}{g:Fn}
open Classical in
def Ec(c:Cl)(i:Nat)(S:Sto):Option O->Option (U×Sto)
 |some (.ins c' fus)=>if c'=c then(fus[i]?).join.bind fun u=>some (u,S)else none
 |_=>none
def Jl(c:Cl)(i:Nat)(p:U×Sto):=Mq c i p.1 p.2
def Gp:aT c i ca ρ S=(ca ρ S).bind (Jl c i):=rfl
def wz:Jl c i (.ref l,S)=Ec c i S S[l]?:=by
 unfold Jl Mq Ec;dsimp only<;>(generalize S[l]?=q;rcases q with _|o<;>first|rfl|(cases o<;>rfl))
def wy:Ec c i S (some (.ins c fus))=((fus[i]?).join).bind fun u=>some (u,S):=by
 unfold Ec;dsimp only;rw[Xd rfl]
open Classical in
def Nj(c:Cl)(i l:Nat)(v:U)(S:Sto):Option O->Option Sto
 |some (.ins c' fus)=>if c'=c then some (S.set l (.ins c (fus.set i (some v))))else none
 |_=>none
def Nk(c:Cl)(i:Nat)(v:U)(ρ:Rho)(q:U×Sto):=(Bl c i q.1 v q.2).bind (LU ρ)
def Qg(c:Cl)(i:Nat)(ca:CE)(ρ:Rho)(p:U×Sto):=(ca ρ p.2).bind (Nk c i p.1 ρ)
def Qx:bC c i ca cb ρ S=(cb ρ S).bind (Qg c i ca ρ):=rfl
def NJ:Qg c i ca ρ (u,S)=(ca ρ S).bind (Nk c i u ρ):=rfl
def NI:Nk c i u ρ (.ref l,S)=(Nj c i l u S S[l]?).bind (LU ρ):=by
 unfold Nk Bl Nj;dsimp only<;>(generalize S[l]?=q;rcases q with _|o<;>first|rfl|(cases o<;>rfl))
def NH:Nj c i l u S (some (.ins c fus))=some (S.set l (.ins c (fus.set i (some u)))):=by
 unfold Nj;dsimp only;rw[Xd rfl]
noncomputable def AV(g:Fn)(l:Nat)(q:List U×Sto):=g (.ref l::q.1) q.2
open Classical in
def xk(c:Cl)(g:Fn)(cr:CA)(ρ:Rho)(l:Nat)(S:Sto):Option O->Option (U×Sto)
 |some (.ins c' _)=>if c'=c then(cr ρ S).bind (AV g l)else none
 |_=>none
def Iq(c:Cl)(g:Fn)(cr:CA)(ρ:Rho)(p:U×Sto):=Bm c g p.1 p.2 (cr ρ)
def yW:aL c g ca cr ρ S=(ca ρ S).bind (Iq c g cr ρ):=rfl
def va:Iq c g cr ρ (.ref l,S)=xk c g cr ρ l S S[l]?:=by
 unfold Iq Bm xk;dsimp only<;>(generalize S[l]?=q;rcases q with _|o<;>first|rfl|(cases o<;>rfl))
def u9:xk c g cr ρ l S (some (.ins c fus))=(cr ρ S).bind (AV g l):=by
 unfold xk;dsimp only;rw[Xd rfl]
def u6:AV g l (us,S)=g (.ref l::us) S:=rfl
def LW(n:Nat):U×Sto->Option (U×Sto)
 |(.non,S)=>some (.ref n,S)
 |_=>none
def sR:iD c g us S=(g (.ref S.length::us) (S++[.ins c (ZQ c.ns.length none)])).bind (LW S.length):=by
 unfold iD;congr 1;funext p;obtain⟨u,S⟩:=p;cases u<;>rfl
def Gj:LW i (.non,S)=some (.ref i,S):=rfl
def kIn(neg:Bool)(x:U)(S:Sto):Option O->Option (U×Sto)
 |some (.lst us)=>if kQ x=true/\us.all kQ=true then some (.bl (if neg then !inU x us else inU x us),S)else none
 |some (.dic kus)=>(oY x).bind fun k=>some (.bl (if neg then !(bF kus k).isSome else(bF kus k).isSome),S)
 |some (.fdc _ kus)=>(oY x).bind fun k=>some (.bl (if neg then !(bF kus k).isSome else(bF kus k).isSome),S)
 |_=>none
def JP{neg:Bool}:fIn neg x (.ref l) S=kIn neg x S S[l]?:=by
 unfold fIn kIn;dsimp only<;>(generalize S[l]?=q;rcases q with _|o<;>first|rfl|(cases o<;>rfl))
def N0{neg:Bool}{kus:List (Key×U)}:kIn neg x S (some (.dic kus))=(oY x).bind fun k=>some (.bl (if neg then !(bF kus k).isSome else(bF kus k).isSome),S):=rfl
def NZ{neg:Bool}(h:kQ x=true/\us.all kQ=true):kIn neg x S (some (.lst us))=some (.bl (if neg then !inU x us else inU x us),S):=by
 unfold kIn;dsimp only;rw[Xd h]
def NV{j:Int}:oY (.int j)=some (.inl j):=rfl
noncomputable def Pe(f:U->List U->Sto->Option (U×Sto))(x:U)(q:List U×Sto):=f x q.1 q.2
def Pf(f:U->List U->Sto->Option (U×Sto))(cr:CA)(ρ:Rho)(x:U)(S:Sto):Option O->Option (U×Sto)
 |some (.lst _)=>(cr ρ S).bind (Pe f x)
 |_=>none
def kBM(f:U->List U->Sto->Option (U×Sto))(cr:CA)(ρ:Rho):U×Sto->Option (U×Sto)
 |(.ref l,S)=>Pf f cr ρ (.ref l) S S[l]?
 |_=>none
variable{fm:U->List U->Sto->Option (U×Sto)}
def PM:cBM fm ca cr ρ S=(ca ρ S).bind (kBM fm cr ρ):=by
 unfold cBM;congr 1;funext p;obtain⟨u,S⟩:=p;cases u<;>try rfl
def JU:kBM fm cr ρ (.ref l,S)=Pf fm cr ρ (.ref l) S S[l]?:=rfl
def JT:Pf fm cr ρ x S (some (.lst us))=(cr ρ S).bind (Pe fm x):=rfl
def JS:Pe fm x (us,S)=fm x us S:=rfl
def Nm(l:Nat)(u:U)(S:Sto):Option O->Option (U×Sto)
 |some (.lst us)=>if us.length<LIM then some (.non,S.set l (.lst (us++[u])))else none
 |_=>none
def Ot:bK (.ref l) [u] S=Nm l u S S[l]?:=by
 unfold bK Nm;dsimp only<;>(generalize S[l]?=q;rcases q with _|o<;>first|rfl|(cases o<;>rfl))
def dZ(h:us.length<LIM):Nm l u S (some (.lst us))=some (.non,S.set l (.lst (us++[u]))):=by
 unfold Nm;dsimp only;rw[Xd h]
def Pa(ku xu:U)(S:Sto):Option O->Option (U×Sto)
 |some (.dic kus)=>(oY ku).bind fun k=>some ((bF kus k).getD xu,S)
 |_=>none
def Pb(l:Nat)(ku:U)(r:U×Sto):=Pa ku r.1 r.2 r.2[l]?
def Pc(l:Nat)(cx:CE)(ρ:Rho)(q:U×Sto):=(cx ρ q.2).bind (Pb l q.1)
def Pd(l:Nat)(ck cx:CE)(ρ:Rho)(S:Sto):Option O->Option (U×Sto)
 |some (.dic _)=>(ck ρ S).bind (Pc l cx ρ)
 |_=>none
def kDG(ck cx:CE)(ρ:Rho):U×Sto->Option (U×Sto)
 |(.ref l,S)=>Pd l ck cx ρ S S[l]?
 |_=>none
def QC:yF ca cb cc ρ S=(ca ρ S).bind (kDG cb cc ρ):=by
 unfold yF;congr 1;funext p;obtain⟨u,S⟩:=p;cases u<;>try rfl
def Oq:kDG cb cc ρ (.ref l,S)=Pd l cb cc ρ S S[l]?:=rfl
def Oo{kus:List (Key×U)}:Pd l cb cc ρ S (some (.dic kus))=(cb ρ S).bind (Pc l cc ρ):=rfl
def Om:Pc l cc ρ (u,S)=(cc ρ S).bind (Pb l u):=rfl
def Ol:Pb l u (x,S)=Pa u x S S[l]?:=rfl
def Oh{kus:List (Key×U)}:Pa u x S (some (.dic kus))=(oY u).bind fun k=>some ((bF kus k).getD x,S):=rfl
def JQ:vV ρ S=some (.ref S.length,S++[.dic []]):=rfl
def Ju:mH [.tup us] S=some (.tup us,S):=rfl
def O4(S:Sto):Option O->Option (U×Sto)
 |some (.lst us)=>some (.tup us,S)
 |_=>none
def Jv:mH [.ref l] S=O4 S S[l]?:=by
 unfold mH O4;dsimp only<;>(generalize S[l]?=q;rcases q with _|o<;>first|rfl|(cases o<;>rfl))
def Jw:O4 S (some (.lst us))=some (.tup us,S):=rfl
def Gk:oG [.tup us] S=some (.ref S.length,S++[.lst us]):=rfl
def kLs(S:Sto):Option O->Option (U×Sto)
 |some (.lst us)=>some (.ref S.length,S++[.lst us])
 |_=>none
def Gm:oG [.ref l] S=kLs S S[l]?:=by
 unfold oG kLs;dsimp only<;>(generalize S[l]?=q;rcases q with _|o<;>first|rfl|(cases o<;>rfl))
def Gn:kLs S (some (.lst us))=some (.ref S.length,S++[.lst us]):=rfl
def JO:Pj [.bl b] S=some (.int (if b then 1 else 0),S):=rfl
def ga{X:Sto}{n:Nat}:(S++X)[S.length+n]?=X[n]?:=by rw[Zu (Nat.le_add_right _ _),Nat.add_sub_cancel_left]
def ga0{X:Sto}:(S++X)[S.length]?=X[0]?:=ga (n:=0)
def gs{X:Sto}{n:Nat}{o:O}:(S++X).set (S.length+n) o=S++X.set n o:=by rw[List.set_append_right _ _ (Nat.le_add_right _ _),Nat.add_sub_cancel_left]
def gs0{X:Sto}{o:O}:(S++X).set S.length o=S++X.set 0 o:=gs (n:=0)
section
variable{ok:Sto->Prop}{gg:CG}{cbd:CS}{ρ0 ρ1:Rho}{S0 S1:Sto}
def iH(h:ok S):fu ok gg cbd [] ρ S=some (.nx,ρ,S):=by unfold fu;rw[Xd h]
def jg(h:ok S)(hg:gg u ρ S=some (ρ0,S0))(hb:cbd ρ0 S0=some (.nx,ρ1,S1)):fu ok gg cbd (u::us) ρ S=fu ok gg cbd us ρ1 S1:=by
 rw[fu];dsimp only;rw[Xd h,hg,Z0];dsimp only;rw[hb,Z0]
def HY(h:ok S)(hg:gg u ρ S=some (ρ0,S0))(hb:cbd ρ0 S0=some (.rt x,ρ1,S1)):fu ok gg cbd (u::us) ρ S=some (.rt x,ρ1,S1):=by
 rw[fu];dsimp only;rw[Xd h,hg,Z0];dsimp only;rw[hb,Z0]
def CD{n:Nat}(ht:t ρ S=some (true,S0))(hb:cbd ρ S0=some (.nx,ρ1,S1)):gD t cbd (n+1) ρ S=gD t cbd n ρ1 S1:=by
 rw[gD];dsimp only;rw[ht,Z0];dsimp only;rw[Xd rfl,hb,Z0]
def sT{n:Nat}(ht:t ρ S=some (false,S0)):gD t cbd (n+1) ρ S=some (.nx,ρ,S0):=by
 rw[gD];dsimp only;rw[ht,Z0];dsimp only;rw[Xf ∅]
def dR{ce:CE}{ys:List U}(h:ok S)(hg:gg u ρ S=some (ρ0,S0))(he:ce ρ0 S0=some (x,S1))(hl:S1[l]?=some (.lst ys))(hn:ys.length<LIM):gC ok gg ce l (u::us) ρ S=gC ok gg ce l us ρ0 (S1.set l (.lst (ys++[x]))):=by
 rw[gC,Xd h,hg,Z0];dsimp only;rw[he,Z0];dsimp only;rw[hl];dsimp only;rw[Xd hn]
def gR{ce:CE}(h:ok S):gC ok gg ce l [] ρ S=some S:=by rw[gC,Xd h]
end
end
def Jr{p:List Q4->Prop}(h:p [])(us:List Q4)(e:us.length=0):p us:=by rw[Yg.mp e];exact h
def Pz{n:Nat}{p:List Q4->Prop}(h:∀a us,us.length=n->p (a::us))(us:List Q4)(e:us.length=n+1):p us:=by
 cases us with
 |nil=>cases e
 |cons a us=>exact h a us (Nat.succ.inj e)
def PL(H:Hp)(a:Addr)(ep:Nat)(ks:List Key):Prop:=∃ob es kvs,H a=some (.frz ob (.dK kvs))/\ob.data=.dict es ep/\kvs.map (·.1)=ks
def Itd(a:Addr)(ep:Nat)(ks:List Key):It:=
 ⟨fun i H=>i<ks.length/\PL H a ep ks,fun i H x H'=>H'=H/\∃k,ks[i]?=some k/\x=kV k,fun i H=>ks.length<=i/\PL H a ep ks⟩
def FL{P:ZI}{w:Zk}{H:Hp}{h:Heap}{a:Addr}{ob:Obj}{kvs:List (Key×V)}{es:Array DictEntry}{ep:Nat}(ok:HOk P w H h)(e:H a=some (.frz ob (.dK kvs)))(d:ob.data=.dict es ep):∃vs,KV kvs vs/\h.DictAt (cV P w) a vs ep:=by
 obtain⟨e1,_,_,vs,r,o,es',ep',e2,e3,e4,rest⟩:=(show eN P w H h a (.frz ob (.dK kvs))from ok a _ e);rw[e1]at e2;cases e2;rw[d]at e4;cases e4;exact⟨vs,r,ob,es,e1,e3,d,rest⟩
def FE{κ:Type}:∀{kvs:List (κ×V)} {vs:List (κ×Q4)} {i:Nat} {k:κ} {v:V},KV kvs vs->kvs[i]?=some (k,v)->∃u,vs[i]?=some (k,u)
 |_,_,i,k,v,.nil,h=>by simp at h
 |_,_,0,k,v,.cons (b:=(k',u)) r t,h=>by
  simp at h;subst h;have:k=k':=r.1;subst this;exact⟨u,nofun⟩
 |_,_,i+1,k,v,.cons r t,h=>by
  obtain⟨u,e⟩:=FE (i:=i) t (by simpa using h);exact⟨u,by simpa using e⟩
def Il{k:Key}{u:Q4}(h:ud k u=true):dk (kV k) u:=by
 rcases bJ h with⟨i,t,rfl,rfl⟩|⟨i,t,rfl,rfl⟩;exact⟨t,rfl⟩;exact⟨t,rfl⟩
def zE{P:ZI}{w:Zk}{K:Q3}{tg:ZR}(a it:Addr){ks:List Key}{ep:Nat} :
  Js P w K tg (Itd a ep ks) [it] it (fun n h=>h.IsKeyIter it a n ks.length ep) where
 mem:=by simp
 obj:=fun n h st c hc=>by
  simp only[ZD,XB,or_false]at hc;subst hc;obtain⟨o,e,_,q⟩:=st;exact⟨o,e,fun v z=>by rw[q]at z;cases z⟩
 keep:=fun n h h' st kp=>Heap.IsKeyIter.at st fun o q=>kp it nofun o q
 item:=by
  intro X hP hw hK hc n pins s σ H E Iv hf st hg;subst hP hw hK;obtain⟨hi,ob,es,kvs,hq,d,ek⟩:=hg;obtain⟨vs,rv,da⟩:=FL Iv.hok hq d;have hl:ks.length=vs.length:=by rw[<-ek,Q7];exact Paired.length rv
  have hi':n<kvs.length:=by rw[<-ek,Q7]at hi;exact hi
  have hx:kvs[n]?=some ((kvs[n]).1,(kvs[n]).2):=Z7 hi';obtain⟨u,hu⟩:=FE rv hx;obtain⟨f0,f1,f2,f3⟩:=hf it nofun;have st':s.heap.IsKeyIter it a n vs.length ep:=by rw[<-hl];exact st
  refine wpAny_pyNext_dict_item st' da hu fun key h1 hk st1 sb=>⟨key,rfl,?_⟩;have I1:Inv X pins σ H { s with heap:=h1 }:=Iv.turned (t':=s.toks) (fun b o hb e=>(sb.2 b hb).trans e) f0 f1 f3.1 f3.2.1 f3.2.2;have st2:h1.IsKeyIter it a (n+1) ks.length ep:=by rw[hl];exact st1
  obtain⟨o,e,c,q⟩:=id st2;exact Ei (s:={ s with heap:=h1 }) e c q ∅ ⟨kV (kvs[n]).1,H,I1,Il hk,⟨rfl,_,by rw[<-ek,ZP,hx];rfl,rfl⟩,st2,fun b hb=>(hf b hb).1⟩
 done:=by
  intro X hP hw hK hc n pins s σ H E Iv hf st hg;subst hP hw hK;obtain⟨hi,ob,es,kvs,hq,d,ek⟩:=hg;obtain⟨vs,rv,da⟩:=FL Iv.hok hq d;have hl:ks.length=vs.length:=by rw[<-ek,Q7];exact Paired.length rv
  obtain⟨f0,f1,f2,f3⟩:=hf it nofun;have st':s.heap.IsKeyIter it a n vs.length ep:=by rw[<-hl];exact st
  exact wpAny_pyNext_dict_end (Iv.ok.hd hc) st' da (by rw[List.getElem?_eq_none_iff];omega) fun h1 eb=>⟨rfl,Iv.turned (t':=s.toks) (fun b o hb e=>eb b o hb e) f0 f1 f3.1 f3.2.1 f3.2.2⟩
 self:=fun _ _ _ _ _ st h=>wpAny_pyIter_keyiter st h
def xo{X:Cx}{pins:List (Addr×Obj)}{σ:L2.St}{H:Hp}{s:Q5}{a:Addr}{o u:HO}(I:Inv X pins σ H s)(e:H a=some o)(nt:∀xs,o≠.tup xs)(no:∀x,o≠.own x)(nb:∀ps,o≠.tbl ps)
  (nf:∀ob u,X.H₀ a≠some (.frz ob u)) (new:eN X.prog X.w (upd H a u) s.heap a u):Inv X pins σ (upd H a u) s:=by
 have nn:∀b,H b=none->upd H a u b=none:=fun b q=>by rw[aM (Ne.symm (dW e q))];exact q
 have ho:∀b x,H b=some (.own x)->upd H a u b=some (.own x):=fun b x q=>by
  rw[aM];exact q;intro z;subst z;rw[e]at q;cases q;exact no _ rfl
 have ht:∀b xs,H b=some (.tup xs)->upd H a u b=some (.tup xs):=fun b x q=>by
  rw[aM];exact q;intro z;subst z;rw[e]at q;cases q;exact nt _ rfl
 refine⟨I.ok,I.os,I.bare,⟨I.base.keep,I.base.slot,fun b ob q1 q2 q3=>nn _ (I.base.free b ob q1 q2 q3),I.base.there,fun b xs q=>ht _ _ (I.base.tups b xs q),fun b ob v q=>?_,fun b ps q=>?_⟩,I.loc,I.cell,nn _ I.free,fun x c q=>nn _ (I.freeC x c q),fun p hp=>?_,fun b v q=>?_,I.len⟩;rw[aM];exact I.base.frzs b ob v q;intro z;subst z;exact nf _ _ q;obtain⟨more,q'⟩:=I.base.tbls b ps q;refine⟨more,?_⟩;rw[aM];exact q';intro z;subst z;rw[e]at q';cases q';exact nb _ rfl;obtain⟨p1,p2,p3⟩:=I.pin p hp;exact⟨p1,nn _ p2,p3⟩;by_cases hb:b=a;subst hb;rw[aJ]at q;cases q;exact new;rw[aM hb]at q;exact(I.hok b v q).stay (fun _ _ _ g=>g) (fun c g=>ho c b g) fun c xs g=>ht c xs g
def Cg(X:Cx)(a:Addr):Prop:=∀ob u,X.H₀ a≠some (.frz ob u)
def IC(X:Cx)(tl:TE):TI:=fun σ H R=>tl σ H fun x H1=>∃a kvs,x=.ref a/\H1 a=some (.dK kvs)/\∀ob es ep,Cg X a->ob.data=.dict es ep->R (Itd a ep (kvs.map (·.1))) (upd H1 a (.frz ob (.dK kvs)))
def zu{X:Cx}{tg l:ZR}{tl:TE}(hl:WE X l tl):WI X tg l (IC X tl):=by
 constructor;intro pins s σ H R I h;refine thn (hl.h pins s σ H _ I h) fun v s1 hz=>?_;obtain⟨x,H1,I1,r1,q1⟩:=hz;obtain⟨a,kvs,rfl,hq,q⟩:=q1;cases r1;obtain⟨hz,hs,vs,rv,ob,es,ep,e1,e2,e3,rest⟩:=Bw I1.hok hq;have da:s1.heap.DictAt (cV X.prog X.w) a vs ep:=⟨ob,es,e1,e2,e3,rest⟩;have hl:kvs.length=vs.length:=Paired.length rv;have nf:Cg X a:=fun ob' u' z=>by have:=I1.base.frzs a ob' u' z;rw[hq]at this;cases this
 have I2:Inv X pins σ (upd H1 a (.frz ob (.dK kvs))) s1:=xo I1 hq nofun nofun nofun nf ⟨e1,hz,hs,vs,rv,ob,es,ep,e1,e2,e3,rest⟩;refine wpAny_pyIter_dict hs da ?_;refine⟨s1.heap.objs.size,[s1.heap.objs.size],_,_,_,rfl,I2.kept (t':=s1.toks) fun b o g=>Q9 _ g,zE a _,⟨_,ZT _ rfl,rfl,by rw[Q7,hl];rfl⟩,fun b hb=>?_,q ob es ep nf e3⟩;simp only[ZD,XB,or_false]at hb;subst hb;exact I2.fpOk (Z6 _) (I2.hok.fresh (Z6 _))
def MQ(X:Cx)(D:Cj):Cj where
 nx:=fun σ H=>∃a ob kvs,Cg X a/\H a=some (.frz ob (.dK kvs))/\D.nx σ (upd H a (.dK kvs))
 rt:=fun v H=>∃a ob kvs,Cg X a/\H a=some (.frz ob (.dK kvs))/\D.rt v (upd H a (.dK kvs))
 bk:=fun σ H=>∃a ob kvs,Cg X a/\H a=some (.frz ob (.dK kvs))/\D.bk σ (upd H a (.dK kvs))
 ct:=fun σ H=>∃a ob kvs,Cg X a/\H a=some (.frz ob (.dK kvs))/\D.ct σ (upd H a (.dK kvs))
def kH{X:Cx}{pins:List (Addr×Obj)}{σ:L2.St}{H:Hp}{s:Q5}{a:Addr}{ob:Obj}{kvs:List (Key×V)}(I:Inv X pins σ H s)(nf:Cg X a)(e:H a=some (.frz ob (.dK kvs))):Inv X pins σ (upd H a (.dK kvs)) s:=
 xo I e nofun nofun nofun nf (show eN X.prog X.w H s.heap a (.frz ob (.dK kvs))from I.hok a _ e).2
def Gw{X:Cx}{st:Zv}{t:TS}(h:WS X st t):WS X st (fun D σ H=>t (MQ X D) σ H):=by
 constructor;intro pins s σ H D I k;refine thn (h.h pins s σ H _ I k) fun f s1 q=>?_;cases f with
 |next=>obtain⟨σ1,H1,I1,a,ob,kvs,nf,e,r⟩:=q;exact⟨σ1,_,kH I1 nf e,r⟩
 |brk=>obtain⟨σ1,H1,I1,a,ob,kvs,nf,e,r⟩:=q;exact⟨σ1,_,kH I1 nf e,r⟩
 |cont=>obtain⟨σ1,H1,I1,a,ob,kvs,nf,e,r⟩:=q;exact⟨σ1,_,kH I1 nf e,r⟩
 |ret u=>obtain⟨v,σ1,H1,I1,rv,a,ob,kvs,nf,e,r⟩:=q;exact⟨v,σ1,_,kH I1 nf e,rv,r⟩
def kU:Key->U
 |.inl i=>.int i
 |.inr x=>.str x
def L5{K:Q3}{m:List Addr}{H:Hp}(k:Key):Is K m H (kV k) (kU k):=by
 cases k with
 |inl i=>exact .int_
 |inr x=>exact .str_
open Classical in
def uni{α:Type}(F:Nat->Option α):Option α:=if h:∃r,∀n,F n=some r then some h.choose else none
def E3{α:Type}{F:Nat->Option α}{r:α}(h:∀n,F n=some r):uni F=some r:=by
 have hx:∃r,∀n,F n=some r:=⟨r,h⟩;unfold uni;rw[dif_pos hx];have:=hx.choose_spec 0;rw[h 0]at this;exact this.symm
def wG{α:Type}{F:Nat->Option α}{r:α}(h:uni F=some r)(n:Nat):F n=some r:=by
 unfold uni at h;split at h;rename_i hx;cases h;exact hx.choose_spec n;cases h
def BJ(ce:CE)(g:CG)(cb:CS):CS:=fun ρ S=>(ce ρ S).bind fun p=>match p.1 with
 |.ref l=>match p.2[l]? with
  |some (.dic kus)=>uni fun ep=>(fu (fun S'=>S'[l]?=some (.fdc ep kus)) g cb (kus.map fun q=>kU q.1) ρ (p.2.set l (.fdc ep kus))).bind fun r=>match r.2.2[l]? with
   |some (.fdc _ kus')=>some (r.1,r.2.1,r.2.2.set l (.dic kus'))
   |_=>none
  |_=>none
 |_=>none
def AZ{K:Q3}{m:List Addr}{H:Hp}{a:Addr}{l ep:Nat}{kus:List (Key×U)}(ha:m[l]?=some a):ET K (Itd a ep (kus.map (·.1))) m H (kus.map fun q=>kU q.1) (fun S'=>S'[l]?=some (.fdc ep kus)):=by
 intro m2 S2 H2 i e sr hok;obtain⟨a',ha',ob,es,kvs,hx,hd,ip⟩:=sr.get hok;have ha2:=e.get ha;rw[ha2]at ha';cases ha';have hz:PL H2 a ep (kus.map (·.1)):=⟨ob,es,kvs,hx,hd,ip.1⟩;refine⟨fun u hu=>?_,fun hu=>⟨by simpa using hu,hz⟩⟩;have hi:i<kus.length:=by have:=(Q6.mp hu).1;simpa using this
 refine⟨⟨by simpa using hi,hz⟩,?_⟩;rintro x H3 ⟨rfl,k,hk,rfl⟩;refine⟨.refl,sr,?_⟩;rw[ZP]at hk hu;rw[Z7 hi]at hk hu;cases hk;cases hu;exact L5 _
def Ek{X:Cx}{ce:CE}{g:CG}{cb:CS}:∀D σ H,tS X.K (BJ ce g cb) D σ H->MY (IC X (tE X.K ce)) (tG X.K g) (tS X.K cb) (MQ X D) σ H:=by
 rintro D σ H ⟨m,ρ,S,o,ρ',S',sr,lr,hc,post⟩;obtain⟨⟨x,S1⟩,h1,h⟩:=Q2.mp hc;refine⟨m,ρ,S,x,S1,sr,lr,h1,fun m1 v1 H1 e1 sr1 i1=>?_⟩;cases x with
 |ref l=>
  simp only at h;split at h<;>try cases h
  rename_i kus hS;obtain⟨a,ha,rfl⟩:=i1.of_ref;obtain⟨a',ha',kvs,hx,ip⟩:=sr1.get hS;rw[ha]at ha';cases ha';refine⟨a,kvs,rfl,hx,fun ob es ep nf hd=>?_⟩;obtain⟨⟨o1,ρ1,S2⟩,h2,h3⟩:=Q2.mp (wG h ep);simp only at h3;split at h3<;>try cases h3
  rename_i ep' kus' hS2;have kp:B7 X.K H1 (upd H1 a (.frz ob (.dK kvs))):=sr1.keep ha _;have ee:Ext X.K m1 H1 m1 (upd H1 a (.frz ob (.dK kvs))):=.of kp;have sr2:Sr X.K m1 (S1.set l (.fdc ep kus)) (upd H1 a (.frz ob (.dK kvs))):=sr1.put ha ⟨ob,es,kvs,aJ,hd,ip.mono ee⟩;rw[ip.1];refine w6 sr2 (lr.mono (e1.trans ee)) (AZ ha) h2 ?_;have back:∀m3 H3,Ext X.K m1 (upd H1 a (.frz ob (.dK kvs))) m3 H3->Sr X.K m3 S2 H3->∃ob' kvs',H3 a=some (.frz ob' (.dK kvs'))/\Ext X.K m3 H3 m3 (upd H3 a (.dK kvs'))/\Sr X.K m3 (S2.set l (.dic kus')) (upd H3 a (.dK kvs')):=fun m3 H3 e3 sr3=>by
   obtain⟨a3,ha3,ob3,es3,kvs3,hx3,hd3,ip3⟩:=sr3.get hS2;rw[e3.get ha]at ha3;cases ha3;have e4:Ext X.K m3 H3 m3 (upd H3 a (.dK kvs3)):=.of (sr3.keep (e3.get ha) _);exact⟨ob3,kvs3,hx3,e4,sr3.put (e3.get ha) ⟨kvs3,aJ,ip3.mono e4⟩⟩
  have nxt:∀(R:L2.St->Hp->Prop),jt X.K m H R ρ' (S2.set l (.dic kus'))->jt X.K m1 (upd H1 a (.frz ob (.dK kvs))) (fun σ H=>∃a ob kvs,Cg X a/\H a=some (.frz ob (.dK kvs))/\R σ (upd H a (.dK kvs))) ρ' S2:=fun R p m3 σ3 H3 e3 sr3 lr3=>by
   obtain⟨ob3,kvs3,hx3,e4,sr4⟩:=back m3 H3 e3 sr3;exact⟨a,ob3,kvs3,nf,hx3,p m3 σ3 _ (((e1.trans ee).trans e3).trans e4) sr4 (lr3.mono e4)⟩
  cases o with
  |nx=>exact nxt _ post
  |bk=>exact nxt _ post
  |ct=>exact nxt _ post
  | rt v=>
    intro m3 v3 H3 e3 sr3 i3;obtain⟨ob3,kvs3,hx3,e4,sr4⟩:=back m3 H3 e3 sr3;exact⟨a,ob3,kvs3,nf,hx3,post m3 v3 _ (((e1.trans ee).trans e3).trans e4) sr4 (i3.mono e4)⟩
 |_=>cases h
def Hj{X:Cx}{tg iter:ZR}{body:List Zv}{ce:CE}{g:CG}{cb:CS}{pos:Pos}(hp:PassesOwn (ZL X.prog X.w) X.A X.env X.xe)(hc:X.calm=true)(hi:QE X iter ce)(hg:QG X tg g)(hb:QSs X body cb)(hs:∀x,foldedSetIterable iter X.env x=pure x:=by intro _;rfl):QS X (.For tg iter body [] pos) (BJ ce g cb):=
 (Gw (zc hp hc (zu hi) hg hb hs)).imp Ek
end OP
namespace OG
open PySem PySem.Spec PyProof.Rows L2
def vk(wi:TI)(g:TG)(tt:TT)(te:TE)(n:Nat)(caps:List Nat):TE:=fun σ H Q=>wi σ H fun J H1=>∀l,H1 l=none->∃W:Nat->Nat->L2.St->Hp->Prop,(∃m,W 0 m (stC n caps σ) (upd H1 l (.lst [])))/\
 ∀i m σ' H2,W i m σ' H2->(J.stop i H2/\Q (.ref l) H2)\/(J.go i H2/\∃N:L2.St->Hp->Prop,(∀σ'' H',N σ'' H'->∃m',m'<m/\W (i+1) m' σ'' H')/\
  ∀x H3,J.yld i H2 x H3->g x σ' H3 fun σ2 H4=>tt σ2 H4 fun b H5=>match b with
   |true=>te σ2 H5 fun v H6=>∃ys,H6 l=some (.lst ys)/\ys.length<ZU/\N σ2 (upd H6 l (.lst (ys++[v])))
   |false=>N σ2 H5)
def pK{prog:ZI}{w:Zk}{A:Zy}{R:Result->Q5->Prop}{s:Q5}{elt target iter c:ZR}{scope:Xz}{pos:Pos}{it acc:Q4}{env:Env}(I:Nat->Q5->Prop)
  (turn:∀n s,I n s->wpAny (ZL prog w) A (pyNext it) (fun r s₁=>match r with
   |none=>R (.ok .next) s₁
   |some v=>wpAny (ZL prog w) A (letOwnedTupleGo target it v) (fun _ s₁'=>wpAny (ZL prog w) A (assign target env v) (fun _ s₂=>wpAny (ZL prog w) A (PySem.isTrue c env (eval c env)) (fun b s₂'=>match b with
    |true=>wpAny (ZL prog w) A (eval elt env) (fun x s₃=>
     wpAny (ZL prog w) A (call (.builtin "list.append") [acc,x]) (fun _ s₄=>∃m,m<n/\I m s₄) (fun _ _=>False) s₃)
     (fun _ _=>False) s₂'
    |false=>∃m,m<n/\I m s₂') (fun _ _=>False) s₂) (fun _ _=>False) s₁') (fun _ _=>False) s₁) (fun _ _=>False) s)
  (n:Nat) (h:I n s) :
  codeAny (ZL prog w) A (.compLoop (.ListComp elt [⟨target,iter,[c],0⟩] scope pos) 0 it acc env) R s:=by
 refine codeAny_loop rfl I (fun n s hI=>?_) n h;show wpAny _ _ ((compTurn (.ListComp elt [⟨target,iter,[c],0⟩] scope pos) 0 it acc env).onRaise (fun x=>do noteFrame x env;theTreesLotGoes x)) _ _ s;refine wpAny_noted ?_;rw[compTurn_list];refine Q8 (wpAny_standAt (Q8 (XX (turn n s hI) (fun r s₁ h₁=>?_) fun _ _ h'=>h'.elim)));cases r with
 |none=>exact ZC h₁
 |some v=>
  refine Q8 (XX h₁ (fun _ s₁' h₁'=>?_) fun _ _ h'=>h'.elim);refine Q8 (XX h₁' (fun _ s₂ h₂=>?_) fun _ _ h'=>h'.elim);dsimp only;simp only[List.forIn_cons,List.forIn_nil,if_true,bind_assoc,pure_bind];refine Q8 (XX h₂ (fun b s₂' h₂'=>?_) fun _ _ h'=>h'.elim);cases b with
  |true=>
   rw[Xd rfl];exact Q8 (XX h₂' (fun x s₃ h₃=>Q8 (XX h₃
    (fun _ s₄ h₄=>ZC ⟨rfl,h₄⟩) fun _ _ h'=>h'.elim)) fun _ _ h'=>h'.elim)
  |false=>
   rw[Xf Z8];exact ZC ⟨rfl,h₂'⟩
def yD{X:Cx}{Nc capN tn:List Str}{scope:Xz}{cl:List (Str×Addr)}{n:Nat}{caps:List Nat}{tg iter elt:ZR}{pos:Pos}{wi:TI}{g:TG}{te:TE}{tt:TT}{c:ZR}
  (hc:X.calm=true) (hi:WI X tg iter wi) (hg:∀s3 H3 fp,WG (cxC X Nc scope cl s3 H3 fp) tg g) (he:∀s3 H3 fp,WE (cxC X Nc scope cl s3 H3 fp) elt te)
  (ht:∀s3 H3 fp,WT (cxC X Nc scope cl s3 H3 fp) c tt)
  (hclos:closureFor scope X.env=pure cl) (hkind:scope.kind=.function) (hnl:∀x∈scope.names,x.2=.local->scope.names.lookup x.1=some .local) (hcell:∀x∈scope.names,x.2≠.cell)
  (hcl:xV X.env cl) (hhas:((relabel scope X.env).names.all fun p=>!(p.2 == .cell||p.2 == .free)||(cl.lookup p.1).isSome)=true)
  (hcap:Paired (Cap X scope cl) caps capN) (hN:Nc=tn++capN) (hn:tn.length=n)
  {use:Option (Q4->Sem Unit)} {pins:List (Addr×Obj)} {σ:L2.St} {H:Hp} {s:Q5} {Q:VK} {Qf:Q4->Q5->Prop} (I:Inv X pins σ H s) (h:vk wi g tt te n caps σ H Q)
  (hend:∀(D C:Addr) (s6:Q5) (H5:Hp) (m:Str->Option Q4),Inv X pins σ H5 s6->s6.heap.Ns C m->H5 C=none->C≠X.env.locals->X.s₀.heap.objs.size<=C->(∀x c,X.env.cells.lookup x=some c->c≠C)->(∀p∈X.pn++pins,p.1≠C)->Q (.ref D) H5->compPost (ZL X.prog X.w) X.A X.xe use Qf (.ref D) C (.ok .next) s6)
  (hs:∀x,foldedSetIterable iter X.env x=pure x) :
  wpAny (ZL X.prog X.w) X.A (comprehension (.ListComp elt [⟨tg,iter,[c],0⟩] scope pos) scope X.env (firstIterPos [⟨tg,iter,[c],0⟩] pos) (newList []) (firstAsync [⟨tg,iter,[c],0⟩]) (firstIter [⟨tg,iter,[c],0⟩] X.env) use) Qf X.xe s:=by
 refine wpAny_comprehension_free (use:=use) (g:=⟨tg,iter,[c],0⟩) (gs:=[]) rfl hs hclos hkind hnl (thn (hi.h pins s σ H _ I h) fun v s1 h1=>thn h1 fun itv s2 h2=>?_);obtain⟨it,fp,tnn,J,H2,rfl,I2,T,st2,f2,hW⟩:=h2;have hD:=I2.fresh;obtain⟨W,⟨m0,w0⟩,turn⟩:=hW _ hD;refine wpAny_newObj_type (wpAny_newFunctionEnv hcell (by intro y hy;simp at hy) (fun h₁ hns₁ hsb₁=>?_) hkind);dsimp only at hns₁ hsb₁ ⊢;have I3:Inv X pins σ (upd H2 s2.heap.objs.size (.lst [])) { s2 with heap:=s2.heap.push { cls:=.type "list",dict:=none,data:=.seq ([]:List Q4).toArray },toks:=s2.toks }:=I2.lnew (its:=[]) .nil (Zp _);generalize hs3:({ s2 with heap:=s2.heap.push { cls:=.type "list",dict:=none,data:=.seq ([]:List Q4).toArray },toks:=s2.toks }:Q5)=s3 at I3;have es3:s3.heap=s2.heap.push { cls:=.type "list",dict:=none,data:=.seq ([]:List Q4).toArray }:=by rw[<-hs3]
 generalize hDD:s2.heap.objs.size=D at *;have kept:∀b o,s3.heap.get? b=some o->h₁.get? b=some o:=fun b o e=>by
  have lt:=ZX e;rw[es3]at lt e;exact hsb₁.extBut b o (Zq lt) (Q9 _ e)
 have old:∀b o,s2.heap.get? b=some o->s3.heap.get? b=some o:=fun b o e=>by rw[es3];exact Q9 _ e
 have ltD:∀b∈fp,b<D:=fun b hb=>by
  obtain⟨o,e,_⟩:=T.obj 0 _ st2 b hb;rw[<-hDD];exact ZX e
 have fo:∀b∈fp,b<s3.heap.objs.size:=fun b hb=>by
  obtain⟨o,e,_⟩:=T.obj 0 _ st2 b hb;exact ZX (old _ _ e)
 have f3:∀b∈fp,yS X pins (upd H2 D (.lst [])) b:=fun b hb=>by
  refine⟨?_,(f2 b hb).2⟩;rw[aM (Zq (ltD b hb))];exact(f2 b hb).1
 rw[<-es3]at hns₁ hsb₁ ⊢;have Ic:=fun t'=>Inv.comp (h1:=h₁) (t':=t') (Nc:=Nc) (n:=n) I3 hc f3 fo hkind hcl hhas hcap tn hN hn hns₁ kept;have stat:∀{H':Hp},(∀b∈fp,H' b=none)->∀b∈fp,yS (cxC X Nc scope cl s3 (upd H2 D (.lst [])) fp) [] H' b:=fun hn' b hb=>by
  refine⟨hn' b hb,Zq (fo b hb),fun z=>?_,.inl hb,fun x c e=>(f2 b hb).2.2.2.2.1 x c (hcl.look e),fun p hp=>by simp at hp⟩;rcases ZD.mp (I3.stkSub b z)with q|q;exact(f2 b hb).2.1 q;exact(f2 b hb).2.2.1 q
 have loop:∀s4:Q5,(∃t',s4={ s3 with heap:=h₁,toks:=t' })->codeAny (ZL X.prog X.w) X.A (.compLoop (.ListComp elt [⟨tg,iter,[c],0⟩] scope pos) 0 (.ref it) (.ref D) (compEnvC scope cl s3.heap.objs.size X.env))
   (compPost (ZL X.prog X.w) X.A X.xe use Qf (.ref D) s3.heap.objs.size) s4:=by
  rintro s4 ⟨t',rfl⟩;refine pK (fun n' s'=>∃i σ' H',Inv (cxC X Nc scope cl s3 (upd H2 D (.lst [])) fp) [] σ' H' s'/\tnn i s'.heap/\(∀b∈fp,H' b=none)/\W i n' σ' H') ?_ m0
   ⟨0,_,_,Ic t',T.keep 0 _ _ st2 fun b hb o e=>kept _ _ (old _ _ e),fun b hb=>(f3 b hb).1,w0⟩
  rintro n' s5 ⟨i,σ5,H5,I5,st5,fr5,w5⟩;rcases turn i n' σ5 H5 w5 with⟨stop,qn⟩|⟨go,N,hN',step⟩;refine thn (T.done (cxC X Nc scope cl s3 (upd H2 D (.lst [])) fp) rfl rfl rfl hc i [] s5 σ5 H5 (fun _ _=>False) I5 (stat fr5) st5 stop) fun r s6 ⟨hr,I6⟩=>?_;subst hr;obtain⟨m,hm,_⟩:=I6.loc;have I7:Inv X pins σ H5 s6:=Inv.call' (ch:=fp) I3 I6.os I6.base I6.hok I6.bare fun b hb=>⟨(f2 b hb).2.2.2.1,(f2 b hb).2.1,(f2 b hb).2.2.2.2.1,(f2 b hb).2.2.2.2.2⟩;exact hend D _ s6 H5 m I7 hm I6.free (Ne.symm (Zq I3.lt)) I3.sz (fun x c e=>by
    obtain⟨v',o,ho,_⟩:=I3.cell x c e;exact Zq (ZX ho)) (fun p hp=>Zq (ZX (I3.pin p hp).1)) qn
  refine thn (T.item (cxC X Nc scope cl s3 (upd H2 D (.lst [])) fp) rfl rfl rfl hc i [] s5 σ5 H5 (fun _ _=>False) I5 (stat fr5) st5 go) fun r s6 ⟨u,hr,h6⟩=>?_;subst hr;refine thn h6 fun _ s7 hz=>?_;obtain⟨x,H7,I7,r7,y7,st7,fr7⟩:=hz;have I7':=I7.pinned (stat fr7) (T.obj _ _ st7);refine thn ((hg s3 (upd H2 D (.lst [])) fp).h _ s7 σ5 H7 x u _ I7' r7 (step x H7 y7)) fun _ s8 hz=>?_;obtain⟨σ8,H8,I8,q8⟩:=hz;have fin:∀{s10:Q5} {H10:Hp},Inv (cxC X Nc scope cl s3 (upd H2 D (.lst [])) fp) _ σ8 H10 s10->N σ8 H10->∃m',m'<n'/\∃i' σ' H',Inv (cxC X Nc scope cl s3 (upd H2 D (.lst [])) fp) [] σ' H' s10/\tnn i' s10.heap/\(∀b∈fp,H' b=none)/\W i' m' σ' H':=fun{s10 H10} I10 q10=>by
   obtain⟨m',hm,w10⟩:=hN' σ8 H10 q10;refine⟨m',hm,i+1,σ8,H10,Inv.unpinned I10,T.keep _ _ _ st7 fun b hb o e=>(Inv.pin I10 (b,o) (ZH _ (ZH _ (f9 hb e)))).1,fun b hb=>?_,w10⟩;obtain⟨o,e,d⟩:=T.obj _ _ st7 b hb;exact(Inv.pin I10 (b,o) (ZH _ (ZH _ (f9 hb e)))).2.1
  refine thn ((ht s3 (upd H2 D (.lst [])) fp).h _ s8 σ8 H8 _ I8 q8) fun b9 s9' h9=>?_;obtain⟨H9',I9',q9'⟩:=h9;cases b9 with
  |false=>exact fin I9' q9'
  |true=>
   refine thn ((he s3 (upd H2 D (.lst [])) fp).h _ s9' σ8 H9' _ I9' q9') fun v9 s9 hz=>?_;obtain⟨x9,H9,I9,r9,ys,hy,hlt,q9⟩:=hz;exact thn (oj (X:=cxC X Nc scope cl s3 (upd H2 D (.lst [])) fp) _ s9 σ8 H9 (.ref D) [x9] (.ref D) [v9] (fun _ H'=>N σ8 H') I9 rfl (.cons r9 .nil) ⟨D,ys,x9,rfl,rfl,hy,hlt,q9⟩) fun _ s10 ⟨_,H10,I10,_,q10⟩=>fin I10 q10
 have e4:∀t',({ s2 with heap:=h₁,toks:=t' }:Q5)={ s3 with heap:=h₁,toks:=t' }:=fun t'=>by rw[<-hs3]
 refine codeAny_compStart_list (loop _ ⟨_,e4 _⟩) (T.self _ 0 _ _ _ (T.keep 0 _ _ st2 fun b hb o e=>kept _ _ (old _ _ e)) (loop _ ⟨_,e4 _⟩))
def yb{X:Cx}{Nc capN tn:List Str}{scope:Xz}{cl:List (Str×Addr)}{n:Nat}{caps:List Nat}{tg iter elt:ZR}{pos:Pos}{wi:TI}{g:TG}{te:TE}{tt:TT}{c:ZR}
  (hc:X.calm=true) (hi:WI X tg iter wi) (hg:∀s3 H3 fp,WG (cxC X Nc scope cl s3 H3 fp) tg g) (he:∀s3 H3 fp,WE (cxC X Nc scope cl s3 H3 fp) elt te)
  (ht:∀s3 H3 fp,WT (cxC X Nc scope cl s3 H3 fp) c tt)
  (hclos:closureFor scope X.env=pure cl) (hkind:scope.kind=.function) (hnl:∀x∈scope.names,x.2=.local->scope.names.lookup x.1=some .local) (hcell:∀x∈scope.names,x.2≠.cell)
  (hcl:xV X.env cl) (hhas:((relabel scope X.env).names.all fun p=>!(p.2 == .cell||p.2 == .free)||(cl.lookup p.1).isSome)=true)
  (hcap:Paired (Cap X scope cl) caps capN) (hN:Nc=tn++capN) (hn:tn.length=n)
  (hs:∀x,foldedSetIterable iter X.env x=pure x:=by intro _;rfl) :
  WE X (.ListComp elt [⟨tg,iter,[c],0⟩] scope pos) (vk wi g tt te n caps):=by
 constructor;intro pins s σ H Q I h;rw[eval_ListComp];refine yD hc hi hg he ht hclos hkind hnl hcell hcl hhas hcap hN hn I h (fun D C s6 H5 m I7 hm fr nl sz cn pn qn=>⟨m,hm,fun h' hs'=>?_⟩) hs;exact⟨.ref D,H5,I7.turned (t':=s6.toks) (it:=C) (fun b o hb e=>hs'.extBut b o hb e) fr nl (.inr sz) cn pn,rfl,qn⟩
end OG
namespace OP
open PySem PySem.Spec PyProof.Rows L2 OG
open Classical in
def dr(ok:Sto->Prop)(g:CG)(ct:CT)(ce:CE)(l:Nat):List U->Rho->Sto->Option Sto
 |[],_,S=>if ok S then some S else none
 |u::us,ρ,S=>if ok S then(g u ρ S).bind fun p=>(ct p.1 p.2).bind fun q=>if q.1=true then(ce p.1 q.2).bind fun r=>match r.2[l]? with
  |some (.lst ys)=>if ys.length<LIM then dr ok g ct ce l us p.1 (r.2.set l (.lst (ys++[r.1])))else none
  |_=>none else dr ok g ct ce l us p.1 q.2 else none
def iV(ci:CI)(g:CG)(ct:CT)(ce:CE)(n:Nat)(caps:List Nat):CE:=fun ρ S=>(ci ρ S).bind fun p=>(dr p.2.1 g ct ce p.2.2.length p.1 (sM n caps ρ) (p.2.2++[.lst []])).bind fun S'=>some (.ref p.2.2.length,S')
section
variable{X:Cx}{K:Q3}
def vU{g:CG}{ct:CT}{ce:CE}{n:Nat}{caps:List Nat}{J:It}{us:List U}{ok:Sto->Prop}{Q:VK}{m1:List Addr}{H1:Hp}{S1 S':Sto}{ρ:Rho}{σ:L2.St}{l:Addr}(sr1:Sr K m1 S1 H1)(lr:Lr K m1 H1 ρ σ)(ito:ET K J m1 H1 us ok)(hl:H1 l=none)(h2:dr ok g ct ce S1.length us (sM n caps ρ) (S1++[.lst []])=some S')
  (post:∀m2 H2,Ext K (m1++[l]) (upd H1 l (.lst [])) m2 H2->Sr K m2 S' H2->Q (.ref l) H2) :
  ∃W:Nat->Nat->L2.St->Hp->Prop,(∃m,W 0 m (OG.stC n caps σ) (upd H1 l (.lst [])))/\
 ∀i m σ' H2,W i m σ' H2->(J.stop i H2/\Q (.ref l) H2)\/(J.go i H2/\∃N:L2.St->Hp->Prop,(∀σ'' H',N σ'' H'->∃m',m'<m/\W (i+1) m' σ'' H')/\
  ∀x H3,J.yld i H2 x H3->tG K g x σ' H3 fun σ2 H4=>tT K ct σ2 H4 fun b H5=>match b with
   |true=>tE K ce σ2 H5 fun v H6=>∃ys,H6 l=some (.lst ys)/\ys.length<ZU/\N σ2 (upd H6 l (.lst (ys++[v])))
   |false=>N σ2 H5):=by
 have ee:Ext K m1 H1 (m1++[l]) (upd H1 l (.lst [])):=.new (cL hl _);let W:Nat->Nat->L2.St->Hp->Prop:=fun i k σ2 H2=>k=us.length-i/\i<=us.length/\∃m2 ρ2 S2,Ext K (m1++[l]) (upd H1 l (.lst [])) m2 H2/\Sr K m2 S2 H2/\Lr K m2 H2 ρ2 σ2/\dr ok g ct ce S1.length (us.drop i) ρ2 S2=some S'
 refine⟨W,⟨us.length,nofun,Zp _,m1++[l],sM n caps ρ,S1++[.lst []],.refl,sr1.new (o:=.lst []) hl ⟨[],aJ,.nil_⟩,AD (lr.mono ee),by simpa using h2⟩,?_⟩;rintro i k σ2 H2 ⟨rfl,hi,m2,ρ2,S2,e2,sr2,lr2,hl2⟩;by_cases hlt:i<us.length
 ·have hu:=Z7 hlt;rw[oJ hu]at hl2;unfold dr at hl2;split at hl2
  ·rename_i hok;obtain⟨⟨ρ3,S3⟩,h3,hl2⟩:=Q2.mp hl2;obtain⟨⟨b4,S4⟩,h4,hl2⟩:=Q2.mp hl2;obtain⟨hgo,hy⟩:=(ito m2 S2 H2 i (ee.trans e2) sr2 hok).1 _ hu;refine .inr ⟨hgo,W (i+1) (us.length-(i+1)),fun σ' H' w'=>⟨_,⋯,w'⟩,fun x H3 y=>?_⟩;obtain⟨e3,sr3,ix⟩:=hy x H3 y;refine⟨m2,ρ2,S2,_,ρ3,S3,sr3,lr2.mono e3,ix,h3,fun m4 σ4 H4 e4 sr4 lr4=>⟨m4,ρ3,S3,b4,S4,sr4,lr4,h4,fun m4' H4' e4' sr4'=>?_⟩⟩;cases b4 with
   |false=>
    rw[Xf Z8]at hl2;exact⟨rfl,hlt,m4',ρ3,_,(((e2.trans e3).trans e4).trans e4'),sr4',lr4.mono e4',hl2⟩
   |true=>
    rw[Xd rfl]at hl2;obtain⟨⟨u5,S5⟩,h5,hl2⟩:=Q2.mp hl2;simp only at hl2;split at hl2<;>try cases hl2
    rename_i ys hys;split at hl2<;>try cases hl2
    rename_i hlen;refine⟨m4',ρ3,S4,u5,S5,sr4',lr4.mono e4',h5,fun m5 v5 H5 e5 sr5 i5=>?_⟩;obtain⟨a',ha',xs,hx,il⟩:=sr5.get hys;have ha:m5[S1.length]?=some l:=((((e2.trans e3).trans e4).trans e4').trans e5).get (fM sr1.len);rw[ha]at ha';cases ha';have eu:Ext K m5 H5 m5 (upd H5 l (.lst (xs++[v5]))):=.of (sr5.keep ha _);exact⟨xs,hx,Ng (by rw[il.length];exact hlen),rfl,hlt,m5,ρ3,_,(((((e2.trans e3).trans e4).trans e4').trans e5).trans eu),sr5.put (o:=.lst (ys++[u5])) ha ⟨_,aJ,(il.append (.cons_ i5 .nil_)).mono eu⟩,(lr4.mono ((e4'.trans e5).trans eu)),hl2⟩
  cases hl2
 have e:i=us.length:=by omega
 subst e;rw[List.drop_length]at hl2;unfold dr at hl2;split at hl2;rename_i hok;cases hl2;exact .inl ⟨(ito m2 _ H2 _ (ee.trans e2) sr2 hok).2 (Z6 _),post m2 H2 e2 sr2⟩;cases hl2
def yC{ci:CI}{g:CG}{ct:CT}{ce:CE}{n:Nat}{caps:List Nat}:∀σ H Q,tE K (iV ci g ct ce n caps) σ H Q->vk (tI K ci) (tG K g) (tT K ct) (tE K ce) n caps σ H Q:=by
 rintro σ H Q ⟨m,ρ,S,u,S',sr,lr,hc,post⟩;obtain⟨⟨us,ok,S1⟩,h1,h2⟩:=Q2.mp hc;obtain⟨S2,h2,h3⟩:=Q2.mp h2;cases h3;refine⟨m,ρ,S,us,ok,S1,sr,lr,h1,fun m1 H1 J e1 sr1 ito l hl=>?_⟩;have ee:Ext K m1 H1 (m1++[l]) (upd H1 l (.lst [])):=.new (cL hl _);exact vU sr1 (lr.mono e1) ito hl h2 fun m2 H2 e2 sr2=>post m2 _ H2 ((e1.trans ee).trans e2) sr2 (.ref_ (e2.get (fM sr1.len)))
def qW{Nc capN tn:List Str}{scope:Xz}{cl:List (Str×Addr)}{n:Nat}{caps:List Nat}{tg iter elt:ZR}{pos:Pos}{ci:CI}{g:CG}{ct:CT}{ce:CE}{c:ZR}
  (hc:X.calm=true) (hi:QI X tg iter ci) (hg:∀s3 H3 fp,WG (cxC X Nc scope cl s3 H3 fp) tg (tG X.K g)) (ht:∀s3 H3 fp,WT (cxC X Nc scope cl s3 H3 fp) c (tT X.K ct)) (he:∀s3 H3 fp,WE (cxC X Nc scope cl s3 H3 fp) elt (tE X.K ce))
  (hclos:closureFor scope X.env=pure cl) (hkind:scope.kind=.function) (hnl:∀x∈scope.names,x.2=.local->scope.names.lookup x.1=some .local) (hcell:∀x∈scope.names,x.2≠.cell)
  (hcl:xV X.env cl) (hhas:((relabel scope X.env).names.all fun p=>!(p.2 == .cell||p.2 == .free)||(cl.lookup p.1).isSome)=true)
  (hcap:Paired (Cap X scope cl) caps capN) (hN:Nc=tn++capN) (hn:tn.length=n)
  (hs:∀x,foldedSetIterable iter X.env x=pure x:=by intro _;rfl) :
  QE X (.ListComp elt [⟨tg,iter,[c],0⟩] scope pos) (iV ci g ct ce n caps):=(yb hc hi hg he ht hclos hkind hnl hcell hcl hhas hcap hN hn hs).imp yC
end
end OP
namespace OP
open PySem PySem.Spec PyProof PyProof.Rows L2 OG
mutual
inductive RdV(K:Q3)(H:Hp):V->PyData->Prop
 |non:RdV K H .non .none
 |bl (b:Bool):RdV K H (.bl b) (.bool b)
 |int (i:Int):RdV K H (.int i) (.int i)
 |str (x:Str):RdV K H (.str x) (.str x)
 |lst {a:Addr} {xs:List V} {ds:List PyData}:SqL K H a xs->BX K H xs ds->RdV K H (.ref a) (.list ds)
 |tup {a:Addr} {xs:List V} {ds:List PyData}:SqT K H a xs->BX K H xs ds->RdV K H (.ref a) (.tuple ds)
inductive BX(K:Q3)(H:Hp):List V->List PyData->Prop
 |nil:BX K H [] []
 |cons {x:V} {xs:List V} {d:PyData} {ds:List PyData}:RdV K H x d->BX K H xs ds->BX K H (x::xs) (d::ds)
end
mutual
inductive Dt(S:Sto):U->PyData->Prop
 |non:Dt S .non .none
 |bl (b:Bool):Dt S (.bl b) (.bool b)
 |int (i:Int):Dt S (.int i) (.int i)
 |str (x:Str):Dt S (.str x) (.str x)
 |lst {l:Nat} {us:List U} {ds:List PyData}:S[l]?=some (.lst us)->DtL S us ds->Dt S (.ref l) (.list ds)
 |tup {us:List U} {ds:List PyData}:DtL S us ds->Dt S (.tup us) (.tuple ds)
inductive DtL(S:Sto):List U->List PyData->Prop
 |nil:DtL S [] []
 |cons {x:U} {xs:List U} {d:PyData} {ds:List PyData}:Dt S x d->DtL S xs ds->DtL S (x::xs) (d::ds)
end
variable{X:Cx}{K:Q3}
section
variable{pins:List (Addr×Obj)}{σ:L2.St}{H:Hp}{s:Q5}
mutual
theorem RdV.reads(I:Inv X pins σ H s):∀{x:V} {d:PyData} {v:Q4},RdV X.K H x d->dk x v->∃as,Reads s.heap v d as
 |_,_,_,.non,r=>by cases r;exact⟨_,.none⟩
 |_,_,_,.bl b,r=>by cases r;exact⟨_,.bool b⟩
 |_,_,_,.int i,r=>by obtain⟨t,rfl⟩:=r;exact⟨_,.int i t⟩
 |_,_,_,.str i,r=>by obtain⟨t,rfl⟩:=r;exact⟨_,.str i t⟩
 |_,_,_,.lst (a:=a) h t,r=>by
  cases r;obtain⟨its,rv,pl,_⟩:=I.list h;obtain⟨as,k⟩:=BX.reads I t rv;obtain⟨o,h1,h2,n,h3⟩:=pl.isList;exact⟨_,.list h1 h2 h3 (by simpa using k)⟩
 |_,_,_,.tup (a:=a) h t,r=>by
  cases r;obtain⟨its,rv,pl,_⟩:=I.tuple h;obtain⟨as,k⟩:=BX.reads I t rv;obtain⟨o,h1,h2,n,h3⟩:=pl;exact⟨_,.tuple h1 h2 h3 (by simpa using k)⟩
theorem BX.reads(I:Inv X pins σ H s):∀{xs:List V} {ds:List PyData} {vs:List Q4},BX X.K H xs ds->cm xs vs->∃as,ReadsAll s.heap vs ds as
 |_,_,_,.nil,r=>by cases r;exact⟨_,.nil⟩
 |_,_,_,.cons h t,.cons r rs=>by
  obtain⟨as,a⟩:=RdV.reads I h r;obtain⟨bs,b⟩:=BX.reads I t rs;exact⟨_,.cons a b⟩
end
mutual
theorem Dt.rd{m:List Addr}{S:Sto}(sr:Sr K m S H):∀{u:U} {d:PyData} {v:V},Dt S u d->Is K m H v u->RdV K H v d
 |_,_,_,.non,i=>by rw[i.of_non];exact .non
 |_,_,_,.bl b,i=>by rw[i.of_bl];exact .bl b
 |_,_,_,.int b,i=>by rw[i.of_int];exact .int b
 |_,_,_,.str b,i=>by rw[i.of_str];exact .str b
 |_,_,_,.lst h t,i=>by
  obtain⟨a,ha,rfl⟩:=i.of_ref;obtain⟨a',ha',xs,hx,il⟩:=sr.get h;rw[ha]at ha';cases ha';exact .lst (SqL.of hx) (DtL.rd sr t il)
 |_,_,_,.tup t,i=>by
  obtain⟨a,xs,rfl,sa,la⟩:=i.of_tup;exact .tup sa (DtL.rd sr t la)
theorem DtL.rd{m:List Addr}{S:Sto}(sr:Sr K m S H):∀{us:List U} {ds:List PyData} {vs:List V},DtL S us ds->IsL K m H vs us->BX K H vs ds
 |_,_,_,.nil,i=>by rw[i.of_nil];exact .nil
 |_,_,_,.cons h t,i=>by
  obtain⟨x,r,rfl,i1,i2⟩:=i.of_cons;exact .cons (Dt.rd sr h i1) (DtL.rd sr t i2)
end
mutual
theorem Dt.uniq{S:Sto}:∀{u:U} {d e:PyData},Dt S u d->Dt S u e->d=e
 |_,_,_,.non,.non=>rfl
 |_,_,_,.bl _,.bl _=>rfl
 |_,_,_,.int _,.int _=>rfl
 |_,_,_,.str _,.str _=>rfl
 |_,_,_,.lst h t,.lst h' t'=>by
  rw[h]at h';cases h';rw[DtL.uniq t t']
 |_,_,_,.tup t,.tup t'=>by rw[DtL.uniq t t']
theorem DtL.uniq{S:Sto}:∀{us:List U} {ds es:List PyData},DtL S us ds->DtL S us es->ds=es
 |_,_,_,.nil,.nil=>rfl
 |_,_,_,.cons h t,.cons h' t'=>by rw[Dt.uniq h h',DtL.uniq t t']
end
def B6(d:PyData):Prop:=d.canLay0=true/\d.depth<=60
def OE(K:Q3)(neg:Bool):R2:=fun x y H Q=>(∃dx dy,RdV K H x dx/\RdV K H y dy/\B6 dx/\B6 dy/\Q (.bl (if neg then !dx.eqv dy else dx.eqv dy)) H)\/
 ∃a b xs ys,x=.ref a/\y=.ref b/\SqL K H a xs/\SqL K H b ys/\xs.length≠ys.length/\Q (.bl neg) H
def Lq(hu:X.A.units+64<cLine):OpR X (compareOp .Eq) (OE X.K false):=by
 rintro pins s σ H x y v u Q I rx ry (⟨dx,dy,hx,hy,lx,ly,q⟩|⟨a,b,xs,ys,rfl,rfl,ha,hb,ne,q⟩);obtain⟨as,hx⟩:=hx.reads I rx;obtain⟨bs,hy⟩:=hy.reads I ry;exact SeqAt.compareEq_reads hx hy lx.1 ly.1 (by have:=lx.2;omega) ⟨.bl _,H,I,rfl,q⟩;cases rx;cases ry;obtain⟨i1,r1,p1,_⟩:=I.list ha;obtain⟨i2,r2,p2,_⟩:=I.list hb;have l1:=r1.length;have l2:=r2.length;exact SeqAt.RcAt.lists_lengths p1.isList p2.isList (by simp;omega) ⋯ X.prog X.w X.xe _ ⟨.bl false,H,I,rfl,q⟩
def As(hu:X.A.units+64<cLine):OpR X (compareOp .NotEq) (OE X.K true):=by
 rintro pins s σ H x y v u Q I rx ry (⟨dx,dy,hx,hy,lx,ly,q⟩|⟨a,b,xs,ys,rfl,rfl,ha,hb,ne,q⟩);obtain⟨as,hx⟩:=hx.reads I rx;obtain⟨bs,hy⟩:=hy.reads I ry;exact SeqAt.compareNe_reads hx hy lx.1 ly.1 (by have:=lx.2;omega) ⟨.bl _,H,I,rfl,q⟩;cases rx;cases ry;obtain⟨i1,r1,p1,_⟩:=I.list ha;obtain⟨i2,r2,p2,_⟩:=I.list hb;have l1:=r1.length;have l2:=r2.length;exact SeqAt.RcNeAt.lists_lengths p1.isList p2.isList (by simp;omega) ⋯ X.prog X.w X.xe _ ⟨.bl true,H,I,rfl,q⟩
def Ci(x y:U)(S:Sto)(b:Bool):Prop:=(∃dx dy,Dt S x dx/\Dt S y dy/\B6 dx/\B6 dy/\b=dx.eqv dy)\/∃l l' us vs,x=.ref l/\y=.ref l'/\S[l]?=some (.lst us)/\S[l']?=some (.lst vs)/\us.length≠vs.length/\b=false
def DtL.length{S:Sto}:∀{us:List U} {ds:List PyData},DtL S us ds->us.length=ds.length
 |_,_,.nil=>rfl
 |_,_,.cons _ t=>by rw[ZZ,ZZ,DtL.length t]
def Ci.mix{l l':Nat}{us vs:List U}{S:Sto}{dx dy:PyData}(h1:Dt S (.ref l) dx)(h2:Dt S (.ref l') dy)(k1:S[l]?=some (.lst us))(k2:S[l']?=some (.lst vs))(ne:us.length≠vs.length):dx.eqv dy=false:=by
 cases h1 with
 |lst a1 t1=>
  cases h2 with
  |lst a2 t2=>
   rw[k1]at a1;cases a1;rw[k2]at a2;cases a2;show PyData.eqvAll _ _=false;exact SeqAt.eqvAll_other_length (by rw[<-t1.length,<-t2.length];exact ne)
def Ci.uniq{x y:U}{S:Sto}{b c:Bool}(h:Ci x y S b)(k:Ci x y S c):b=c:=by
 rcases h with⟨dx,dy,h1,h2,_,_,rfl⟩|⟨l,l',us,vs,rfl,rfl,h1,h2,ne,rfl⟩;rcases k with⟨ex,ey,k1,k2,_,_,rfl⟩|⟨l,l',us,vs,rfl,rfl,k1,k2,ne,rfl⟩;rw[h1.uniq k1,h2.uniq k2];exact Ci.mix h1 h2 k1 k2 ne;rcases k with⟨ex,ey,k1,k2,_,_,rfl⟩|⟨_,_,_,_,_,_,_,_,_,rfl⟩;exact(Ci.mix k1 k2 h1 h2 ne).symm;rfl
open Classical in
def xv(neg:Bool):U->U->Sto->Option (U×Sto):=fun x y S=>if h:∃b,Ci x y S b then some (.bl (if neg then !h.choose else h.choose),S)else none
def Bn{x y:U}{S:Sto}{b:Bool}(neg:Bool)(h:Ci x y S b):xv neg x y S=some (.bl (if neg then !b else b),S):=by
 unfold xv;rw[dif_pos ⟨b,h⟩];have e:(⟨b,h⟩:∃b,Ci x y S b).choose=b:=(Exists.choose_spec (⟨b,h⟩:∃b,Ci x y S b)).uniq h;rw[e]
def DJ{neg:Bool}:OpP K (OE K neg) (xv neg):=by
 intro m S H x y v w u S' Q sr ix iy hf post;unfold xv at hf;split at hf<;>try cases hf
 rename_i h;have hb:=h.choose_spec;generalize h.choose=b at hb post;rcases hb with⟨dx,dy,h1,h2,l1,l2,rfl⟩|⟨l,l',us,vs,rfl,rfl,h1,h2,ne,rfl⟩;exact .inl ⟨dx,dy,h1.rd sr ix,h2.rd sr iy,l1,l2,post m _ H .refl sr .bl_⟩
 ·obtain⟨a,ha,rfl⟩:=ix.of_ref;obtain⟨a',ha',xs,hx,la⟩:=sr.get h1;rw[ha]at ha';cases ha';obtain⟨c,hc,rfl⟩:=iy.of_ref;obtain⟨c',hc',ys,hy,lc⟩:=sr.get h2;rw[hc]at hc';cases hc';refine .inr ⟨a,c,xs,ys,rfl,rfl,SqL.of hx,SqL.of hy,by rw[la.length,lc.length];exact ne,?_⟩;have e:(if neg=true then !false else false)=neg:=by cases neg<;>rfl
  have:=post m _ H .refl sr (Is.bl_ (b:=if neg=true then !false else false));rw[e]at this;exact this
def IV(us:List U)(lo hi:Option Int):List U:=(us.drop (HT.sIx us.length 0 lo)).take (HT.sIx us.length us.length hi-HT.sIx us.length 0 lo)
def FY{m:List Addr}{xs:List V}{us:List U}{lo hi:Option Int}(i:IsL K m H xs us):IsL K m H (FZ xs lo hi) (IV us lo hi):=by
 unfold FZ IV;rw[i.length];exact(i.drop _).take _
def fSl(x:U)(lo hi:Option Int)(S:Sto):Option (U×Sto):=match x with
 |.tup us=>if HT.sIx us.length 0 lo=0/\HT.sIx us.length us.length hi=us.length then none else some (.tup (IV us lo hi),S)
 |.ref l=>match S[l]? with
  |some (.lst us)=>some (.ref S.length,S++[.lst (IV us lo hi)])
  |_=>none
 |_=>none
def yE:Option CE->Rho->Sto->Option (Option Int×Sto)
 |none,_,S=>some (none,S)
 |some c,ρ,S=>(c ρ S).bind fun p=>match p.1 with
  |.int i=>some (some i,p.2)
  |_=>none
def cSl(ca:CE)(cl ch:Option CE):CE:=fun ρ S=>(ca ρ S).bind fun p=>(yE cl ρ p.2).bind fun q=>(yE ch ρ q.2).bind fun r=>fSl p.1 q.1 r.1 r.2
def PD(K:Q3)(m:List Addr)(H:Hp)(Q:Option Int->Hp->Prop)(o:Option Int)(S':Sto):Prop:=∀m' H',Ext K m H m' H'->Sr K m' S' H'->Q o H'
def tO(K:Q3)(c:Option CE):TO:=fun σ H Q=>∃m ρ S o S',Sr K m S H/\Lr K m H ρ σ/\yE c ρ S=some (o,S')/\PD K m H Q o S'
abbrev QO(X:Cx)(e:Option ZR)(c:Option CE):Prop:=WO X e (tO X.K c)
def vq:QO X none none:=⟨fun pins s σ H Q I hz=>oH hz fun m ρ S o S' sr lr hc post=>Ct.h pins s σ H Q I (by cases hc;exact post m H .refl sr)⟩
def vo{e:ZR}{ca:CE}(h:QE X e ca):QO X (some e) (some ca):=⟨fun pins s σ H Q I hz=>oH hz fun m ρ S o S' sr lr hc post=>(Cs h).h pins s σ H Q I (by
 obtain⟨⟨x,S1⟩,h1,h2⟩:=Q2.mp hc;refine⟨m,ρ,S,x,S1,sr,lr,h1,fun m1 v1 H1 e1 sr1 i1=>?_⟩;cases x<;>simp at h2;obtain⟨rfl,rfl⟩:=h2;exact⟨_,i1.of_int,post m1 H1 e1 sr1⟩)⟩
def OI{e:ZR}{lo hi:Option ZR}{ca:CE}{cl ch:Option CE}{pos p2:Pos}(ha:QE X e ca)(hl:QO X lo cl)(hh:QO X hi ch):QE X (.Subscript e (.Slice lo hi none p2) pos) (cSl ca cl ch):=(zf (Hd.or Kt) ha hl hh).imp fun σ H Q hz=>oH hz fun m ρ S u S' sr lr hc post=>by
 obtain⟨⟨x,S1⟩,h1,ha⟩:=Q2.mp hc;obtain⟨⟨l,S2⟩,h2,hb⟩:=Q2.mp ha;obtain⟨⟨k,S3⟩,h3,h⟩:=Q2.mp hb;clear ha hb hc;refine⟨m,ρ,S,x,S1,sr,lr,h1,fun m1 v1 H1 e1 sr1 i1=>⟨m1,ρ,S1,l,S2,sr1,lr.mono e1,h2,fun m2 H2 e2 sr2=>⟨m2,ρ,S2,k,S3,sr2,lr.mono (e1.trans e2),h3,fun m3 H3 e3 sr3=>?_⟩⟩⟩;have i3:=i1.mono (e2.trans e3);have e03:=(e1.trans e2).trans e3;cases x with
 |tup us=>
  simp only[fSl]at h;split at h<;>try cases h
  rename_i hw;obtain⟨a,xs,rfl,sa,la⟩:=i3.of_tup;exact .inr ⟨a,xs,rfl,sa,by rw[la.length];exact hw,fun p hp=>qZ sr3 (FY la) (post.mono e03) hp⟩
 |ref r=>
  simp only[fSl]at h;split at h<;>try cases h
  rename_i us hS;obtain⟨a,ha,rfl⟩:=i3.of_ref;obtain⟨a',ha',xs,hx,la⟩:=sr3.get hS;rw[ha]at ha';cases ha';exact .inl ⟨a,xs,rfl,SqL.of hx,fun p hp=>fH sr3 (FY la) (post.mono e03) hp⟩
 |_=>simp[fSl]at h
end
def Hh(K:Q3):R2:=fun x y H Q=>∃a k xs,x=.ref a/\y=.int k/\SqT K H a xs/\xs≠[]/\1<=k/\xs.length*k.toNat<=1000/\∀q H',Gd H H'->SqT K H' q (ZQ k.toNat xs).flatten->Q (.ref q) H'
def HP:OpR X (binaryOp .Mult) (Hh X.K):=by
 intro pins s σ H x y v u Q I rx ry h;obtain⟨a,k,xs,rfl,rfl,ha,hne,hk,hz,q⟩:=h;cases rx;obtain⟨t,rfl⟩:=ry;obtain⟨its,r1,p1,hzz⟩:=I.tuple ha;have hlen:=r1.length;obtain⟨⟨cls,dd,data,sl⟩,ho,hc,n,hd⟩:=id p1;simp only at hc hd;subst hc hd;have hne':its≠[]:=fun z=>hne (r1.nil_iff.mp z);refine wpAny_binaryOp_repeat_ref (T:="tuple") (U:="int") ∅ ⟨_,ho,rfl⟩ (fun s'=>typeIs_int s' k t) mK F.fills_int_mul F.slot_int_rmul tJ F.slot_int_index.lookup
  (call_meets F.slot_int_rmul (typeIs_int s k t) F.entry_int_rmul (F.args_int_rmul_2 _ _) (o7 k t a its.toArray n dd sl) ⟨ho,rfl,⟨_,ho,rfl⟩,?_⟩)
 by_cases k1:k=1;subst k1;refine call_meets F.slot_tuple_mul ⟨_,ho,rfl⟩ F.entry_tuple_mul (F.args_tuple_mul_2 _ _) (vh a its.toArray n dd sl t) ⟨ho,⟨.ref a,H,I,rfl,q a H (.refl _) ?_⟩⟩;simpa using ha;have hfold:List.foldl (fun x1 x2=>x1++x2) #[] (ZQ k.toNat its.toArray)=(ZQ k.toNat its).flatten.toArray:=by
  have:=oE its k.toNat [];rw[Zf]at this;exact this
 have hfl:(ZQ k.toNat its).flatten.length<=1000:=by rw[vF,<-hlen,Nat.mul_comm];exact hz
 have hlp:0<its.length:=Yf.mpr hne';have hk2:k.toNat<=1000:=Zw (Nat.le_mul_of_pos_left _ (by rw[hlen];exact hlp)) hz;have hsz:(its.toArray.size:Int)*k<=1000:=by
  rw[ZV,<-hlen];have e:k=((k.toNat:Nat):Int):=by omega
  rw[e,<-Int.natCast_mul];omega
 refine call_meets F.slot_tuple_mul ⟨_,ho,rfl⟩ F.entry_tuple_mul (F.args_tuple_mul_2 _ _) (vg a its.toArray n dd sl k t ?_ ?_ ?_ ?_ ?_ ?_) ⟨ho,?_⟩;simp;omega;simp[hne',k1];simp[hne'];omega;omega;unfold Builtin.Tuple.tupleTooMany;have:¬(its.toArray.size:Int)*k>(ZU:Int):=by
  have:(1000:Nat)<=ZU:=tw (Z6 _);omega
 simpa using this;rw[hfold,ZV];exact tw hfl;rw[hfold];refine⟨.ref s.heap.objs.size,_,I.laid (t':=s.toks) (o:=.tup (ZQ k.toNat xs).flatten) (fun b ob q=>Q9 _ q) (Z6 _) ?_,rfl,q _ _ (iF (I.hok.fresh (Z6 _)) _) (SqT.of aJ)⟩;exact⟨tw (by rw[vF,Nat.mul_comm];exact hz),_,r1.rep k.toNat,IsTup.new _ _⟩
def uB:U->U->Sto->Option (U×Sto)
 |.int i,.int j,S=>if B9 i j then some (.int (i*j),S)else none
 |.tup us,.int k,S=>if us≠[]/\1<=k/\us.length*k.toNat<=1000 then some (.tup (ZQ k.toNat us).flatten,S)else none
 |.ref l,.int k,S=>match S[l]? with
  |some (.lst us)=>if 0<=k/\k<=100000/\us.length*k.toNat<=LIM then some (.ref S.length,S++[.lst (ZQ k.toNat us).flatten])else none
  |_=>none
 |_,_,_=>none
def Fy:OpR X (binaryOp .Mult) (fun x y H Q=>rI B9 (fun i j=>.int (i*j)) x y H Q\/(Hh X.K x y H Q\/OD x y H Q)):=kC.or (HP.or Ln)
instance {us:List U}:Decidable (us≠[]):=match us with
 |[]=>.isFalse fun h=>h rfl
 |_::_=>.isTrue fun h=>by cases h
def Fu:OpP K (fun x y H Q=>rI B9 (fun i j=>.int (i*j)) x y H Q\/(Hh K x y H Q\/OD x y H Q)) uB:=by
 intro m S H x y v w u S' Q sr ix iy hf post;cases x<;>cases y<;>simp only[uB]at hf<;>try cases hf
 ·split at hf<;>try cases hf
  rename_i hc;exact .inl ⟨_,_,ix.of_int,iy.of_int,hc,post m _ H .refl sr .int_⟩
 ·rename_i us k;split at hf<;>try cases hf
  rename_i hc;obtain⟨a,xs,rfl,sa,la⟩:=ix.of_tup;refine .inr (.inl ⟨a,k,xs,rfl,iy.of_int,sa,fun z=>hc.1 ?_,hc.2.1,by rw[la.length];exact hc.2.2,fun q H' s sq=>?_⟩);subst z;have:=la.length;exact Yg.mp this.symm;exact post m _ H' (.of (dQ s)) (sr.same s) (.tup_ sq ((la.rep k.toNat).mono (.of (dQ s))))
 ·rename_i l k;split at hf<;>try cases hf
  rename_i us hS;split at hf<;>try cases hf
  rename_i hc;obtain⟨a,ha,rfl⟩:=ix.of_ref;obtain⟨a',ha',xs,hx,la⟩:=sr.get hS;rw[ha]at ha';cases ha';exact .inr (.inr ⟨a,k,xs,rfl,iy.of_int,hx,⋯,⋯,lim (by rw[la.length];exact hc.2.2),fun p hp=>fH sr (la.rep k.toNat) post hp⟩)
end OP
namespace OG
open PySem PySem.Spec PyProof.Rows L2
def LA{C a:Addr}{m:Str->Option Q4}{h h':Heap}(n:h.Ns C m)(s:Heap.SameBut a h h')(ne:C≠a):h'.Ns C m:=by
 obtain⟨o,es,ep,e,r⟩:=n;exact⟨o,es,ep,(s.2 C ne).trans e,r⟩
def x5{X:Cx}{Nc capN tn:List Str}{scope:Xz}{cl:List (Str×Addr)}{n:Nat}{caps:List Nat}{tg iter elt:ZR}{pos:Pos}{wi:TI}{g:TG}{te:TE}
  (hc:X.calm=true) (hi:WI X tg iter wi) (hg:∀s3 H3 fp,WG (cxC X Nc scope cl s3 H3 fp) tg g) (he:∀s3 H3 fp,WE (cxC X Nc scope cl s3 H3 fp) elt te)
  (hclos:closureFor scope X.env=pure cl) (hkind:scope.kind=.function) (hnl:∀x∈scope.names,x.2=.local->scope.names.lookup x.1=some .local) (hcell:∀x∈scope.names,x.2≠.cell)
  (hcl:xV X.env cl) (hhas:((relabel scope X.env).names.all fun p=>!(p.2 == .cell||p.2 == .free)||(cl.lookup p.1).isSome)=true)
  (hcap:Paired (Cap X scope cl) caps capN) (hN:Nc=tn++capN) (hn:tn.length=n)
  {i₀:Nat} {x₀:Str} {pos₀ pos':Pos} (hN0:X.N.Nodup) (hi0:X.N[i₀]?=some x₀) (hx0:X.env.scope.names.lookup x₀=some .local)
  (hsw:XT (.ListComp elt [⟨tg,iter,[],0⟩] scope pos) (some (.Name x₀ pos')) pos₀.line X.env=pure true)
  (hs:∀x,foldedSetIterable iter X.env x=pure x:=by intro _;rfl) :
  WS X (.Assign [.Name x₀ pos'] (.ListComp elt [⟨tg,iter,[],0⟩] scope pos) pos₀) (fun D σ H=>CQ wi g te n caps σ H fun v H'=>D.nx (σ.set i₀ (some v)) H'):=by
 constructor;intro pins s σ H Dn I h;rw[exec_Assign_arm];refine Q8 (wpAny_standAt ?_);have hsw':swapsWithSole [.Name x₀ pos'] (.ListComp elt [⟨tg,iter,[],0⟩] scope pos) pos₀.line X.env=pure true:=hsw;rw[hsw'];refine Q8 (ZC ?_);rw[Xd rfl,arm_evalThenUse_ListComp];refine Q8 (Q8 (xF (Qf:=fun _ s'=>wpAny (ZL X.prog X.w) X.A (pure ()) (fun _ s'=>wpAny (ZL X.prog X.w) X.A (pure Flow.next) (SP X pins Dn) X.xe s') X.xe s') hc hi hg he hclos hkind hnl hcell hcl hhas hcap hN hn I h (fun D C s6 H5 m I7 hm fr nl sz cn pn qn=>?_) hs));show wpAny _ _ (assign (.Name x₀ pos') X.env (.ref D)) _ _ s6;rw[arm_assign_Name];refine Q8 (wpAny_standAt (wpAny_bindName (tj (v:=.ref D) I7 hN0 hi0 (.inl hx0) rfl (fun s7 I7' hsb=>?_) (.inr hx0))));obtain⟨a7,hsb,ha7⟩:=hsb;have cNe:C≠a7:=by
  rcases ha7 with z|z;rw[z];exact nl;exact Ne.symm (cn _ _ z)
 refine⟨m,LA hm hsb cNe,fun h' hs'=>ZC (ZC ⟨_,H5,?_,qn⟩)⟩;exact I7'.turned (t':=s7.toks) (it:=C) (fun b o hb e=>hs'.extBut b o hb e) fr nl (.inr sz) cn pn
end OG
namespace OP
open PySem PySem.Spec PyProof.Rows L2 OG
section
variable{X:Cx}{K:Q3}
def qj{i₀:Nat}{x₀:Str}{pos₀ pos':Pos}{Nc capN tn:List Str}{scope:Xz}{cl:List (Str×Addr)}{n:Nat}{caps:List Nat}{tg iter elt:ZR}{pos:Pos}{ci:CI}{g:CG}{ce:CE}
  (hc:X.calm=true) (hi:QI X tg iter ci) (hg:∀s3 H3 fp,WG (cxC X Nc scope cl s3 H3 fp) tg (tG X.K g)) (he:∀s3 H3 fp,WE (cxC X Nc scope cl s3 H3 fp) elt (tE X.K ce))
  (hclos:closureFor scope X.env=pure cl) (hkind:scope.kind=.function) (hnl:∀x∈scope.names,x.2=.local->scope.names.lookup x.1=some .local) (hcell:∀x∈scope.names,x.2≠.cell)
  (hcl:xV X.env cl) (hhas:((relabel scope X.env).names.all fun p=>!(p.2 == .cell||p.2 == .free)||(cl.lookup p.1).isSome)=true)
  (hcap:Paired (Cap X scope cl) caps capN) (hN:Nc=tn++capN) (hn:tn.length=n)
  (hN0:X.N.Nodup) (hi0:X.N[i₀]?=some x₀) (hx0:X.env.scope.names.lookup x₀=some .local)
  (hsw:XT (.ListComp elt [⟨tg,iter,[],0⟩] scope pos) (some (.Name x₀ pos')) pos₀.line X.env=pure true)
  (hs:∀x,foldedSetIterable iter X.env x=pure x:=by intro _;rfl) :
  QS X (.Assign [.Name x₀ pos'] (.ListComp elt [⟨tg,iter,[],0⟩] scope pos) pos₀) (cQ i₀ (bX ci g ce n caps)):=(x5 hc hi hg he hclos hkind hnl hcell hcl hhas hcap hN hn hN0 hi0 hx0 hsw hs).imp fun D σ H hz=>xw hz fun m ρ S o ρ' S' sr lr hc post=>by
 obtain⟨⟨u,S1⟩,h1,h2⟩:=Q2.mp hc;cases h2;exact xE _ _ _ ⟨m,ρ,S,u,_,sr,lr,h1,fun m1 v1 H1 e1 sr1 i1=>post m1 _ H1 e1 sr1 ((lr.mono e1).set i₀ i1)⟩
end
end OP
namespace OP
open PySem PySem.Spec PyProof PyProof.Rows L2 OG
variable{X:Cx}{K:Q3}
section
def lF:U->List U->Sto->Option (U×Sto)
 |.ref l,[.ref b],S=>match S[l]?,S[b]? with
  |some (.lst us),some (.lst vs)=>if us.length+vs.length<=LIM then some (.non,S.set l (.lst (us++vs)))else none
  |_,_=>none
 |_,_,_=>none
def DI:MtP K zX lF:=by
 intro m S H x v us vs u S' Q sr ix i hf post;match x,us,hf with
 |.ref l,[.ref b],hf=>
  simp only[lF]at hf;split at hf<;>try cases hf
  rename_i xs0 ys0 hS hB;split at hf<;>try cases hf
  rename_i hl;obtain⟨a,ha,rfl⟩:=ix.of_ref;obtain⟨a',ha',xs,hx,la⟩:=sr.get hS;rw[ha]at ha';cases ha';obtain⟨y,rfl,iy⟩:=i.one;obtain⟨c,hc,rfl⟩:=iy.of_ref;obtain⟨c',hc',ys,hy,lb⟩:=sr.get hB;rw[hc]at hc';cases hc';have eu:Ext K m H m (upd H a (.lst (xs++ys))):=.of (sr.keep ha _);exact⟨a,c,xs,ys,rfl,rfl,hx,hy,lim (by rw[la.length,lb.length];exact hl),post m _ _ eu (sr.put ha ⟨_,aJ,(la.append lb).mono eu⟩) .non_⟩
def qA:U->List U->Sto->Option (U×Sto)
 |.ref l,[.int i],S=>match S[l]? with
  |some (.lst us)=>if 0<=i/\i<us.length/\us.length<=LIM then(us[i.toNat]?).bind fun u=>some (u,S.set l (.lst (us.eraseIdx i.toNat)))else none
  |_=>none
 |_,_,_=>none
def HK:MtP K Fl qA:=by
 intro m S H x v us vs u S' Q sr ix i hf post;match x,us,hf with
 |.ref l,[.int k],hf=>
  simp only[qA]at hf;split at hf<;>try cases hf
  rename_i ws hS;split at hf<;>try cases hf
  rename_i hk;obtain⟨w,hw,h⟩:=Q2.mp hf;cases h;obtain⟨a,ha,rfl⟩:=ix.of_ref;obtain⟨a',ha',xs,hx,la⟩:=sr.get hS;rw[ha]at ha';cases ha';obtain⟨y,hy,iy⟩:=la.getD hw;obtain⟨z,rfl,iz⟩:=i.one;have eu:Ext K m H m (upd H a (.lst (xs.eraseIdx k.toNat))):=.of (sr.keep ha _);have hL:ws.length<=100000:=hk.2.2;exact⟨a,xs,k,k.toNat,y,rfl,by rw[iz.of_int],hx,⋯,⋯,seqIndex_of hk.1 (by rw[la.length];exact hk.2.1),hy,post m _ _ eu (sr.put ha ⟨_,aJ,(la.erase _).mono eu⟩) (iy.mono eu)⟩
variable{e:ZR}{es:List ZR}{co:CE}{cr:CA}{o:ZR}{apos cpos:Pos}
def C6 (ho : QE X o co) (ha : QA X (e :: es) cr) (hbase : attributeBase o "extend" X.env (eval o X.env) = eval o X.env := by rfl) (hfew : ((Zi cpos (Z9 (e :: es) X.env)).all (fun x => !x.1) && (backToKw cpos (keywordEach [] X.env)).all (fun x => x.1.isSome)
   && decide ((e::es).length+([]:List Keyword).length+(if ([]:List Keyword).isEmpty then 0 else 1)<30))=true:=by rfl) (hline:(apos.endLine == cpos.line)=true:=by rfl) (hs:Z9 (e::es) X.env=(false,eval e X.env)::Z9 es X.env:=by rfl) (hplain:(Zi cpos (Z9 es X.env)).any (·.1)=false:=by rfl) :
  QE X (.Call (.Attribute o "extend" apos) (e::es) [] cpos) (cBM lF co cr):=(zo YK PySem.F.slot_list_extend PySem.F.type_list_extend AA ho ha.h hbase hfew hline hs hplain).imp (xM DI)
def Hl (ho : QE X o co) (ha : QA X (e :: es) cr) (hbase : attributeBase o "pop" X.env (eval o X.env) = eval o X.env := by rfl) (hfew : ((Zi cpos (Z9 (e :: es) X.env)).all (fun x => !x.1) && (backToKw cpos (keywordEach [] X.env)).all (fun x => x.1.isSome)
   && decide ((e::es).length+([]:List Keyword).length+(if ([]:List Keyword).isEmpty then 0 else 1)<30))=true:=by rfl) (hline:(apos.endLine == cpos.line)=true:=by rfl) (hs:Z9 (e::es) X.env=(false,eval e X.env)::Z9 es X.env:=by rfl) (hplain:(Zi cpos (Z9 es X.env)).any (·.1)=false:=by rfl) :
  QE X (.Call (.Attribute o "pop" apos) (e::es) [] cpos) (cBM qA co cr):=(zo YK PySem.F.slot_list_pop PySem.F.type_list_pop DO ho ha.h hbase hfew hline hs hplain).imp (xM HK)
def EK(bs:List Bool):(ZF bs.length).any (fun i=>(bs[i]?).getD false)=bs.any id:=by
 rw[XI,List.any_eq_true,List.any_eq_true];constructor;rintro⟨i,hi,h⟩;have hi':=Zs.mp hi;rw[Z7 hi',XQ]at h;exact⟨_,YY hi',h⟩;rintro⟨b,hb,h⟩;obtain⟨i,hi,e⟩:=Yh.mp hb;refine⟨i,Zs.mpr hi,?_⟩;rw[Z7 hi,XQ,e];exact h
def xI(hc:X.calm=true):hV X (.builtin "any") (fun xs H Q=>∃(p:Addr) (bs:List Bool),xs=[.ref p]/\SqL X.K H p (bs.map V.bl)/\Q (.bl (bs.any id)) H):=by
 intro pins s σ H xs us Q I r h;obtain⟨p,bs,rfl,hq,q⟩:=h;obtain⟨u,rfl,rx⟩:=m8 r;cases rx;obtain⟨its,rv,pl,hz⟩:=I.list hq;have hlen:=rv.length;rw[Q7]at hlen;refine call_any_walk (wpAny_pyIter_list pl.isList ?_);have lt:p<s.heap.objs.size:=by obtain⟨o,e,_⟩:=pl.isList;exact ZX e
 refine⟨s.heap.objs.size,_,_,_,_,_,fun i=>(bs[i]?).getD false,rfl,Walks.list (show X.A.in1.handled=none from I.ok.hd hc) s.heap.objs.size p (Zq lt) its.toArray,⟨⟨_,ZT _ rfl,rfl,rfl⟩,pl.isList.at fun o e=>Q9 _ e⟩,?_,fun h' tk hk=>?_⟩;intro i v s' Q' E' hP hQ;have hP':its.toArray[i]?=some v:=hP;obtain⟨b,e1,e2⟩:=ve rv (by simpa using hP');subst e2;dsimp only at hQ;rw[e1,XQ]at hQ;exact wpAny_truthy_bool hQ;have e:(ZF its.toArray.size).any (fun i=>(bs[i]?).getD false)=bs.any id:=by
  rw[ZV,<-hlen];exact EK bs
 rw[e];exact⟨.bl (bs.any id),H,I.kept fun b o e=>hk b o (Ax e) (Q9 _ e),rfl,q⟩
def El:Fn
 |[.ref l],S=>match S[l]? with
  |some (.lst us)=>(IZ us).bind fun bs=>some (.bl (bs.any id),S)
  |_=>none
 |_,_=>none
def Lm:mO K (fun xs H Q=>∃(p:Addr) (bs:List Bool),xs=[.ref p]/\SqL K H p (bs.map V.bl)/\Q (.bl (bs.any id)) H) El:=by
 intro m S H us vs u S' Q sr i hf post;match us,hf with
 |[.ref l],hf=>
  obtain⟨v,rfl,iv⟩:=i.one;obtain⟨a,ha,rfl⟩:=iv.of_ref;simp only[El]at hf;split at hf<;>try cases hf
  rename_i ws hS;obtain⟨bs,hb,h⟩:=Q2.mp hf;cases h;obtain⟨a',ha',xs,hx,la⟩:=sr.get hS;rw[ha]at ha';cases ha';rw[vW hb]at la;rw[la.bls]at hx;exact⟨a,bs,rfl,SqL.of hx,post m _ H .refl sr .bl_⟩
end
section
def GY{e:ZR}{t:TE}(h:WE X e t):WE X e (fun σ H Q=>t σ H fun v H'=>∃a ob kvs,Cg X a/\H' a=some (.frz ob (.dK kvs))/\Q v (upd H' a (.dK kvs))):=
 ⟨fun pins s σ H Q I k=>thn (h.h pins s σ H _ I k) fun u s1 ⟨v,H1,I1,r1,a,ob,kvs,nf,e,q⟩=>⟨v,_,kH I1 nf e,r1,q⟩⟩
def BI(ce:CE)(f:(Sto->Prop)->Nat->List U->Rho->Sto->Option Sto)(n:Nat)(caps:List Nat):CE:=fun ρ S=>(ce ρ S).bind fun p=>match p.1 with
 |.ref l=>match p.2[l]? with
  |some (.dic kus)=>uni fun ep=>(f (fun S'=>S'[l]?=some (.fdc ep kus)) p.2.length (kus.map fun q=>kU q.1) (sM n caps ρ) (p.2.set l (.fdc ep kus)++[.lst []])).bind fun S'=>match S'[l]? with
   |some (.fdc _ kus')=>some (.ref p.2.length,S'.set l (.dic kus'))
   |_=>none
  |_=>none
 |_=>none
def jM(ce:CE)(g:CG)(el:CE)(n:Nat)(caps:List Nat):CE:=BI ce (fun ok l=>gC ok g el l) n caps
def zw{ce:CE}{f:(Sto->Prop)->Nat->List U->Rho->Sto->Option Sto}{n:Nat}{caps:List Nat}{G:It->Hp->L2.St->VK->Prop}
  (core:∀{J:It} {us:List U} {ok:Sto->Prop} {Q:VK} {m1:List Addr} {H1:Hp} {S1 S':Sto} {ρ:Rho} {σ:L2.St},Sr X.K m1 S1 H1->Lr X.K m1 H1 ρ σ->ET X.K J m1 H1 us ok->f ok S1.length us (sM n caps ρ) (S1++[.lst []])=some S'->
   (∀l,H1 l=none->∀m2 H2,Ext X.K (m1++[l]) (upd H1 l (.lst [])) m2 H2->Sr X.K m2 S' H2->Q (.ref l) H2)->G J H1 σ Q) :
  ∀σ H Q,tE X.K (BI ce f n caps) σ H Q->IC X (tE X.K ce) σ H fun J H1=>G J H1 σ fun v H'=>∃a ob kvs,Cg X a/\H' a=some (.frz ob (.dK kvs))/\Q v (upd H' a (.dK kvs)):=by
 rintro σ H Q ⟨m,ρ,S,u,S',sr,lr,hc,post⟩;obtain⟨⟨x,S1⟩,h1,h⟩:=Q2.mp hc;refine⟨m,ρ,S,x,S1,sr,lr,h1,fun m1 v1 H1 e1 sr1 i1=>?_⟩;cases x with
 |ref l=>
  simp only at h;split at h<;>try cases h
  rename_i kus hS;obtain⟨a,ha,rfl⟩:=i1.of_ref;obtain⟨a',ha',kvs,hx,ip⟩:=sr1.get hS;rw[ha]at ha';cases ha';refine⟨a,kvs,rfl,hx,fun ob es ep nf hd=>?_⟩;obtain⟨S2,h2,h3⟩:=Q2.mp (wG h ep);try simp only at h3
  split at h3<;>try cases h3
  rename_i ep' kus' hS2;have kp:B7 X.K H1 (upd H1 a (.frz ob (.dK kvs))):=sr1.keep ha _;have ee:Ext X.K m1 H1 m1 (upd H1 a (.frz ob (.dK kvs))):=.of kp;have sr2:Sr X.K m1 (S1.set l (.fdc ep kus)) (upd H1 a (.frz ob (.dK kvs))):=sr1.put ha ⟨ob,es,kvs,aJ,hd,ip.mono ee⟩;rw[ip.1];have hln:(S1.set l (.fdc ep kus)).length=S1.length:=by simp
  refine core sr2 (lr.mono (e1.trans ee)) (AZ ha) (by rw[hln];exact h2) fun p hp m3 H3 e3 sr3=>?_;have en:Ext X.K m1 (upd H1 a (.frz ob (.dK kvs))) (m1++[p]) (upd (upd H1 a (.frz ob (.dK kvs))) p (.lst [])):=.new (cL hp _);have e03:=en.trans e3;obtain⟨a3,ha3,ob3,es3,kvs3,hx3,hd3,ip3⟩:=sr3.get hS2;rw[e03.get ha]at ha3;cases ha3;have e4:Ext X.K m3 H3 m3 (upd H3 a (.dK kvs3)):=.of (sr3.keep (e03.get ha) _);refine⟨a,ob3,kvs3,nf,hx3,post m3 _ _ (((e1.trans ee).trans e03).trans e4) (sr3.put (e03.get ha) ⟨kvs3,aJ,ip3.mono e4⟩) ?_⟩;have lg:(m1++[p])[S1.length]?=some p:=fM sr1.len;exact .ref_ (e3.get lg)
 |_=>cases h
variable{Nc capN tn:List Str}{scope:Xz}{cl:List (Str×Addr)}{n:Nat}{caps:List Nat}{tg iter elt:ZR}{pos:Pos}{ci:CE}{g:CG}{ce:CE}
def Aa(hc:X.calm=true)(hi:QE X iter ci)(hg:∀s3 H3 fp,WG (cxC X Nc scope cl s3 H3 fp) tg (tG X.K g))(he:∀s3 H3 fp,WE (cxC X Nc scope cl s3 H3 fp) elt (tE X.K ce))
  (hclos:closureFor scope X.env=pure cl) (hkind:scope.kind=.function) (hnl:∀x∈scope.names,x.2=.local->scope.names.lookup x.1=some .local) (hcell:∀x∈scope.names,x.2≠.cell)
  (hcl:xV X.env cl) (hhas:((relabel scope X.env).names.all fun p=>!(p.2 == .cell||p.2 == .free)||(cl.lookup p.1).isSome)=true)
  (hcap:Paired (Cap X scope cl) caps capN) (hN:Nc=tn++capN) (hn:tn.length=n)
  (hs:∀x,foldedSetIterable iter X.env x=pure x:=by intro _;rfl) :
  QE X (.ListComp elt [⟨tg,iter,[],0⟩] scope pos) (jM ci g ce n caps):=
 (GY (wA hc (zu hi) hg he hclos hkind hnl hcell hcl hhas hcap hN hn hs)).imp (zw (G:=fun J H1 σ Q=>∀l,H1 l=none->∃W:Nat->Nat->L2.St->Hp->Prop,(∃m,W 0 m (OG.stC n caps σ) (upd H1 l (.lst [])))/\
  ∀i m σ' H2,W i m σ' H2->(J.stop i H2/\Q (.ref l) H2)\/(J.go i H2/\∃N:L2.St->Hp->Prop,(∀σ'' H',N σ'' H'->∃m',m'<m/\W (i+1) m' σ'' H')/\
  ∀x H3,J.yld i H2 x H3->tG X.K g x σ' H3 fun σ2 H4=>tE X.K ce σ2 H4 fun v H5=>∃ys,H5 l=some (.lst ys)/\ys.length<ZU/\N σ2 (upd H5 l (.lst (ys++[v]))))) fun sr lr ito h2 post l hl=>uJ sr lr ito hl h2 (post l hl))
end
end OP
namespace OP
open PySem PySem.Spec PyProof PyProof.Rows L2 OG PySem.W
section
variable{cmp:Nat->Nat->(Bool->Q5->Prop)->Q5->Prop}{s:Q5}{n:Nat}{lt:Nat->Nat->Bool}
structure Qt(n:Nat)(lt:Nat->Nat->Bool):Prop where
 tr:∀{i j k},i<n->j<n->k<n->lt i j=true->lt j k=true->lt i k=true
 tot:∀{i j},i<n->j<n->i≠j->lt i j=false->lt j i=true
 asym:∀{i j},i<n->j<n->lt i j=true->lt j i=false
def Gf(cmp:Nat->Nat->(Bool->Q5->Prop)->Q5->Prop)(n:Nat)(lt:Nat->Nat->Bool)(s:Q5):Prop:=∀i j C,i<n->j<n->C (lt i j) s->cmp i j C s
structure Pm(n:Nat)(p:Array Nat):Prop where
 sz:p.size=n
 bd:∀i,i<n->p.getD i 0<n
 ne:∀i j,i<j->j<n->p.getD i 0≠p.getD j 0
def Asc(lt:Nat->Nat->Bool)(p:Array Nat)(k:Nat):Prop:=∀i j,i<j->j<k->lt (p.getD i 0) (p.getD j 0)=true
def Dsc(lt:Nat->Nat->Bool)(p:Array Nat)(k:Nat):Prop:=∀i j,i<j->j<k->lt (p.getD j 0) (p.getD i 0)=true
variable{p:Array Nat}
def Pm.ne'(P:Pm n p){i j:Nat}(hi:i<n)(hj:j<n)(h:i≠j):p.getD i 0≠p.getD j 0:=by
 rcases Nat.lt_or_gt_of_ne h with z|z;exact P.ne i j z hj;exact Ne.symm (P.ne j i z hi)
def Asc.snoc(O:Qt n lt)(P:Pm n p){m:Nat}(h1:1<=m)(hm:m<n)(h:Asc lt p m)(h2:lt (p.getD (m-1) 0) (p.getD m 0)=true):Asc lt p (m+1):=fun i j hij hj=>by
 by_cases e:j=m;subst e;by_cases e2:i=j-1;subst e2;exact h2;exact O.tr (P.bd _ ⋯) (P.bd _ ⋯) (P.bd _ ⋯) (h i (j-1) ⋯ ⋯) h2;exact h i j hij ⋯
def jY{p q:Array Nat}{i j:Nat}(h:p[i]?=q[j]?):p.getD i 0=q.getD j 0:=by
 rw[Xb,Xb,h]
def zV{m k:Nat}(hm:m<=p.size):(kas_rev p 0 m).getD k 0=if k<m then p.getD (m-1-k) 0 else p.getD k 0:=by
 unfold kas_rev;have h:=getElem?_mirror_all (i:=0) hm k;split;rename_i c;rw[Xd ⟨Zp _,c⟩]at h;exact jY (by rw[h];congr 1;omega);rename_i c;rw[Xf ⋯]at h;exact jY h
def Dsc.rev{m:Nat}(P:Pm n p)(hm:m<=n)(h:Dsc lt p m):Asc lt (kas_rev p 0 m) m:=fun i j hij hj=>by
 rw[zV (by rw[P.sz];exact hm),zV (by rw[P.sz];exact hm),Xd ⋯,Xd hj];exact h _ _ ⋯ ⋯
def lK{k l i:Nat}(hk:k<p.size)(hl:l<=k):(bubble p k (k-l)).getD i 0=if i=l then p.getD k 0 else if l<i/\i<=k then p.getD (i-1) 0 else p.getD i 0:=by
 have h:=getElem?_bubble hk (k-l) ⋯ i;rw[show k-(k-l)=l by omega]at h;by_cases c:i=l;rw[Xd c]at h ⊢;exact jY h;rw[Xf c]at h ⊢;by_cases d:l<i/\i<=k;rw[Xd d]at h ⊢;exact jY h;rw[Xf d]at h ⊢;exact jY h
def Pm.bub(P:Pm n p){k l:Nat}(hk:k<n)(hl:l<=k):Pm n (bubble p k (k-l)) where
 sz:=by rw[bubble_size];exact P.sz
 bd:=fun i hi=>by
  rw[lK (by rw[P.sz];exact hk) hl];repeat' split
  all_goals exact P.bd _ ⋯
 ne:=fun i j hij hj=>by
  rw[lK (by rw[P.sz];exact hk) hl,lK (by rw[P.sz];exact hk) hl];repeat' split
  all_goals first|(exfalso;omega)|exact P.ne' ⋯ ⋯ ⋯
def Asc.bub(P:Pm n p){k l:Nat}(hk:k<n)(hl:l<=k)(h:Asc lt p k)(h1:∀i,i<l->lt (p.getD i 0) (p.getD k 0)=true)(h2:∀i,l<=i->i<k->lt (p.getD k 0) (p.getD i 0)=true):Asc lt (bubble p k (k-l)) (k+1):=fun i j hij hj=>by
 rw[lK (by rw[P.sz];exact hk) hl,lK (by rw[P.sz];exact hk) hl];repeat' split
 all_goals first|(exfalso;omega)|exact h1 _ ⋯|exact h2 _ ⋯ ⋯|exact h _ _ ⋯ ⋯
def Dp:Pm n (List.toArray (ZF n)):=by
 have g:∀i,i<n->(List.toArray (ZF n)).getD i 0=i:=fun i hi=>by simp[Array.getD,hi]
 exact⟨nofun,fun i hi=>by rw[g i hi];exact hi,fun i j hij hj=>by rw[g i ⋯,g j hj];omega⟩
end
end OP
namespace OP
open PySem PySem.Spec PyProof PyProof.Rows L2 OG
def FzT(H:Hp)(a:Addr)(ep:Nat)(ks:List (List Key)):Prop:=∃ob es kvs,H a=some (.frz ob (.dT kvs))/\ob.data=.dict es ep/\kvs.map (·.1)=ks
def Itt(a:Addr)(ep:Nat)(ks:List (List Key)):It:=
 ⟨fun i H=>i<ks.length/\FzT H a ep ks,fun i H x H'=>H'=H/\∃k p,ks[i]?=some k/\x=.ref p/\H p=some (.tup (k.map kV)),fun i H=>ks.length<=i/\FzT H a ep ks⟩
end OP
namespace OP
open PySem PySem.Spec PyProof PyProof.Rows L2 OG PySem.W
def uU(h:Heap)(v:Q4)(p:Int×Int):Prop:=∃b o t1 t2 e,v=Value.ref b/\h.get? b=some o/\o.cls=Value.type "tuple"/\o.data=Data.seq #[Value.int p.1 t1,Value.int p.2 t2] e
noncomputable def ltP(p q:Int×Int):Bool:=decide (p.1<q.1\/p.1=q.1/\p.2<q.2)
section
variable{prog:ZI}{w:Zk}{A:Zy}{E:Q4->Q5->Prop}{s:Q5}
def qp{b:Bool}{x y:Int}{t u:Tok}{Q:Bool->Q5->Prop}(h:Q (decide (x<y)) s):wpAny (ZL prog w) A (oneLt' b (Value.int x t) (Value.int y u)) Q E s:=by
 cases b with
 |true=>exact oneLt_int h
 |false=>
  rw[oneLt'_eq];dsimp only;rw[Xf Z8];exact Q8 (wpAny_lt_int (wpAny_truthy_bool h))
def HI{v v':Q4}{p p':Int×Int}{C:Bool->Q5->Prop}(h:uU s.heap v p)(h':uU s.heap v' p')(c:C (ltP p p') s):wpAny (ZL prog w) A (keyLt' (tuples' true) v v') C E s:=by
 obtain⟨b,o,t1,t2,e,rfl,g,_,d⟩:=h;obtain⟨b',o',t1',t2',e',rfl,g',_,d'⟩:=h';refine kat_lt g d g' d' (kat_cons (wpAny_eqBool_int ?_));by_cases e1:p.1=p'.1;rw[e1,beq_self_eq_true];refine kat_yes (kat_cons (wpAny_eqBool_int ?_));by_cases e2:p.2=p'.2;rw[e2,beq_self_eq_true];refine kat_yes (kat_nil ?_);have:ltP p p'=false:=by simp[ltP,e1,e2]
 rw[this]at c;exact c;rw[beq_eq_false_iff_ne.mpr e2];refine kat_no (qp ?_);have:ltP p p'=decide (p.2<p'.2):=by simp[ltP,e1]
 rw[this]at c;exact c;rw[beq_eq_false_iff_ne.mpr e1];refine kat_no (qp ?_);have:ltP p p'=decide (p.1<p'.1):=by simp[ltP,e1]
 rw[this]at c;exact c
def j7(h:Heap):List Q4->List (Int×Int)->Prop
 |[],[]=>True
 |v::vs,p::ps=>uU h v p/\j7 h vs ps
 |_,_=>False
def tQ{h:Heap}:∀{vs:List Q4} {ps:List (Int×Int)},j7 h vs ps->vs.length=ps.length
 |[],[],_=>rfl
 |_::_,_::_,k=>by rw[ZZ,ZZ,tQ k.2]
 |[],_::_,k=>k.elim
 |_::_,[],k=>k.elim
def n6{h:Heap}:∀{vs:List Q4} {ps:List (Int×Int)} {i:Nat},j7 h vs ps->i<ps.length->uU h (vs.getD i Value.none) (ps.getD i (0,0))
 |[],[],_,_,k=>absurd k (Nat.not_lt_zero _)
 |_::_,_::_,0,k,_=>k.1
 |_::vs,_::ps,i+1,k,l=>by
  show uU h (vs.getD i Value.none) (ps.getD i (0,0));exact n6 k.2 (by rw[ZZ]at l;omega)
 |[],_::_,_,k,_=>k.elim
 |_::_,[],_,k,_=>k.elim
def qo{h:Heap}:∀{vs:List Q4} {ps:List (Int×Int)},j7 h vs ps->∃fs,KatTups h vs fs/\fs.length=vs.length/\∀f∈fs,∃i t,f=Value.int i t
 |[],[],_=>⟨[],trivial,rfl,fun f hf=>by cases hf⟩
 |v::vs,p::ps,k=>by
  obtain⟨fs,h1,h2,h3⟩:=qo k.2;obtain⟨b,o,t1,t2,e,hv,g,c,d⟩:=k.1;refine⟨Value.int p.1 t1::fs,⟨⟨b,o,_,e,hv,g,c,d,rfl⟩,h1⟩,by rw[ZZ,ZZ,h2],fun f hf=>?_⟩;rcases ZD.mp hf with z|z;exact⟨_,_,z⟩;exact h3 f z
 |[],_::_,k=>k.elim
 |_::_,[],k=>k.elim
def yl{vs:List Q4}{ps:List (Int×Int)}{Q:SortKind->Q5->Prop}(h:j7 s.heap vs ps)(hn:0<vs.length)(q:Q (tuples' true) s):wpAny (ZL prog w) A (keyKind' vs.toArray) Q E s:=by
 obtain⟨fs,h1,h2,h3⟩:=qo h;refine kat_kind (T:=Value.type "int") h1 ⋯ (fun v hv A Q E s' _ q=>?_) ∅ (by exact q);obtain⟨i,t,rfl⟩:=h3 v hv;exact wpAny_typeOf (typeIs_int s' i t) q
end
def tP{n:Nat}{q:Array Nat}(P:Pm n q):∀i∈q.toList,i<n:=fun i hi=>by
 obtain⟨j,hj,e⟩:=Yh.mp hi;have hj':j<q.size:=by simpa using hj
 have:=P.bd j (by rw[<-P.sz];exact hj');rw[Xb,Array.getElem?_eq_getElem hj']at this;rw[Array.getElem_toList]at e;rw[<-e];exact this
def NX{ns:List Int}{i:Int}{S:Sto}:fIx (.kl ns) (.int i) S=(atI (ns.map U.int) i).bind fun u=>some (u,S):=rfl
def EW{ns:List Int}{S:Sto}:jC [.kl ns] S=some (.int ns.length,S):=rfl
variable{X:Cx}{K:Q3}
def jZ{κ α:Type}[DecidableEq κ](kus:List (κ×α))(k:κ):List (κ×α):=kus.filter fun p=>decide (p.1≠k)
def IsP.dropP{m:List Addr}{H:Hp}{kvs:List (Key×V)}{kus:List (Key×U)}{k:Key}(h:IsP K m H kvs kus):IsP K m H (rP kvs k) (jZ kus k):=by
 refine IsP.ind (P:=fun kvs kus=>IsP K m H (rP kvs k) (jZ kus k)) .nil_ (fun k' v u kvs kus i _ ih=>?_) h;unfold rP jZ at ih ⊢;by_cases e:k'=k;rw[List.filter_cons_of_neg (by simp[e]),List.filter_cons_of_neg (by simp[e])];exact ih;rw[List.filter_cons_of_pos (by simp[e]),List.filter_cons_of_pos (by simp[e])];exact .cons_ i ih
def IL:U->U->Sto->Option (U×Sto):=fun x y S=>match x with
 |.ref l=>match S[l]? with
  |some (.dic kus)=>(oY y).bind fun k=>(bF kus k).bind fun u=>some (u,S.set l (.dic (jZ kus k)))
  |_=>none
 |_=>none
def BK(co ck:CE):CE:=fun ρ S=>(co ρ S).bind fun p=>match p.1 with
 |.ref l=>match p.2[l]? with
  |some (.dic _)=>(ck ρ p.2).bind fun q=>IL p.1 q.1 q.2
  |_=>none
 |_=>none
def KG{o e:ZR}{co ck:CE}{apos cpos:Pos}(ho:QE X o co)(he:QE X e ck)(m1:M1 X o "pop" apos e cpos):QE X (.Call (.Attribute o "pop" apos) [e] [] cpos) (BK co ck):=
 (zh ho he m1).imp fun σ H Q hz=>oH hz fun m ρ S u S' sr lr hc post=>by
 obtain⟨⟨x,S1⟩,h1,h⟩:=Q2.mp hc;refine⟨m,ρ,S,_,S1,sr,lr,h1,fun m1 v1 H1 e1 sr1 i1=>?_⟩;cases x with
 |ref l=>
  simp only at h;split at h<;>try cases h
  rename_i kus0 hS0;obtain⟨⟨y,S2⟩,h3,h4⟩:=Q2.mp h;obtain⟨a,ha,rfl⟩:=i1.of_ref;obtain⟨a0,ha0,kvs0,hx0,ip0⟩:=sr1.get hS0;rw[ha]at ha0;cases ha0;refine⟨a,rfl,.inl ⟨kvs0,.inl hx0⟩,m1,ρ,S1,_,S2,sr1,lr.mono e1,h3,fun m2 v2 H2 e2 sr2 i2=>?_⟩;simp only[IL]at h4;split at h4<;>try cases h4
  rename_i kus hS;obtain⟨k,hk,h5⟩:=Q2.mp h4;obtain⟨w,hw,h6⟩:=Q2.mp h5;cases h6;obtain⟨a',ha',kvs,hx,ip⟩:=sr2.get hS;rw[e2.get ha]at ha';cases ha';have ek:=jV i2 hk;have rf:=IsP.val (k:=k) ip;rw[hw]at rf;cases hv:jw kvs k with
  |none=>rw[hv]at rf;exact rf.elim
  |some z=>
   rw[hv]at rf;have ee:Ext X.K m2 H2 m2 (upd H2 a (.dK (rP kvs k))):=.of (sr2.keep (e2.get ha) _);exact⟨kvs,k,z,hx,ek,hv,post m2 _ _ ((e1.trans e2).trans ee) (sr2.put (e2.get ha) ⟨_,aJ,ip.dropP.mono ee⟩) (Is.mono ee rf)⟩
 |_=>cases h
def rW(c1 c2:CE):CE:=fun ρ S=>match c1 ρ S with
 |some r=>some r
 |none=>c2 ρ S
def C7{e:ZR}{c1 c2:CE}(h1:QE X e c1)(h2:QE X e c2):QE X e (rW c1 c2):=
 (h1.or h2).imp fun σ H Q hz=>oH hz fun m ρ S u S' sr lr hc post=>by
 unfold rW at hc;split at hc;rename_i r hr;cases hc;exact .inl ⟨m,ρ,S,u,S',sr,lr,hr,post⟩;exact .inr ⟨m,ρ,S,u,S',sr,lr,hc,post⟩
section
def Fp:V->List V->Hp->VK->Prop:=fun x vs H Q=>∃l xs,x=.ref l/\vs=[]/\H l=some (.lst xs)/\Q .non (upd H l (.lst []))
def DP:MtM X "list.clear" Fp:=by
 intro pins s σ H x vs v us Q I rx rv h;obtain⟨l,xs,rfl,rfl,hH,q⟩:=h;cases rx;have hus:=rv.zero;subst hus;obtain⟨z,its,n,r,hl,e⟩:=I.lstM hH;refine call_meets PySem.F.slot_list_clear ⟨_,e,rfl⟩ PySem.F.entry_list_clear (PySem.F.args_list_clear_1 _) (PySem.AutoSeq1.list_clear_list_0 l its.toArray n (by rw[ZV];omega)) ⟨e,?_⟩;exact⟨.non,_,I.lset (its':=[]) (ys:=[]) hH e rfl .nil (Zp _),rfl,q⟩
def jL:U->List U->Sto->Option (U×Sto)
 |.ref l,[],S=>match S[l]? with
  |some (.lst _)=>some (.non,S.set l (.lst []))
  |_=>none
 |_,_,_=>none
def HL:MtP K Fp jL:=by
 intro m S H x v us vs u S' Q sr ix i hf post;match x,us,hf with
 |.ref l,[],hf=>
  simp only[jL]at hf;split at hf<;>try cases hf
  rename_i ws hS;obtain⟨a,ha,rfl⟩:=ix.of_ref;obtain⟨a',ha',xs,hx,la⟩:=sr.get hS;rw[ha]at ha';cases ha';have eu:Ext K m H m (upd H a (.lst [])):=.of (sr.keep ha _);exact⟨a,xs,rfl,i.of_nil,hx,post m _ _ eu (sr.put ha ⟨_,aJ,.nil_⟩) .non_⟩
variable{o:ZR}{co:CE}{apos cpos:Pos}
def Ab(ho:QE X o co)(hbase:attributeBase o "clear" X.env (eval o X.env)=eval o X.env:=by rfl)(hline:(apos.endLine == cpos.line)=true:=by rfl) :
  QE X (.Call (.Attribute o "clear" apos) [] [] cpos) (cBM jL co ay):=(GU YK PySem.F.slot_list_clear PySem.F.type_list_clear DP ho hbase hline).imp fun σ H Q h=>by
 obtain⟨m,ρ,S,u,S',sr,lr,hc,k⟩:=xM (cr:=ay) HL σ H Q h;refine⟨m,ρ,S,u,S',sr,lr,hc,fun m1 v1 H1 e1 sr1 i1=>?_⟩;obtain⟨ty,m2,ρ2,S2,us,S3,sr2,lr2,h4,h5⟩:=k m1 v1 H1 e1 sr1 i1;cases h4;exact⟨ty,h5 m2 [] H1 .refl sr2 .nil_⟩
end
end OP
namespace OP
open PySem PySem.Spec PyProof.Rows L2 OG
section
variable{P:ZI}{w:Zk}{K:Q3}{h base:Heap}{mg:Str->Option Q4}{x q:Str}{st:Zv}{f C:Addr}{oc:Q4}{od an:Option Addr}{osl:Array (Option Q4)}{kV doc pm cdv ct:Q4}{ps N:List Str}{k:Nat}{c:CS}{cl:Cl}
def Qu(K:Q3)(x q:Str)(st:Zv)(f:Addr):Prop:=∃fd,Fun K x q st f fd
abbrev fAt(x q:Str)(st:Zv)(oc:Q4)(od an:Option Addr)(osl:Array (Option Q4))(kV doc pm cdv ct:Q4):Obj:=⟨oc,od,.func (YB x q (gX st) (bN st) (aA st) .none kV doc pm an cdv ct),osl⟩
def MS(K:Q3)(x:Str)(st:Zv):Prop:=∃f,PySem.W.nsIn K mainGlobals x=some (some (.ref f))/\Qu K x x st f
def QY(a:PySem.W.nsIn K mainGlobals x=some (some (.ref f)))(l:K.lookup f=some (fAt x x st oc od an osl kV doc pm cdv ct))(c:YE K cdv x=true)(k:YC K (.ref f)=true):MS K x st:=⟨f,a,_,FK l c k⟩
def MR(K:Q3):List (Str×Zv)->Prop
 |[]=>True
 |(x,st)::r=>MS K x st/\MR K r
def MN(K:Q3)(C:Addr)(x q:Str)(st:Zv):Prop:=∃f,Y0 K (.ref C) x=some (some (.ref f))/\YF K (.ref f)=true/\Qu K x q st f
def LI(a:Y0 K (.ref C) x=some (some (.ref f)))(i:YF K (.ref f)=true)(l:K.lookup f=some (fAt x q st oc od an osl kV doc pm cdv ct))(c:YE K cdv q=true)(k:YC K (.ref f)=true):MN K C x q st:=⟨f,a,i,_,FK l c k⟩
def MM(K:Q3)(C:Addr):List (Str×Str×Zv)->Prop
 |[]=>True
 |(x,q,st)::r=>MN K C x q st/\MM K C r
def ML(K:Q3)(C:Addr):List Str->Prop
 |[]=>True
 |x::r=>Y0 K (.ref C) x=some none/\ML K C r
def Nw(K:Q3):List Str->Prop
 |[]=>True
 |x::r=>PySem.W.nsIn K mainGlobals x=some none/\Nw K r
structure B8(K:Q3)(x:Str)(C:Addr)(ns:List Str)(ms:List (Str×Str×Zv)):Prop where
 a:PySem.W.nsIn K mainGlobals x=some (some (.ref C))
 pg:YG K C Str.empty=true
 hd:PySem.W.hasDictIn K C=true
 po:PySem.W.plainOver K C=true
 sa:Y0 K (.ref C) "__setattr__"=some (some (.builtin "object.__setattr__"))
 mc:PySem.W.makesIn K C=true
 kc:YC K (.ref C)=true
 nf:ML K C ns
 ms:MM K C ms
def ML.nas:∀{ns:List Str},ML K C ns->∀f∈ns,Y0 K (.ref C) f=some none
 |[],_,f,h=>by cases h
 |x::r,h,f,hf=>by
  rcases ZD.mp hf with rfl|z;exact h.1;exact ML.nas h.2 f z
def B8.tc{ns:List Str}{ms:List (Str×Str×Zv)}(h:B8 K x C ns ms):TC K (⟨C,ns⟩:Cl) ns:=⟨⟨h.pg,h.hd,h.po,h.sa⟩,rfl,fun f hf=>h.nf.nas f hf⟩
abbrev Bd(x q:Str)(st:Zv)(ps:List Str):Prop:=∀us:List Q4,us.length=ps.length->∀(kV doc pm:Q4) (an:Option Addr) (cdv ct:Q4),bindArgs (YB x q (gX st) (bN st) (aA st) .none kV doc pm an cdv ct) ⟨us,[]⟩=pure (ps.zip us)
def MS.df(d:MS K x st)(X:K.In h)(G:h.Ns mainGlobals mg)(b:Bd x x st ps:=by first|exact Jr fun _ _ _ _ _ _=>rfl|(repeat (first|exact Jr fun _ _ _ _ _ _=>rfl|refine Pz fun _=>?_))):Def K mg x st ps:=by
 obtain⟨f,a,fd,F⟩:=d;exact⟨f,fd,F,F.binds fun kV doc pm an cdv ct us hl=>b us hl kV doc pm an cdv ct,PySem.W.mg_of X G a⟩
def MtD(K:Q3)(C:Addr)(x q:Str)(st:Zv)(ps:List Str):Prop:=∃fa fd,Fun K x q st fa fd/\iE K fd ps []/\Je K C x fa
def MN.mt(d:MN K C x q st)(b:Bd x q st ps:=by first|exact Jr fun _ _ _ _ _ _=>rfl|(repeat (first|exact Jr fun _ _ _ _ _ _=>rfl|refine Pz fun _=>?_))):MtD K C x q st ps:=by
 obtain⟨f,a,i,fd,F⟩:=d;exact⟨f,fd,F,F.binds fun kV doc pm an cdv ct us hl=>b us hl kV doc pm an cdv ct,a,i,F.kp⟩
def MtD.pure(d:MtD K cl.C x q st ps)(S:cP N ps (aA st))
  (hb:∀(f:Addr) (cdv:Q4) (A:Zy) (outer:List Env) (s:Q5) (H:Hp) (E:XK),fb k (A.deeper (envOfC q (aA st) s.heap.objs.size f cdv))->WSs (oK CX0 P w K mg base N q (aA st) f cdv A outer s H E).nox (bN st) (tS K c)) :
  sL P w K mg base cl x (k+1) ps (fnU N.length ps.length c):=by
 obtain⟨fa,fd,F,b,m⟩:=d;exact⟨fa,fd,m,F.pure S (hb fa),b⟩
def MkD(K:Q3)(mg:Str->Option Q4)(C:Addr)(x q:Str)(st:Zv)(ps:List Str):Prop:=∃fa fd,Fun K "__init__" q st fa fd/\iE K fd ps []/\Mk K C fa/\mg x=some (.ref C)
def B8.mkd{ns:List Str}{ms:List (Str×Str×Zv)}(h0:B8 K x C ns ms)(d:MN K C "__init__" q st)(X:K.In h)(G:h.Ns mainGlobals mg)(b:Bd "__init__" q st ps:=by first|exact Jr fun _ _ _ _ _ _=>rfl|(repeat (first|exact Jr fun _ _ _ _ _ _=>rfl|refine Pz fun _=>?_))):MkD K mg C x q st ps:=by
 obtain⟨f,a,i,fd,F⟩:=d;exact⟨f,fd,F,F.binds fun kV doc pm an cdv ct us hl=>b us hl kV doc pm an cdv ct,⟨h0.mc,a,i,h0.kc⟩,PySem.W.mg_of X G h0.a⟩
def MkD.pure{NS:List Str}(d:MkD K mg cl.C x q st ps)(T:TC K cl NS)(S:cP N ps (aA st))
  (hb:∀(f:Addr) (cdv:Q4) (A:Zy) (outer:List Env) (s:Q5) (H:Hp) (E:XK),fb k (A.deeper (envOfC q (aA st) s.heap.objs.size f cdv))->WSs (oK CX0 P w K mg base N q (aA st) f cdv A outer s H E).nox (bN st) (tS K c))
  (nd:NS.Nodup:=by decide +kernel) (few:NS.length<1000:=by decide):CMk P w K mg base cl x (k+1) ps (fnU N.length ps.length c):=by
 obtain⟨fa,fd,F,b,m,g⟩:=d;exact⟨⟨fa,fd,m,F.pure S (hb fa),b,g⟩,by rw[T.ns];exact nd,by rw[T.ns];exact few⟩
def Qs:List Str:=["len","isinstance","int","bool","str","tuple","list","range","min","sum","all","zip","sorted","dict","enumerate","any","max","set"]
def Nw.blt(z:Nw K Qs)(X:K.In h)(G:h.Ns mainGlobals mg):Blt mg:=by
 obtain⟨a,b,c,d,e,f,g,i,j,k,l,m,n,o,p,q,r,s,-⟩:=z;constructor<;>(refine PySem.W.mg_none_of X G ?_;assumption)
end
end OP
namespace OG
open PySem PySem.Spec PyProof.Rows L2
def Mw(qual:Str)(scope:Xz)(L f:Addr)(cd:Q4)(cl:List (Str×Addr)):Env:=newEnv scope L mainGlobals cl (qual++".<locals>.") (some f) cd none builtinsNs
def cxL(P:ZI)(w:Zk)(K:Q3)(mg:Str->Option Q4)(base:Heap)(N:List Str)(qual:Str)(scope:Xz)(f:Addr)(cd:Q4)(cl:List (Str×Addr))(A:Zy)(outer:List Env)(s:Q5)(H:Hp):Cx where
 prog:=P
 w:=w
 K:=K
 mg:=mg
 base:=base
 A:=A.deeper (Mw qual scope s.heap.objs.size f cd cl)
 N:=N
 s₀:=s
 H₀:=H
 env:=Mw qual scope s.heap.objs.size f cd cl
 outer:=outer
 stack:=Mw qual scope s.heap.objs.size f cd cl::outer
 ex:=[]
 calm:=true
 fn:=fun _=>false
 pn:=[]
 xe:=fun _ _=>False
structure Ny(scope:Xz)(cl:List (Str×Addr))(h:Heap)(H:Hp)(x:Str)(v:V):Prop where
 ex:scope.names.lookup x=some .free/\∃c u,cl.lookup x=some c/\h.IsCell c (some u)/\dk v u
variable{s:Q5}{H:Hp}
section
variable{P:ZI}{w:Zk}{K:Q3}{mg:Str->Option Q4}{base:Heap}{p:Str}{capN:List Str}{qual name:Str}{scope:Xz}{f:Addr}{cl:List (Str×Addr)}{A:Zy}{outer:List Env}{v:V}{vc:List V}{u cd:Q4}
def IA{h1:Heap}{t':Nat}(e0:wj P w K mg base A outer s H)(hd:A.handled=none)(hkind:scope.kind=.function)(hp:scope.names.lookup p=some .local)(r:dk v u)
  (hinj:∀x y c,cl.lookup x=some c->cl.lookup y=some c->x=y) (hhas:∀x,(scope.names.lookup x=some .cell\/scope.names.lookup x=some .free)->∃c,cl.lookup x=some c)
  (hcl:∀x c,cl.lookup x=some c->(∃u,s.heap.IsCell c u)/\H c=none)
  (hcap:Paired (fun x v=>Ny scope cl s.heap H x v) capN vc)
  (hns:h1.Ns s.heap.objs.size (fun x=>([(p,u)]:List (Str×Q4)).reverse.lookup x)) (hk:∀b o,s.heap.get? b=some o->h1.get? b=some o) :
  Inv (cxL P w K mg base (p::capN) qual scope f cd cl A outer s H) [] (some v::vc.map some) H { s with heap:=h1,toks:=t' }:=by
 have noA:∀b:Addr,b∉(cxL P w K mg base (p::capN) qual scope f cd cl A outer s H).ex:=fun b z=>absurd (show b∈([]:List Addr)from z) nofun;have cellK:∀c v,s.heap.IsCell c v->h1.IsCell c v:=fun c v ⟨o,ho,hd⟩=>⟨o,hk _ _ ho,hd⟩;refine⟨⟨e0.mod,hkind,rfl,rfl,Z6 _,hinj,hhas,fun y c z=>(nomatch z),fun _=>hd,Around.frames_deeper e0.frames,.inr ⟨rfl,rfl⟩,fun b z=>absurd z (noA b),e0.bs,e0.bsz,fun b _ _=>noA b,fun b z=>absurd z (noA b),e0.funs,e0.frf⟩,
  rfl,e0.bare,Un.kept hk,⟨_,hns,fun i y v' h1' h2 h3=>?_⟩,fun y c h=>?_,e0.hok.fresh (Z6 _),fun y c h=>(hcl y c h).2,fun p hp=>absurd (show p∈([]:List (Addr×Obj))from hp) nofun,e0.hok.kept hk,?_⟩
 cases i with
 |zero=>
  have e1:p=y:=by simpa [cxL] using h1'
  have e2:v=v':=by simpa using h2
  subst e1;subst e2;exact⟨u,r,.inl ⟨hp,nofun⟩⟩
 |succ i=>
  have e1:capN[i]?=some y:=by simpa [cxL] using h1'
  have e2:vc[i]?=some v':=by
   simp only[X9,ZP]at h2;cases q:vc[i]? with
   |none=>rw[q]at h2;cases h2
   |some z=>rw[q]at h2;cases h2;rfl
  have get:∀{l1:List Str} {l2:List V} {i:Nat},Paired (fun x v=>Ny scope cl s.heap H x v) l1 l2->l1[i]?=some y->l2[i]?=some v'->Ny scope cl s.heap H y v':=by
   intro l1 l2 i hq;induction hq generalizing i with
   |nil=>intro z;simp at z
   |cons a b ih=>cases i with
    |zero=>intro z1 z2;simp at z1 z2;subst z1;subst z2;exact a
    |succ i=>intro z1 z2;exact ih (by simpa using z1) (by simpa using z2)
  obtain⟨k1,c,u1,k2,k3,k4⟩:=(get hcap e1 e2).ex;exact⟨u1,k4,.inr ⟨.inr k1,c,k2,cellK _ _ k3⟩⟩
 obtain⟨z,q⟩:=(hcl y c h).1;exact⟨z,cellK _ _ q⟩;show(some v::vc.map some).length=(p::capN).length;have:=hcap.length;simp only[ZZ,Q7];omega
def Ib{c:Addr}{pm ctv:Q4}{params:Arguments}{body:PySem.Expr}{te:TE}{Q:VK}(hroom:A.depth<recursionLimit)(e0:wj P w K mg base A outer s H)(hd:A.handled=none)
  (ho:s.heap.get? f=some (PySem.W.kla_obj name qual params body scope cl pm c ctv)) (hcd:s.heap.CodeRec (.ref c) qual) (hco:scope.isCoroutine=false) (hgen:scope.isGenerator=false) (hkind:scope.kind=.function)
  (hcell:∀x∈scope.names,x.2≠.cell) (hp:scope.names.lookup p=some .local) (hbind:bindArgs (PySem.W.kla_fn name qual params body scope cl pm (.ref c) ctv) ⟨[u],[]⟩=pure [(p,u)]) (r:dk v u)
  (hinj:∀x y c,cl.lookup x=some c->cl.lookup y=some c->x=y) (hhas:∀x,(scope.names.lookup x=some .cell\/scope.names.lookup x=some .free)->∃c,cl.lookup x=some c)
  (hcl:∀x c,cl.lookup x=some c->(∃u,s.heap.IsCell c u)/\H c=none) (hcap:Paired (fun x v=>Ny scope cl s.heap H x v) capN vc)
  (hb:WE (cxL P w K mg base (p::capN) qual scope f (.ref c) cl A outer s H) body te) (hq:te (some v::vc.map some) H Q) :
  codeAny (ZL P w) A (.call (.ref f) ⟨[u],[]⟩) (fun r s'=>∃u',r=.ok (.ret u')/\CE outer P w H s Q u' s') s:=by
 have lim:s.heap.NoLimit:=e0.mod.nolimit.keeps fun b o e=>(e0.bs b o e).1;refine PySem.W.kla_callFunE hroom ho rfl hco hgen rfl hcd ?_;rw[hbind];refine ZC (wpAny_newFunctionEnv hcell (fun x hx=>(show x=(p,u)by simpa using hx)▸hp) (fun h₁ hns hsb=>?_) hkind);have hk₁:∀b o,s.heap.get? b=some o->h₁.get? b=some o:=fun b o e=>hsb.extBut b o (Zq (ZX e)) (Q9 _ e);refine⟨lim.keeps hk₁,?_⟩;show codeAny _ _ (.expr body (Mw qual scope s.heap.objs.size f (.ref c) cl)) _ _;refine PySem.W.kla_codeExpr (XX (hb.h [] _ _ H Q (IA e0 hd hkind hp r hinj hhas hcl hcap hns hk₁) hq) (fun u' s' h=>?_) fun _ _ z=>z.elim);obtain⟨v',H',I',rv,q⟩:=h;exact⟨u',rfl,v',H',I'.os,I'.bare,I'.base,I'.hok,rv,q⟩
end
def Ca(mg:Str->Option Q4)(base:Heap):Prop:=∃bm ob,mg "__builtins__"=some (.ref bm)/\bm≠builtinsNs/\base.get? bm=some ob/\ob.cls=.type "module"/\ob.dict=some builtinsNs/\ob.data=.plain
section
variable{X:Cx}{pins:List (Addr×Obj)}{σ:L2.St}
def _root_.L2.Inv.tab{h':Heap}{t':Nat}{p:Addr}{ps more:Array Q4}(I:Inv X pins σ H s)(hp:H p=some (.tbl ps))(k:Heap.ExtBut p s.heap h')(e:h'.get? p=some { cls:=.none,data:=.fields (ps++more) }) :
  Inv X pins σ (upd H p (.tbl (ps++more))) { s with heap:=h',toks:=t' }:=by
 have np:∀b u,H b=some u->u≠.tbl ps->b≠p:=fun b u q d z=>by subst z;rw[hp]at q;cases q;exact d rfl
 have nf:∀b,H b=none->b≠p:=fun b q z=>by subst z;rw[hp]at q;cases q
 refine I.un ⟨fun b o q n _ _=>k b o (nf b n) q,fun b o q n _ _=>⟨o.slots,k b o (nf b n) q⟩,fun b o q n _=>by rw[aM (nf b n)];exact n,fun b o q _=>?_,fun b xs q=>by rw[aM (np b _ q nofun)];exact q,fun b o u q=>by rw[aM (np b _ q nofun)];exact q,fun b ps' q=>?_⟩ fun b u q=>?_;by_cases z:b=p;subst z;exact⟨_,e⟩;exact⟨o,k b o z q⟩;by_cases z:b=p;subst z;rw[hp]at q;cases q;exact⟨more,aJ⟩;exact⟨#[],by rw[aM z,q];simp⟩;by_cases z:b=p;subst z;rw[aJ]at q;cases q;exact e;rw[aM z]at q;refine(I.hok b u q).stay (fun c o hc q2=>k c o ?_ q2) (fun c q2=>by rw[aM (np c _ q2 nofun)];exact q2) fun c xs q2=>by rw[aM (np c _ q2 nofun)];exact q2
 rcases hc with rfl|hc;exact z;exact np c _ hc nofun
def _root_.L2.Inv.adopt{c:Addr}{u:HO}(I:Inv X pins σ H s)(new:eN X.prog X.w (upd H c u) s.heap c u)(n:H c=none)(h0:X.s₀.heap.objs.size<=c)(hL:c≠X.env.locals)(hc:∀x d,X.env.cells.lookup x=some d->d≠c)(hp:∀q∈X.pn++pins,q.1≠c) :
  Inv X pins σ (upd H c u) s:=by
 have ne:∀b u,H b=some u->b≠c:=fun b u q z=>by subst z;rw[n]at q;cases q
 have neS:∀b ob,X.s₀.heap.get? b=some ob->b≠c:=fun b ob q z=>absurd (ZE (ZX q) h0) (by rw[z];exact XM _);refine⟨I.ok,I.os,I.bare,⟨I.base.keep,I.base.slot,fun b ob q m hx=>by rw[aM (neS b ob q)];exact I.base.free b ob q m hx,I.base.there,fun b xs q=>?_,fun b ob xs q=>?_,fun b ps q=>?_⟩,I.loc,I.cell,by rw[aM (Ne.symm hL)];exact I.free,fun x d q=>by rw[aM (hc x d q)];exact I.freeC x d q,fun q hq=>?_,fun b u q=>?_,I.len⟩;have:=I.base.tups b xs q;rw[aM (ne _ _ this)];exact this;have:=I.base.frzs b ob xs q;rw[aM (ne _ _ this)];exact this;obtain⟨m,e⟩:=I.base.tbls b ps q;exact⟨m,by rw[aM (ne _ _ e)];exact e⟩;obtain⟨e1,e2,e3⟩:=I.pin q hq;exact⟨e1,by rw[aM (hp q hq)];exact e2,e3⟩;by_cases z:b=c;subst z;rw[aJ]at q;cases q;exact new;rw[aM z]at q;exact(I.hok b u q).stay (fun _ _ _ q2=>q2) (fun d q2=>by rw[aM (ne _ _ q2)];exact q2) fun d xs q2=>by rw[aM (ne _ _ q2)];exact q2
def DY{c p:Addr}{ps:Array Q4}{name qual:Str}{params:Arguments}{body:PySem.Expr}{scope:Xz}{cl:List (Str×Addr)}{pos:Pos}{fl:Nat}{Q:Q4->Q5->Prop}(I:Inv X pins σ H s)(hc:X.env.code=.ref c)(C:PySem.W.CodeHd X.base c p)(B:Ca X.mg X.base)
  (hp:H p=some (.tbl ps)) (ht:TriplesOk ps.toList) (hcl:closureFor scope X.env=pure cl)
  (hit:codeAmong pos ps.toList=none\/∃c' ob vs t,codeAmong pos ps.toList=some (.ref c')/\H c'=some (.frz ob (.own 0))/\ob.data=.fields vs/\vs[1]?=some (.str qual t))
  (q:∀(f c':Addr) (pm ctv:Q4) (ps':Array Q4) (H':Hp) (s':Q5),Inv X pins σ H' s'->s.heap.objs.size<=f->H' f=none->s'.heap.get? f=some (PySem.W.kla_obj name qual params body scope cl pm c' ctv)->s'.heap.CodeRec (.ref c') qual->
   (∀b o,b≠p->s.heap.get? b=some o->s'.heap.get? b=some o)->H' p=some (.tbl ps')->TriplesOk ps'.toList->(∃ob vs t,codeAmong pos ps'.toList=some (.ref c')/\H' c'=some (.frz ob (.own 0))/\ob.data=.fields vs/\vs[1]?=some (.str qual t))->(∀b,b≠p->b≠c'->H' b=H b)->(H c'=none\/H'=H)->Q (.ref f) s') :
  wpAny (ZL X.prog X.w) X.A (makeFunction name qual params (.expr body) scope X.env [] [] [] pos fl) Q X.xe s:=by
 have gp:s.heap.get? p=some (PySem.W.tabObj ps):=I.hok p _ hp;obtain⟨bm,ob,b1,b2,b3,b4,b5,b6⟩:=B;have hg:=I.mod.glob.keeps I.bk;have hbp:bm≠p:=fun z=>by
  have:=I.bk _ _ b3;rw[z,gp]at this;cases this;cases b4
 have hgp:mainGlobals≠p:=fun z=>by
  obtain⟨o,es,ep,e,d,_⟩:=hg;rw[z,gp]at e;cases e;cases d
 have hbG:bm≠mainGlobals:=fun z=>by
  obtain⟨o,es,ep,e,d,_⟩:=I.mod.glob;rw[z,e]at b3;cases b3;rw[d]at b6;cases b6
 have hB:s.heap.BuiltinsAt X.mg p:=⟨bm,ob,b1,b2,hbG,hbp,I.bk _ _ b3,b4,b5,b6⟩;have lk:∀x d,X.env.cells.lookup x=some d->d<s.heap.objs.size:=fun x d e=>by
  obtain⟨v,o,ho,_⟩:=I.cell x d e;exact ZX ho
 have C':PySem.W.CodeHd s.heap c p:=C.keeps I.bk;rcases hit with hn|⟨c',oc,vs,t,hf,h2,h3,h4⟩;refine PySem.W.kla_makeFunction (mg:=X.mg) hcl I.ok.glob hg hc C' gp ht hn hgp hB fun c' ctv h' tk hx hge hlt hrec htb=>?_;obtain⟨c2,oc,vs,t,e2,hoc,hd,hv⟩:=hrec;cases e2;have I1:=I.tab (t':=tk) hp hx htb;have ncp:c'≠p:=fun z=>by
  have:=ZX gp;rw[<-z]at this;exact absurd hge (Nat.not_le.mpr this)
 have n1:(upd H p (.tbl (ps++#[rawInt pos.line,rawInt pos.col,.ref c']))) c'=none:=by rw[aM ncp];exact I.hok.fresh hge
 have I2:=I1.adopt (c:=c') (u:=.frz oc (.own 0)) ⟨hoc,oc,hoc⟩ n1 (Zw I.sz hge) (Xj (ZE I.lt hge)) (fun x d e=>Zq (ZE (lk x d e) hge)) (fun q hq=>Zq (ZE (ZX (I.pin q hq).1) hge));have I3:=I2.kept (h':=h'.push (PySem.W.kla_obj name qual params body scope cl ((X.mg "__name__").getD .none) c' ctv)) (t':=tk) fun b o e=>Q9 _ e;refine q h'.objs.size c' _ ctv _ _ _ I3 (YU (Nat.lt_of_le_of_lt hge hlt)) ?_ (ZT _ rfl) ⟨c',oc,vs,t,rfl,Q9 _ hoc,hd,hv⟩ (fun b o nb e=>Q9 _ (hx b o nb e)) (by rw[aM (Ne.symm ncp)];exact aJ) ?_ ⟨oc,vs,t,?_,aJ,hd,hv⟩ (fun b n1 n2=>by rw[aM n2,aM n1]) (.inl (I.hok.fresh hge));exact I2.hok.fresh (Z6 _);rw[Array.toList_append];exact TriplesOk_snoc _ _ _ _ ht;rw[Array.toList_append];exact codeAmong_snoc _ ht hn;refine PySem.W.kla_makeFunctionHit (mg:=X.mg) hcl I.ok.glob hg hc C' gp ht hf hB fun ctv h' tk hk hsz=>?_;have I1:=I.kept (h':=h') (t':=tk) hk;have I3:=I1.kept (h':=h'.push { cls:=.type "function",data:=.func (PySem.W.kla_fn name qual params body scope cl ((X.mg "__name__").getD .none) (.ref c') ctv) }) (t':=tk) fun b o e=>Q9 _ e;obtain⟨g1,_⟩:=I3.hok c' _ h2;exact q h'.objs.size c' _ ctv ps H _ I3 hsz (I1.hok.fresh (Z6 _)) (ZT _ rfl) ⟨c',oc,vs,t,rfl,g1,h3,h4⟩ (fun b o nb e=>Q9 _ (hk b o e)) hp ht ⟨oc,vs,t,hf,h2,h3,h4⟩ (fun _ _ _=>rfl) (.inr rfl)
end
end OG
namespace OP
open PySem PySem.Spec PyProof PyProof.Rows L2 OG PySem.W
structure uT(n:Nat)(lt:Nat->Nat->Bool):Prop where
 asym:∀{i j},i<n->j<n->lt i j=true->lt j i=false
 co:∀{i j k},i<n->j<n->k<n->lt i k=true->lt i j=true\/lt j k=true
def ltS(lt:Nat->Nat->Bool)(i j:Nat):Bool:=lt i j||(!lt j i&&decide (i<j))
variable{s:Q5}
section
variable{cmp:Nat->Nat->(Bool->Q5->Prop)->Q5->Prop}{n:Nat}{lt:Nat->Nat->Bool}{p:Array Nat}
def uT.tr(W:uT n lt){i j k:Nat}(hi:i<n)(hj:j<n)(hk:k<n)(h1:lt i j=true)(h2:lt j k=true):lt i k=true:=by
 rcases W.co hi hk hj h1 with h|h;exact h;rw[W.asym hj hk h2]at h;cases h
def ej{i j:Nat}:ltS lt i j=true↔lt i j=true\/lt j i=false/\i<j:=by unfold ltS;simp
def LJ{i j:Nat}(h:j<=i):ltS lt i j=lt i j:=by
 unfold ltS;rw[Xa ⋯];simp
def uT.le(W:uT n lt){i j k:Nat}(hi:i<n)(hj:j<n)(hk:k<n)(h1:lt j i=false)(h2:lt k j=false):lt k i=false:=by
 cases h:lt k i with
 |false=>rfl
 |true=>exact(W.co hk hj hi h).elim (fun z=>by rw[h2]at z;cases z) (fun z=>by rw[h1]at z;cases z)
def uT.ok(W:uT n lt):Qt n (ltS lt) where
 tr:=fun{i j k} hi hj hk h1 h2=>by
  rw[ej]at *;rcases h1 with h1|⟨h1,g1⟩<;>rcases h2 with h2|⟨h2,g2⟩;exact .inl (W.tr hi hj hk h1 h2);rcases W.co hi hk hj h1 with z|z;exact .inl z;rw[h2]at z;cases z;rcases W.co hj hi hk h2 with z|z;rw[h1]at z;cases z;exact .inl z;exact .inr ⟨W.le hi hj hk h1 h2,⋯⟩
 asym:=fun{i j} hi hj h=>by
  cases g:ltS lt j i with
  |false=>rfl
  |true=>
   rw[ej]at h g;rcases h with h|⟨h,h'⟩<;>rcases g with g|⟨g,g'⟩;rw[W.asym hi hj h]at g;cases g;rw[h]at g;cases g;rw[h]at g;cases g;omega
 tot:=fun{i j} hi hj hne h=>by
  rw[ej];cases g:lt j i with
  |true=>exact .inl rfl
  |false=>
   refine .inr ⟨?_,?_⟩;cases q:lt i j with
   |false=>rfl
   |true=>rw[ej.mpr (.inl q)]at h;cases h
   rcases Nat.lt_or_gt_of_ne hne with z|z;rw[ej.mpr (.inr ⟨g,z⟩)]at h;cases h;exact z
structure Px(n k:Nat)(p:Array Nat):Prop where
 pm:Pm n p
 lo:∀i,i<k->p.getD i 0<k
 hi:∀i,k<=i->i<n->p.getD i 0=i
def Px.next{k:Nat}(h:Px n k p)(hk:k<n):Px n (k+1) p:=⟨h.pm,fun i hi=>by
 by_cases e:i=k;subst e;rw[h.hi i (Z6 _) hk];omega;have:=h.lo i ⋯;omega,fun i a b=>h.hi i ⋯ b⟩
def BU(W:uT n lt)(A:Gf cmp n lt s):∀(f m:Nat) {Q:Nat->Q5->Prop},1<=m->m+f<=n->Px n m p->Asc (ltS lt) p m->(∀m',m<=m'->m'<=m+f->Px n m' p->Asc (ltS lt) p m'->(m'=m+f\/lt (p.getD m' 0) (p.getD (m'-1) 0)=true)->Q m' s)->(kas_asc p f m).kasWp cmp Q s
 |0,m,Q,h1,h2,P,h3,q=>q m (Z6 _) ⋯ P h3 (.inl rfl)
 |f+1,m,Q,h1,h2,P,h3,q=>by
  have b1:=P.pm.bd m ⋯;have b2:=P.pm.bd (m-1) ⋯;refine A _ _ _ b1 b2 ?_;cases hc:lt (p.getD m 0) (p.getD (m-1) 0)with
  |true=>exact q m (Z6 _) ⋯ P h3 (.inr hc)
  |false=>
   have hlt:p.getD (m-1) 0<p.getD m 0:=by rw[P.hi m (Z6 _) ⋯];exact P.lo _ ⋯
   have h4:=h3.snoc W.ok P.pm h1 ⋯ (ej.mpr (by
    cases z:lt (p.getD (m-1) 0) (p.getD m 0)with
    |true=>exact .inl rfl
    |false=>exact .inr ⟨hc,hlt⟩))
   exact BU W A f (m+1) ⋯ ⋯ (P.next ⋯) h4 fun m' a b c d e=>q m' ⋯ ⋯ c d (by rcases e with e|e;exact .inl ⋯;exact .inr e)
def gJ{i m k:Nat}(hm:m<=p.size):(kas_rev p i m).getD k 0=if i<=k/\k<m then p.getD (i+m-1-k) 0 else p.getD k 0:=by
 unfold kas_rev;have h:=getElem?_mirror_all (i:=i) hm k;split;rename_i c;rw[Xd c]at h;exact jY h;rename_i c;rw[Xf c]at h;exact jY h
def Px.rev{k i m:Nat}(P:Px n k p)(hm:m<=k)(hk:k<=n):Px n k (kas_rev p i m):=by
 have g:∀j,(kas_rev p i m).getD j 0=if i<=j/\j<m then p.getD (i+m-1-j) 0 else p.getD j 0:=fun j=>gJ (by rw[P.pm.sz];omega)
 refine⟨⟨by rw[kas_rev_size];exact P.pm.sz,fun j hj=>?_,fun a b hab hb=>?_⟩,fun j hj=>?_,fun j a b=>?_⟩;rw[g];split;exact P.pm.bd _ ⋯;exact P.pm.bd _ hj
 ·rw[g,g];split<;>split<;>exact P.pm.ne' ⋯ ⋯ ⋯
 rw[g];split;exact P.lo _ ⋯;exact P.lo _ hj;rw[g,Xf ⋯];exact P.hi j a b
structure Dn(lt:Nat->Nat->Bool)(p:Array Nat)(m q:Nat):Prop where
 dn:∀i j,i<j->j<m->i<m-(q+1)->ltS lt (p.getD j 0) (p.getD i 0)=true
 st:∀i j,i<m-(q+1)->m-(q+1)<=j->j<m->lt (p.getD j 0) (p.getD i 0)=true
 eq:∀i j,m-(q+1)<=i->i<j->j<m->lt (p.getD i 0) (p.getD j 0)=false/\lt (p.getD j 0) (p.getD i 0)=false/\p.getD i 0<p.getD j 0
def Dn.rev{m q:Nat}(h:Dn lt p m q)(hm:m<=p.size)(hq:q+1<=m):Dsc (ltS lt) (kas_rev p (m-(q+1)) m) m:=fun i j a b=>by
 have g:∀j,(kas_rev p (m-(q+1)) m).getD j 0=if m-(q+1)<=j/\j<m then p.getD (m-(q+1)+m-1-j) 0 else p.getD j 0:=fun j=>gJ hm
 rw[g,g];by_cases ci:m-(q+1)<=i;rw[Xd ⟨⋯,b⟩,Xd ⟨ci,⋯⟩];obtain⟨z1,z2,z3⟩:=h.eq (m-(q+1)+m-1-j) (m-(q+1)+m-1-i) ⋯ ⋯ ⋯;exact ej.mpr (.inr ⟨z2,z3⟩);rw[Xf (c:=m-(q+1)<=i/\i<m) ⋯];split;exact h.dn _ _ ⋯ ⋯ ⋯;exact h.dn _ _ a b ⋯
def Dn.dsc{m:Nat}(h:Dn lt p m 0):Dsc (ltS lt) p m:=fun i j a b=>h.dn i j a b ⋯
def vR(W:uT n lt)(P:Pm n p){m:Nat}(h:Dsc (ltS lt) p m)(h1:1<=m)(hm:m<n)(hc:lt (p.getD m 0) (p.getD (m-1) 0)=true):Dn lt p (m+1) 0:=by
 have bm:=P.bd m hm;have all:∀i,i<m->lt (p.getD m 0) (p.getD i 0)=true:=fun i hi=>by
  by_cases e2:i=m-1;subst e2;exact hc;have z:=h i (m-1) ⋯ ⋯;rw[ej]at z;rcases z with z|⟨z,_⟩;exact W.tr bm (P.bd _ ⋯) (P.bd _ ⋯) hc z;rcases W.co bm (P.bd i ⋯) (P.bd (m-1) ⋯) hc with y|y;exact y;rw[z]at y;cases y
 refine⟨fun i j a b c=>?_,fun i j a b c=>?_,fun i j a b c=>by omega⟩;by_cases e:j=m;subst e;exact ej.mpr (.inl (all i ⋯));exact h i j a ⋯;have e:j=m:=by omega
 subst e;exact all i ⋯
def Dn.alike(W:uT n lt){m q:Nat}(P:Px n m p)(h:Dn lt p m q)(h1:q+1<=m)(hm:m<n)(hc:lt (p.getD m 0) (p.getD (m-1) 0)=false)(hd:lt (p.getD (m-1) 0) (p.getD m 0)=false):Dn lt p (m+1) (q+1):=by
 have e1:m+1-(q+1+1)=m-(q+1):=by omega
 have bm:=P.pm.bd m hm;have eqm:∀i,m-(q+1)<=i->i<m->lt (p.getD i 0) (p.getD m 0)=false/\lt (p.getD m 0) (p.getD i 0)=false:=fun i a b=>by
  by_cases e:i=m-1;subst e;exact⟨hd,hc⟩;obtain⟨z1,z2,_⟩:=h.eq i (m-1) a ⋯ ⋯;exact⟨W.le bm (P.pm.bd (m-1) ⋯) (P.pm.bd i ⋯) hd z1,W.le (P.pm.bd i ⋯) (P.pm.bd (m-1) ⋯) bm z2 hc⟩
 have stm:∀i,i<m-(q+1)->lt (p.getD m 0) (p.getD i 0)=true:=fun i hi=>by
  rcases W.co (P.pm.bd (m-1) ⋯) bm (P.pm.bd i ⋯) (h.st i (m-1) hi ⋯ ⋯)with y|y;rw[hd]at y;cases y;exact y
 refine⟨fun i j a b c=>?_,fun i j a b c=>?_,fun i j a b c=>?_⟩;rw[e1]at c;by_cases e:j=m;subst e;exact ej.mpr (.inl (stm i c));exact h.dn i j a ⋯ c;rw[e1]at a b;by_cases e:j=m;subst e;exact stm i a;exact h.st i j a b ⋯;rw[e1]at a;by_cases e:j=m;subst e;obtain⟨z1,z2⟩:=eqm i a ⋯;exact⟨z1,z2,by rw[P.hi j (Z6 _) hm];exact P.lo _ ⋯⟩;exact h.eq i j a b ⋯
def rQ(W:uT n lt)(A:Gf cmp n lt s):∀(f:Nat) (p:Array Nat) (m q:Nat) {Q:Array Nat×Nat×Nat->Q5->Prop},q+1<=m->m+f<=n->Px n m p->Dn lt p m q->(∀p' m' q',q'+1<=m'->m'<=n->Px n m' p'->Dn lt p' m' q'->Q (p',m',q') s)->(kas_desc f p m q).kasWp cmp Q s
 |0,p,m,q,Q,h1,h2,P,h3,g=>g p m q h1 ⋯ P h3
 |f+1,p,m,q,Q,h1,h2,P,h3,g=>by
  have b1:=P.pm.bd m ⋯;have b2:=P.pm.bd (m-1) ⋯;refine A _ _ _ b1 b2 ?_;cases hc:lt (p.getD m 0) (p.getD (m-1) 0)with
  |true=>
   dsimp only;rw[Xd rfl];by_cases hq:q>0
   ·rw[Xd hq];have P':Px n m (kas_rev p (m-(q+1)) m):=P.rev (Z6 _) ⋯;have em:(kas_rev p (m-(q+1)) m).getD m 0=p.getD m 0:=by rw[gJ (by rw[P.pm.sz];omega),Xf ⋯]
    have e2:(kas_rev p (m-(q+1)) m).getD (m-1) 0=p.getD (m-(q+1)) 0:=by
     rw[gJ (by rw[P.pm.sz];omega),Xd ⋯];congr 1;omega
    refine rQ W A f _ (m+1) 0 ⋯ ⋯ (P'.next ⋯) (vR W P'.pm (h3.rev (by rw[P.pm.sz];omega) h1) ⋯ ⋯ ?_) g;rw[em,e2];obtain⟨z1,_,_⟩:=h3.eq (m-(q+1)) (m-1) (Z6 _) ⋯ ⋯;rcases W.co b1 (P.pm.bd (m-(q+1)) ⋯) b2 hc with y|y;exact y;rw[z1]at y;cases y
   ·rw[Xf hq];have q0:q=0:=by omega
    subst q0;exact rQ W A f p (m+1) 0 ⋯ ⋯ (P.next ⋯) (vR W P.pm h3.dsc ⋯ ⋯ hc) g
  |false=>
   dsimp only;rw[Xf Z8];refine A _ _ _ b2 b1 ?_;cases hd:lt (p.getD (m-1) 0) (p.getD m 0)with
   |true=>
    dsimp only;rw[Xd rfl];exact g p m q h1 ⋯ P h3
   |false=>
    dsimp only;rw[Xf Z8];exact rQ W A f p (m+1) (q+1) ⋯ ⋯ (P.next ⋯) (h3.alike W P h1 ⋯ hc hd) g
def zJ(W:uT n lt)(A:Gf cmp n lt s){m:Nat}{Q:Nat×Array Nat->Q5->Prop}(h1:1<=m)(hm:m<=n)(P:Px n m p)(h:Dsc (ltS lt) p m)(g:∀m p',1<=m->m<=n->Px n m p'->Asc (ltS lt) p' m->Q (m,p') s):(kas_tail3 m n p).kasWp cmp Q s:=by
 unfold kas_tail3;rw[KasT.kasWp_bind];exact BU W A (n-m) m h1 ⋯ (P.rev (Z6 _) hm) (h.rev P.pm hm) fun m2 a2 b2 P2 c2 _=>g m2 _ ⋯ ⋯ P2 c2
def Am(W:uT n lt)(A:Gf cmp n lt s){m:Nat}{Q:Nat×Array Nat->Q5->Prop}(h1:1<=m)(hm:m<n)(P:Px n m p)(h:Dsc (ltS lt) p m)(hc:lt (p.getD m 0) (p.getD (m-1) 0)=true)(g:∀m p',1<=m->m<=n->Px n m p'->Asc (ltS lt) p' m->Q (m,p') s):(kas_descPart m n p).kasWp cmp Q s:=by
 unfold kas_descPart;rw[KasT.kasWp_bind];refine rQ W A _ p (m+1) 0 ⋯ ⋯ (P.next hm) (vR W P.pm h h1 hm hc) fun p' m' q' a b P' D=>?_;dsimp only;by_cases hq:q'>0;rw[Xd hq];exact zJ W A ⋯ b (P'.rev (Z6 _) b) (D.rev (by rw[P'.pm.sz];exact b) a) g;rw[Xf hq];have q0:q'=0:=by omega
 subst q0;exact zJ W A ⋯ b P' D.dsc g
def Ey(W:uT n lt)(A:Gf cmp n lt s){Q:Nat×Array Nat->Q5->Prop}(h1:1<=n)(P:Px n 1 p)(g:∀m p',1<=m->m<=n->Px n m p'->Asc (ltS lt) p' m->Q (m,p') s):(kas_count n p).kasWp cmp Q s:=by
 unfold kas_count;rw[KasT.kasWp_bind];refine BU W A (n-1) 1 (Z6 _) ⋯ P (fun i j a b=>by omega) fun m a b P' c d=>?_;by_cases e:m=n;rw[Xd (by rw[e];exact beq_self_eq_true n)];exact g m p a ⋯ P' c;rw[Xf (by simpa using e)];have d':lt (p.getD m 0) (p.getD (m-1) 0)=true:=by
  rcases d with d|d;omega;exact d
 by_cases z:m>1;rw[Xd z];refine A _ _ _ (P'.pm.bd _ ⋯) (P'.pm.bd _ ⋯) ?_;cases hc:lt (p.getD 0 0) (p.getD (m-1) 0)with
 |true=>
  dsimp only;rw[Xd rfl];exact g m p a ⋯ P' c
 |false=>
  dsimp only;rw[Xf Z8];have al:∀i j,i<j->j<m->lt (p.getD i 0) (p.getD j 0)=false/\lt (p.getD j 0) (p.getD i 0)=false/\p.getD i 0<p.getD j 0:=fun i j hij hj=>by
   have n1:∀k,k<m->lt (p.getD k 0) (p.getD 0 0)=false:=fun k hk=>by
    by_cases e0:k=0;subst e0;cases y:lt (p.getD 0 0) (p.getD 0 0)with
    |false=>rfl
    |true=>have:=W.asym (P'.pm.bd 0 ⋯) (P'.pm.bd 0 ⋯) y;rw[y]at this;cases this
    have:=c 0 k ⋯ hk;rw[ej]at this;rcases this with y|⟨y,_⟩;exact W.asym (P'.pm.bd _ ⋯) (P'.pm.bd _ ⋯) y;exact y
   have n2:∀k,k<m->lt (p.getD (m-1) 0) (p.getD k 0)=false:=fun k hk=>by
    by_cases e0:k=m-1;subst e0;cases y:lt (p.getD (m-1) 0) (p.getD (m-1) 0)with
    |false=>rfl
    |true=>have:=W.asym (P'.pm.bd (m-1) ⋯) (P'.pm.bd (m-1) ⋯) y;rw[y]at this;cases this
    have:=c k (m-1) ⋯ ⋯;rw[ej]at this;rcases this with y|⟨y,_⟩;exact W.asym (P'.pm.bd _ ⋯) (P'.pm.bd _ ⋯) y;exact y
   have bi:=P'.pm.bd i ⋯;have bj:=P'.pm.bd j ⋯;have b0:=P'.pm.bd 0 ⋯;have bm:=P'.pm.bd (m-1) ⋯;have k1:∀i j,i<m->j<m->lt (p.getD i 0) (p.getD j 0)=false:=fun i j hi hj=>by
    cases y:lt (p.getD i 0) (p.getD j 0)with
    |false=>rfl
    |true=>
     rcases W.co (P'.pm.bd i ⋯) b0 (P'.pm.bd j ⋯) y with x|x;rw[n1 i hi]at x;cases x;rcases W.co b0 bm (P'.pm.bd j ⋯) x with v|v;rw[hc]at v;cases v;rw[n2 j hj]at v;cases v
   have z1:=k1 i j ⋯ hj;refine⟨z1,k1 j i hj ⋯,?_⟩;have:=c i j hij hj;rw[ej]at this;rcases this with y|⟨_,y⟩;rw[z1]at y;cases y;exact y
  have hm:m<=p.size:=by rw[P'.pm.sz];omega
  refine Am W A a ⋯ (P'.rev (Z6 _) ⋯) (fun i j hij hj=>?_) ?_ g;rw[gJ hm,gJ hm,Xd ⋯,Xd ⋯];obtain⟨z1,z2,z3⟩:=al (0+m-1-j) (0+m-1-i) ⋯ ⋯;exact ej.mpr (.inr ⟨z2,z3⟩);rw[gJ hm,gJ hm,Xf ⋯,Xd ⋯,show 0+m-1-(m-1)=0 by omega];rcases W.co (P'.pm.bd m ⋯) (P'.pm.bd 0 ⋯) (P'.pm.bd (m-1) ⋯) d' with x|x;exact x;rw[hc]at x;cases x
 rw[Xf z];have m1:m=1:=by omega
 subst m1;exact Am W A (Z6 _) ⋯ P' (fun i j a b=>by omega) d' g
def rb(W:uT n lt)(A:Gf cmp n lt s){k:Nat}(P:Px n k p)(hk:k<n)(hs:Asc (ltS lt) p k):∀(f l r:Nat) {Q:Nat->Q5->Prop},l<=r->r<=k->r-l<=f->(∀i,i<l->ltS lt (p.getD i 0) (p.getD k 0)=true)->(∀i,r<=i->i<k->ltS lt (p.getD k 0) (p.getD i 0)=true)->
  (∀l',l'<=k->(∀i,i<l'->ltS lt (p.getD i 0) (p.getD k 0)=true)->(∀i,l'<=i->i<k->ltS lt (p.getD k 0) (p.getD i 0)=true)->Q l' s)->(kas_place p k f l r).kasWp cmp Q s
 |0,l,r,Q,h1,h2,h3,h4,h5,q=>q l ⋯ h4 fun i a b=>h5 i ⋯ b
 |f+1,l,r,Q,h1,h2,h3,h4,h5,q=>by
  unfold kas_place;by_cases e:l≥r;rw[Xd e];exact q l ⋯ h4 fun i a b=>h5 i ⋯ b;rw[Xf e];have hM:(l+r) / 2<k:=by omega
  have bk:=P.pm.bd k hk;have bM:=P.pm.bd ((l+r) / 2) ⋯;refine A _ _ _ bk bM ?_;have gt:p.getD ((l+r) / 2) 0<=p.getD k 0:=by rw[P.hi k (Z6 _) hk];exact YU (P.lo _ hM)
  rw[<-LJ (lt:=lt) gt];cases hc:ltS lt (p.getD k 0) (p.getD ((l+r) / 2) 0)with
  |true=>
   refine rb W A P hk hs f l ((l+r) / 2) ⋯ ⋯ ⋯ h4 (fun i a b=>?_) q;by_cases e2:i=(l+r) / 2;subst e2;exact hc;exact W.ok.tr bk bM (P.pm.bd _ ⋯) hc (hs _ i ⋯ b)
  |false=>
   have hc':=W.ok.tot bk bM (P.pm.ne' hk ⋯ ⋯) hc;refine rb W A P hk hs f ((l+r) / 2+1) r ⋯ ⋯ ⋯ (fun i a=>?_) h5 q;by_cases e2:i=(l+r) / 2;subst e2;exact hc';exact W.ok.tr (P.pm.bd _ ⋯) bM bk (hs i ((l+r) / 2) ⋯ hM) hc'
def Px.bub{k l:Nat}(P:Px n k p)(hk:k<n)(hl:l<=k):Px n (k+1) (bubble p k (k-l)):=by
 have g:∀i,(bubble p k (k-l)).getD i 0=_:=fun i=>lK (by rw[P.pm.sz];exact hk) hl;refine⟨P.pm.bub hk hl,fun i hi=>?_,fun i a b=>?_⟩;rw[g];have:=P.hi k (Z6 _) hk;split;omega;split;have:=P.lo (i-1) ⋯;omega;have:=P.lo i ⋯;omega;rw[g,Xf ⋯,Xf ⋯];exact P.hi i ⋯ b
def Gb(W:uT n lt)(A:Gf cmp n lt s):∀(f:Nat) (p:Array Nat) (k:Nat) {Q:Array Nat->Q5->Prop},Px n k p->k+f=n->Asc (ltS lt) p k->(∀p',Pm n p'->Asc (ltS lt) p' n->Q p' s)->(kas_bin f p k).kasWp cmp Q s
 |0,p,k,Q,P,h1,h2,q=>q p P.pm (by rw[<-h1];exact h2)
 |f+1,p,k,Q,P,h1,h2,q=>by
  unfold kas_bin;rw[KasT.kasWp_bind];refine rb W A (k:=k) P ⋯ h2 k 0 k (Zp _) (Z6 _) ⋯ (fun i a=>by omega) (fun i a b=>by omega) fun l a b c=>?_;exact Gb W A f _ (k+1) (P.bub ⋯ a) ⋯ (h2.bub P.pm ⋯ a b c) q
def Hc(W:uT n lt)(A:Gf cmp n lt s){Q:Array Nat->Q5->Prop}(h1:1<=n)(q:∀p',Pm n p'->Asc (ltS lt) p' n->Q p' s):(kas_sort n).kasWp cmp Q s:=by
 unfold kas_sort;rw[KasT.kasWp_bind];have g:∀i,i<n->(List.toArray (ZF n)).getD i 0=i:=fun i hi=>by simp[Array.getD,hi]
 refine Ey W A h1 ⟨Dp,fun i hi=>by rw[g i ⋯];exact hi,fun i _ b=>g i b⟩ fun m p' a b P c=>?_;dsimp only;by_cases e:m<n;rw[Xd e];rw[show max m 1=m by omega];exact Gb W A _ _ _ P ⋯ c q;rw[Xf e];exact q p' P.pm (by rw[show n=m by omega];exact c)
end
def ltK(ks:List (Int×Int))(i j:Nat):Bool:=ltP (ks.getD i (0,0)) (ks.getD j (0,0))
def wkK(n:Nat)(ks:List (Int×Int)):uT n (ltK ks) where
 asym:=fun{i j} _ _ h=>by simp only[ltK,ltP,decide_eq_true_eq,decide_eq_false_iff_not]at *;omega
 co:=fun{i j k} _ _ _ h=>by simp only[ltK,ltP,decide_eq_true_eq]at *;omega
def wR(ks:List (Int×Int)):List Nat:=(ZF ks.length).mergeSort fun i j=>!ltS (ltK ks) j i
def gq(ks:List (Int×Int)):(wR ks).Perm (ZF ks.length):=List.mergeSort_perm ..
def DM(ks:List (Int×Int)):(wR ks).Pairwise fun i j=>ltS (ltK ks) j i=false:=by
 have ok:=fun i j k:Nat=>(wkK (i+j+k+1) ks).ok;have:=List.pairwise_mergeSort (le:=fun i j=>!ltS (ltK ks) j i) (fun a b c h1 h2=>by
   have O:=ok a b c;simp only[Bool.not_eq_true']at *;by_cases e1:a=b;subst e1;exact h2;by_cases e2:b=c;subst e2;exact h1;exact O.asym ⋯ ⋯ (O.tr ⋯ ⋯ ⋯ (O.tot (i:=b) (j:=a) ⋯ ⋯ (fun e=>e1 e.symm) h1) (O.tot (i:=c) (j:=b) ⋯ ⋯ (fun e=>e2 e.symm) h2))) (fun a b=>by
   have O:=ok a b 0;simp only[Bool.or_eq_true,Bool.not_eq_true'];cases h:ltS (ltK ks) b a with
   |false=>exact .inl rfl
   |true=>exact .inr (O.asym ⋯ ⋯ h)) (ZF ks.length)
 exact this.imp fun h=>by simpa using h
def HN{ks:List (Int×Int)}{q:Array Nat}(P:Pm ks.length q)(A:Asc (ltS (ltK ks)) q ks.length):q.toList=wR ks:=by
 have hl:q.toList.length=ks.length:=by rw[Zm,P.sz]
 have gd:∀i (hi:i<q.toList.length),q.getD i 0=q.toList[i]:=fun i hi=>by
  have hi':i<q.size:=by simpa using hi
  rw[Xb,Array.getElem?_eq_getElem hi',Array.getElem_toList];rfl
 have O:=(wkK ks.length ks).ok;have p1:q.toList.Pairwise fun i j=>ltS (ltK ks) j i=false:=by
  rw[List.pairwise_iff_getElem];intro i j hi hj hij;have z:=A i j hij ⋯;rw[gd i hi,gd j hj]at z;exact O.asym (tP P _ (YY _)) (tP P _ (YY _)) z
 have nd:q.toList.Nodup:=by
  rw[List.nodup_iff_pairwise_ne,List.pairwise_iff_getElem];intro i j hi hj hij;rw[<-gd i hi,<-gd j hj];exact P.ne i j hij ⋯
 have pr:q.toList.Perm (ZF ks.length):=by
  refine(List.perm_ext_iff_of_nodup nd List.nodup_range).mpr fun x=>⟨fun hx=>Zs.mpr (tP P x hx),fun hx=>?_⟩;refine Classical.byContradiction fun hn=>?_;have:=List.Nodup.length_le_of_subset (Xv.mpr ⟨hn,nd⟩) (l₂:=ZF ks.length) fun y hy=>by
   rcases ZD.mp hy with z|z;rw[z];exact hx;exact Zs.mpr (tP P y z)
  simp only[ZZ,Za]at this;omega
 refine List.Perm.eq_of_pairwise (fun a b ha hb h1 h2=>?_) p1 (DM ks) (pr.trans (gq ks).symm);refine Classical.byContradiction fun hn=>?_;have:=O.tot (tP P a ha) (Zs.mp ((gq ks).mem_iff.mp hb)) hn h2;rw[h1]at this;cases this
section
variable{prog:ZI}{w:Zk}{A:Zy}{E:Q4->Q5->Prop}{a kS:Addr}{vs:List Q4}{keys:Array Q4}{n1 n2:Nat}{R:PySem.Fin->Q5->Prop}{ks:List (Int×Int)}
def xg{st:SortSt}(gk:s.heap.get? kS=some (seqObj "list" keys n2))(ga:s.heap.get? a=some (seqObj "list" #[] n1))(hka:kS≠a)(zk:keys.size<=ZU)(zs:(arrOf st).size<=ZU)(hfl:failedOf st=none)
  (q:∀(h':Heap) (c:Nat),(∀b o,b≠a->b≠kS->s.heap.get? b=some o->h'.get? b=some o)->h'.objs.size=s.heap.objs.size->h'.get? a=some (seqObj "list" ((arrOf st).map (·.2)) c)->R (.done (.ret .none)) { s with heap:=h' }) :
  wpAny (ZL prog w) A (ksk_tail a false n1 (.ref kS) st) R E s:=by
 have u1:=Heap.SameBut.update s.heap kS (Ye fun _=>(#[]:Array Q4));have ga1:=(u1.2 a hka.symm).trans ga;unfold ksk_tail;dsimp only;refine Q8 (listUpdate_at gk rfl (Q8 (wpAny_letGo (Q8 (seqEpoch_at ga1 rfl (Q8 (listUpdate_at ga1 rfl ?_ (Zp _) (Xw (by simpa using zs)))))))) zk (Zp _));rw[hfl];simp only[bne_self_eq_false,Xq,if_false];have u2:=Heap.SameBut.update (s.heap.update kS (Ye fun _=>(#[]:Array Q4))) a (Ye fun _=>(arrOf st).map (·.2));exact ZC (q _ _ (fun b o h1 h2 e=>(u2.2 b h1).trans ((u1.2 b h2).trans e)) (by rw[Heap.size_update,Heap.size_update]) (get?_update_seq ga1 fun _=>(arrOf st).map (·.2)))
def Im(gk:s.heap.get? kS=some (seqObj "list" keys n2))(ga:s.heap.get? a=some (seqObj "list" #[] n1))(hka:kS≠a)(hp:j7 s.heap keys.toList ks)(hl:ks.length=vs.length)(h64:vs.length<64)
  (q:∀(h':Heap) (c:Nat),(∀b o,b≠a->b≠kS->s.heap.get? b=some o->h'.get? b=some o)->h'.objs.size=s.heap.objs.size->h'.get? a=some (seqObj "list" ((wR ks).map fun i=>vs.getD i Value.none).toArray c)->R (.done (.ret .none)) { s with heap:=h' }) :
  wpAny (ZL prog w) A (ksk_end a false vs.toArray n1 (.ref kS) keys) R E s:=by
 have lk:=tQ hp;rw[Zm]at lk;have zl:vs.length<=ZU:=by unfold ZU;omega
 unfold ksk_end;dsimp only;simp only[Xq,if_false,ZV];by_cases h2:vs.length<2;rw[Xd h2,Xd h2];refine Q8 (ZC ?_);rw[StateT.run_pure];refine Q8 (ZC (xg (st:=SortSt.mk' general' (keys.zip vs.toArray) #[] 7 none) gk ga hka ⋯ ?_ rfl fun h' c k z g=>q h' c k z ?_));show(keys.zip vs.toArray).size<=_;rw[Array.size_zip];exact Zw (Nat.min_le_left _ _) ⋯;rw[g];have e:((wR ks).map fun i=>vs.getD i Value.none)=vs:=by
  have pr:=gq ks;match ks,vs,hl,h2 with
  |[],[],_,_=>rw[List.Perm.eq_nil pr];rfl
  |[k],[v],_,_=>
   have:wR [k]=[0]:=List.perm_singleton.mp pr;rw[this];rfl
  |_::_::_,_::_::_,_,h2=>simp only[ZZ]at h2;omega
 have e2:Array.map (fun x=>x.snd) (arrOf (SortSt.mk' general' (keys.zip vs.toArray) #[] 7 none))=vs.toArray:=by
  show(keys.zip vs.toArray).map (·.2)=_;apply Array.toList_inj.mp;rw[Array.toList_map,ksk_zip,List.map_snd_zip (by have:=Zm (xs:=keys);omega)]
 rw[e,e2];rw[Xf h2,Xf h2];have ek:keys=keys.toList.toArray:=by simp
 refine Q8 ?_;rw[ek];refine yl hp (by rw[Zm];omega) ?_;rw[<-ek];refine Q8 (XX (kat_run (ks:=keys.toList) (vs:=vs) (κ:=tuples' true) (Q:=fun st' s'=>∃p:Array Nat,arrOf st'=Array.map (kas_item (keys.toList.toArray.zip vs.toArray)) p/\failedOf st'=none/\s'=s/\p.size=vs.length/\p.toList=wR ks)
  (G:=fun p s'=>s'=s/\p.toList=wR ks) (by rw[Zm];omega) ⋯ h64 (fun p st' s' h1 h2 h3 h4=>⟨p,h2,h3,h4.1,h1,h4.2⟩) ?_) (fun r s' hr=>?_) fun _ _ e=>e)
 refine Hc (lt:=ltK ks) (wkK _ ks) (fun i j C hi hj hC=>?_) ⋯ fun p' P Asc'=>⟨rfl,HN (by rw[hl];exact P) (by rw[hl];exact Asc')⟩;exact HI (n6 hp ⋯) (n6 hp ⋯) hC;obtain⟨u,st'⟩:=r;obtain⟨p,harr,hfail,rfl,hps,hpo⟩:=hr;have hout:=kat_snds (ks:=keys.toList) (vs:=vs) (by rw[Zm];omega) harr;refine xg gk ga hka ⋯ ?_ hfail fun h' c k z g=>q h' c k z ?_;rw[harr,Array.size_map];omega;rw[g,hout,hpo]
end
def Cc(cb:CE)(su:U):List Int->Sto->Option (List (Int×Int)×Sto)
 |[],S=>some ([],S)
 |n::ns,S=>(cb [some (.int n),some su] S).bind fun r=>match r.1 with
  |.tup [.int x,.int y]=>(Cc cb su ns r.2).bind fun t=>some ((x,y)::t.1,t.2)
  |_=>none
def qT(ks:List (Int×Int))(ns:List Int):List Int:=(wR ks).map fun i=>ns.getD i 0
open Classical in
def xJ(z:O)(k:Nat)(co cb:CE):CE:=fun ρ S=>(co ρ S).bind fun r=>match r.1 with
 |.ref l=>match r.2[l]? with
  |some (.dic kus)=>(ox kus).bind fun ns=>if ns.length<64/\∃j:Nat,r.2[j]?=some z then(ρ[k]?).join.bind fun su=>(Cc cb su ns r.2).bind fun t=>some (.ref t.2.length,t.2++[.lst ((qT t.1 ns).map U.int)])else none
  |_=>none
 |_=>none
def mU{cb:CE}{su:U}:∀{ns:List Int} {S:Sto} {t:List (Int×Int)×Sto},Cc cb su ns S=some t->t.1.length=ns.length
 |[],S,t,h=>by cases h;rfl
 |n::ns,S,t,h=>by
  unfold Cc at h;obtain⟨⟨u,S1⟩,h1,h⟩:=Q2.mp h;dsimp only at h;split at h;obtain⟨t',h2,h3⟩:=Q2.mp h;cases h3;simp[mU h2];cases h
def MP(K:Q3)(H:Hp)(v:Q4)(p:Int×Int):Prop:=∃b,v=.ref b/\SqT K H b [.int p.1,.int p.2]
def qt{X:Cx}{pins:List (Addr×Obj)}{σ:L2.St}{H:Hp}{s:Q5}(I:Inv X pins σ H s):∀{vs:List Q4} {ks:List (Int×Int)},Paired (MP X.K H) vs ks->j7 s.heap vs ks
 |_,_,.nil=>trivial
 |_,_,.cons r t=>by
  refine⟨?_,qt I t⟩;obtain⟨b,rfl,sq⟩:=r;obtain⟨its,rv,⟨o,e,c,n,d⟩,_⟩:=I.tuple sq;match its,rv,d with
  |[_,_],.cons ⟨t1,rfl⟩ (.cons ⟨t2,rfl⟩ .nil),d=>exact⟨b,o,t1,t2,n,rfl,e,c,d⟩
def oa{α β:Type}{F:α->β->Prop}{a:α}{b:β}:∀{l1:List α} {l2:List β},Paired F l1 l2->F a b->Paired F (l1++[a]) (l2++[b])
 |_,_,.nil,h=>.cons h .nil
 |_,_,.cons r t,h=>.cons r (oa t h)
section
variable{X:Cx}{body:PySem.Expr}{cb:CE}{scope:Xz}{params:Arguments}{x pa qual:Str}{k kr:Nat}{cx:Addr}
structure Jf(X:Cx)(body:PySem.Expr)(cb:CE)(scope:Xz)(params:Arguments)(x pa qual:Str)(k kr:Nat)(cx:Addr):Prop where
 cel:X.env.cells.lookup x=some cx
 kin:X.env.kindOf x=some .cell
 nm:X.N[k]?=some x
 co:scope.isCoroutine=false
 gen:scope.isGenerator=false
 knd:scope.kind=.function
 nms:scope.names=[(pa,.local),(x,.free)]
 ne:pa≠x
 bnd:∀(cl:List (Str×Addr)) (pm c ctv u:Q4),bindArgs (kla_fn "<lambda>" qual params body scope cl pm c ctv) ⟨[u],[]⟩=pure [(pa,u)]
 bdy:∀(f:Addr) (cd:Q4) (A:Zy) (s:Q5) (H:Hp),fb kr (A.deeper (Mw qual scope s.heap.objs.size f cd [(x,cx)]))->QE (cxL X.prog X.w X.K X.mg X.base [pa,x] qual scope f cd [(x,cx)] A X.stack s H) body cb
def DZ{A:Zy}{pins:List (Addr×Obj)}{σ:L2.St}{ρ:Rho}{H:Hp}{s:Q5}{m:List Addr}{S S':Sto}{f c:Addr}{pm ctv:Q4}{n:Int}{t:Tok}{su u:U}{R:Q4->Q5->Prop}{E:Q4->Q5->Prop}(L:Jf X body cb scope params x pa qual k kr cx)
  (hA:wj X.prog X.w X.K X.mg X.base A X.stack s H) (hr:fb (kr+1) A) (I:Inv X pins σ H s) (ho:s.heap.get? f=some (kla_obj "<lambda>" qual params body scope [(x,cx)] pm c ctv)) (hcd:s.heap.CodeRec (.ref c) qual)
  (sr:Sr X.K m S H) (lr:Lr X.K m H ρ σ) (hk:ρ[k]?=some (some su)) (h:cb [some (.int n),some su] S=some (u,S'))
  (q:∀v u' m' H' s',Inv X pins σ H' s'->dk v u'->Ext X.K m H m' H'->Sr X.K m' S' H'->Is X.K m' H' v u->R u' s'):wpAny (ZL X.prog X.w) A (call (.ref f) [.int n t]) R E s:=by
 obtain⟨sv,hs,iv⟩:=lr.at_ k su hk;obtain⟨mm,hmm,hl⟩:=I.loc;obtain⟨sval,rs,look⟩:=hl k x sv L.nm hs (.inr (.inl L.kin));have cel:s.heap.IsCell cx (some sval):=by
  rcases look with⟨z,_⟩|⟨_,c',e,z⟩;rw[L.kin]at z;cases z;rw[L.cel]at e;cases e;exact z
 have lk:∀y d,([(x,cx)]:List (Str×Addr)).lookup y=some d->y=x/\d=cx:=fun y d e=>by
  rw[XA]at e;by_cases z:(y == x)=true;rw[z]at e;cases e;exact⟨by simpa using z,rfl⟩;rw[show(y == x)=false by simpa using z]at e;cases e
 have nx:(x == pa)=false:=by simpa using fun e=>L.ne e.symm
 have fr:scope.names.lookup x=some .free:=by rw[L.nms,XA,nx];simp
 refine wpAny_call (codeAny_mono (Ib (p:=pa) (capN:=[x]) (vc:=[sv]) (v:=.int n) (te:=tE X.K cb) (Q:=fun v H'=>∃m',Ext X.K m H m' H'/\Sr X.K m' S' H'/\Is X.K m' H' v u) hr.depth hA hr.hd ho hcd L.co L.gen L.knd (fun y hy=>?_) ?_ (L.bnd _ _ _ _ _) ⟨t,rfl⟩ (fun y z d a b=>(lk y d a).1.trans (lk z d b).1.symm) (fun y hy=>?_) (fun y d e=>?_) (.cons ⟨fr,cx,sval,?_,cel,rs⟩ .nil) (L.bdy f _ A s H (hr.deeper _)) ?_) fun r s' hr'=>?_);rw[L.nms]at hy;rcases ZD.mp hy with e|hy;rw[e];exact fun z=>nomatch z;rw[ZN.mp hy];exact fun z=>nomatch z;rw[L.nms,XA];simp
 ·rw[L.nms]at hy;simp only[XA]at hy;by_cases z1:(y == pa)=true
  ·rw[z1]at hy;rcases hy with e|e<;>cases e
  ·rw[show(y == pa)=false by simpa using z1]at hy;by_cases z2:(y == x)=true;exact⟨cx,by rw[XA,z2]⟩
   ·rw[show(y == x)=false by simpa using z2]at hy;rcases hy with e|e<;>cases e
 obtain⟨rfl,rfl⟩:=lk y d e;exact⟨⟨_,cel⟩,I.freeC _ _ L.cel⟩;rw[XA];simp;refine⟨m,[some (.int n),some su],S,u,S',sr,⟨rfl,fun i w e=>?_⟩,h,fun m' v H' e sr' i'=>⟨m',e,sr',i'⟩⟩;match i,e with
 |0,e=>simp at e;subst e;exact⟨_,rfl,.int_⟩
 |1,e=>simp at e;subst e;exact⟨_,rfl,iv⟩
 |i+2,e=>simp at e
 obtain⟨u',rfl,ce⟩:=hr';obtain⟨v,H',I',rv,m',e,sr',i'⟩:=I.after ce;exact q v u' m' H' s' I' rv e sr' i'
def D2{A:Zy}{pins:List (Addr×Obj)}{σ:L2.St}{ρ:Rho}{H:Hp}{s:Q5}{m:List Addr}{S Sn:Sto}{f c a kS:Addr}{pm ctv:Q4}{su:U}{E:Q4->Q5->Prop}{vs:List Q4}{ns:List Int}{ks:List (Int×Int)}{e1:Nat}{oc:Obj}{R:PySem.Fin->Q5->Prop}(L:Jf X body cb scope params x pa qual k kr cx)
  (hE:∀s H,wj X.prog X.w X.K X.mg X.base X.A X.stack s H->wj X.prog X.w X.K X.mg X.base A X.stack s H) (hr:fb (kr+1) A) (I:Inv X ((f,kla_obj "<lambda>" qual params body scope [(x,cx)] pm c ctv)::(a,seqObj "list" #[] e1)::pins) σ H s) (hc:H c=some (.frz oc (.own 0))) (hcd:s.heap.CodeRec (.ref c) qual)
  (sr:Sr X.K m S H) (lr:Lr X.K m H ρ σ) (hk:ρ[k]?=some (some su)) (h:Cc cb su ns S=some (ks,Sn)) (hI:IntsAre vs ns) (h64:vs.length<64) (gk:s.heap.get? kS=some (seqObj "list" #[] 0)) (nk:H kS=none) (hka:kS≠a) (h0:X.s₀.heap.objs.size<=kS) (hL:kS≠X.env.locals) (hce:∀y d,X.env.cells.lookup y=some d->d≠kS) (hp:∀q∈X.pn++pins,q.1≠kS) (hf:f≠kS)
  (q:∀m' H' s' h' c',Inv X ((f,kla_obj "<lambda>" qual params body scope [(x,cx)] pm c ctv)::(a,seqObj "list" #[] e1)::pins) σ H' s'->Ext X.K m H m' H'->Sr X.K m' Sn H'->H' kS=none->(∀b o,b≠a->b≠kS->s'.heap.get? b=some o->h'.get? b=some o)->h'.objs.size=s'.heap.objs.size->h'.get? a=some (seqObj "list" ((wR ks).map fun i=>vs.getD i Value.none).toArray c')->R (.done (.ret .none)) { s' with heap:=h' }) :
  wpAny (ZL X.prog X.w) A (ksk_rest a (.ref f) false vs.toArray e1 (.ref kS)) R E s:=by
 have lk:=mU h;have lv:=hI.length;dsimp only at lk;unfold ksk_rest;refine Q8 (wpAny_rule ?_);rw[List.forIn_toArray];refine Q8 (ksk_fold (fun i s'=>∃m' S' H' kA e,Inv X ((f,kla_obj "<lambda>" qual params body scope [(x,cx)] pm c ctv)::(a,seqObj "list" #[] e1)::pins) σ H' s'/\Ext X.K m H m' H'/\Sr X.K m' S' H'/\Cc cb su (ns.drop i) S'=some (ks.drop i,Sn)/\s'.heap.get? kS=some (seqObj "list" kA e)/\H' kS=none/\Paired (MP X.K H') kA.toList (ks.take i)) vs 0 s
  ⟨m,S,H,#[],0,I,.refl,sr,h,gk,nk,.nil⟩ ?_ ?_)
 ·rintro j v s' hv ⟨m',S',H',kA,e,I',ex,sr',run,gk',nk',pr⟩;simp only[YT]at run pr ⊢;have hj:j<vs.length:=(Q6.mp hv).1;have hjn:j<ns.length:=by omega
  obtain⟨t,ht⟩:=hI.get j ns[j] (Z7 hjn);rw[hv]at ht;cases ht;rw[List.drop_eq_getElem_cons hjn]at run;unfold Cc at run;obtain⟨⟨u,S1⟩,r1,run⟩:=Q2.mp run;dsimp only at run;split at run<;>try cases run
  rename_i y z;obtain⟨t2,r2,r3⟩:=Q2.mp run;have hjk:j<ks.length:=by omega
  rw[List.drop_eq_getElem_cons hjk]at r3;injection r3 with r3;obtain⟨e2,e3⟩:=Prod.mk.inj r3;obtain⟨e4,e5⟩:=List.cons.inj e2;have gc:=(I'.hok c _ (ex.keep.c _ _ hc)).1;have hcd':s'.heap.CodeRec (.ref c) qual:=by
   obtain⟨c2,o2,vs2,t3,z1,z2,z3⟩:=hcd;cases z1;rw[(I.hok c _ hc).1]at z2;cases z2;exact⟨c,oc,vs2,t3,rfl,gc,z3⟩
  have pf:=I'.pin _ (ZH _ (ZG));refine Q8 (wpAny_attempt (XX (DZ (E:=fun _ _=>False) L (hE _ _ I'.env0) hr (I'.pins_of (pins':=(kS,seqObj "list" kA e)::(f,kla_obj "<lambda>" qual params body scope [(x,cx)] pm c ctv)::(a,seqObj "list" #[] e1)::pins) fun p hp'=>?_) pf.1 hcd' sr' (lr.mono ex) hk r1 (R:=fun u' s2=>∃v m2 H2,Inv X ((kS,seqObj "list" kA e)::(f,kla_obj "<lambda>" qual params body scope [(x,cx)] pm c ctv)::(a,seqObj "list" #[] e1)::pins) σ H2 s2/\dk v u'/\Ext X.K m' H' m2 H2/\Sr X.K m2 S1 H2/\Is X.K m2 H2 v (.tup [.int y,.int z])) fun v u' m2 H2 s2 a1 a2 a3 a4 a5=>⟨v,m2,H2,a1,a2,a3,a4,a5⟩) (fun u' s2 hq=>?_) fun _ _ z=>z.elim));rcases ZD.mp hp' with z|hp';subst z;exact⟨gk',nk',hL,fun w=>by
   obtain⟨_,o,ho,_⟩:=I.ok.funs.mem w;exact absurd (ZE (ZX ho) h0) (XM _),fun w z=>nomatch z⟩
  exact I'.pin p (ZH _ hp');obtain⟨v,m2,H2,I2,rv,ex2,sr2,iv⟩:=hq;obtain⟨b,xs,rfl,sq,il⟩:=iv.of_tup;obtain rfl:u'=.ref b:=rv;have hxs:xs=[.int y,.int z]:=(il.ints (ns:=[y,z]));subst hxs;obtain⟨gk2,nk2,_⟩:=I2.pin _ (ZH _ (ZG));have zk:kA.size<=vs.length:=by
   have:=pr.length;rw[Zm,List.length_take]at this;omega
  have u1:=Heap.SameBut.update s2.heap kS (Ye (·.push (.ref b)));dsimp only;refine Q8 (listUpdate_at gk2 rfl (ZC ⟨rfl,m2,S1,H2,kA.push (.ref b),_,?_,ex.trans ex2,sr2,?_,get?_update_seq gk2 (·.push (.ref b)),nk2,?_⟩) (by unfold ZU;omega) (Zw (Nat.le_of_eq (Array.size_push ..)) (by unfold ZU;omega)));have I3:Inv X ((f,kla_obj "<lambda>" qual params body scope [(x,cx)] pm c ctv)::(a,seqObj "list" #[] e1)::pins) σ H2 s2:=I2.pins_of fun p hp'=>I2.pin p (ZH _ (ZJ _ hp'));refine I3.turned (t':=s2.toks) (it:=kS) (fun b o nb e=>(u1.2 b nb).trans e) nk2 hL (.inr h0) hce fun p hp'=>?_;rcases Zz.mp hp' with w|w;exact hp p (List.mem_append_left _ w);rcases ZD.mp w with w|w;rw[w];exact hf;rcases ZD.mp w with w|w;rw[w];exact Ne.symm hka;exact hp p (ZH _ w);rw[<-e5,<-e3];exact r2;rw[List.take_add_one,Z7 hjk,<-e4];simp only[Option.toList_some,Array.toList_push];exact oa (Paired.mapP pr fun v p ⟨b,z1,z2⟩=>⟨b,z1,ex2.keep.t _ _ z2⟩) ⟨b,rfl,sq⟩
 rintro s' ⟨m',S',H',kA,e,I',ex,sr',run,gk',nk',pr⟩;simp only[YT]at run pr;rw[show ns.drop vs.length=[]from List.drop_eq_nil_of_le ⋯,show ks.drop vs.length=[]from List.drop_eq_nil_of_le ⋯]at run;unfold Cc at run;injection run with run;obtain⟨_,e3⟩:=Prod.mk.inj run;subst e3;rw[List.take_of_length_le ⋯]at pr;have pa':=I'.pin _ (ZH _ (ZJ _ (ZG)));refine Q8 (listItems_at gk' rfl (Im gk' pa'.1 hka (qt I' pr) ⋯ h64 fun h' c' k1 k2 k3=>q m' H' s' h' c' I' ex sr' nk' k1 k2 k3))
def EN{acc:Array Q4}{ns:List Int}{vs:List (Key×Q4)}(ks:vs.map (·.1)=ns.map Sum.inl)(h1:acc.size=vs.length)(h2:∀(i:Nat) (v:Q4),acc[i]?=some v->∃k x,vs[i]?=some (k,x)/\ud k v=true):IntsAre acc.toList ns:=by
 have key:∀(i:Nat) (v:Q4),acc.toList[i]?=some v->∃(n:Int) (t:Tok),ns[i]?=some n/\v=Value.int n t:=fun i v e=>by
  obtain⟨k,x,e1,e2⟩:=h2 i v (by rw[<-Array.getElem?_toList];exact e);have e3:(vs.map (·.1))[i]?=some k:=by rw[ZP,e1];rfl
  rw[ks,ZP]at e3;obtain⟨n,e4,e5⟩:=XH.mp e3;subst e5;rcases bJ (k:=Sum.inl n) e2 with⟨j,t,e6,e7⟩|⟨j,t,e6,e7⟩;cases e6;exact⟨n,t,e4,e7⟩;cases e6
 have hla:acc.toList.length=ns.length:=by have:=congrArg List.length ks;rw[Zm,h1];simpa using this
 clear h2 h1 ks;generalize acc.toList=l at key hla;induction l generalizing ns with
 |nil=>cases ns with
  |nil=>exact .nil
  |cons a b=>simp at hla
 |cons a b ih=>cases ns with
  |nil=>simp at hla
  |cons c d=>
   obtain⟨n,t,e1,e2⟩:=key 0 a nofun;simp at e1;subst e1;subst e2;exact .cons _ t (ih (fun i v e=>by have:=key (i+1) v (by simpa using e);simpa using this) (by simpa using hla))
def _root_.L2.Inv.turnedC{X:Cx}{pins:List (Addr×Obj)}{σ:L2.St}{H:Hp}{s:Q5}{h':Heap}(ch:List Addr)(I:Inv X pins σ H s)(k:∀b o,b∉ch->s.heap.get? b=some o->h'.get? b=some o)
  (hc:∀b∈ch,H b=none/\b≠X.env.locals/\X.s₀.heap.objs.size<=b/\(∀x c,X.env.cells.lookup x=some c->c≠b)/\∀p∈X.pn++pins,p.1≠b):Inv X pins σ H { s with heap:=h' }:=by
 have nit:∀b u,H b=some u->b∉ch:=fun b u e z=>by rw[(hc b z).1]at e;cases e
 refine I.step (g':=s.gens) (d':=s.drawn) (t':=s.toks) (ch:=ch) (fun b hb=>⟨.inr (hc b hb).2.2.1,(hc b hb).2.1,(hc b hb).2.2.2.1,(hc b hb).2.2.2.2⟩) (fun b o _ _ hb e _=>k b o hb e) (fun b o _ _ hb e _=>⟨o.slots,k b o hb e⟩) (fun _ _ _ _ n=>n)
  (fun b o hb e=>⟨o,k b o hb e⟩) (fun _ _ e=>e) (fun _ _ _ e=>e) (fun b ps e=>⟨#[],by rw[e];simp⟩) (fun m hm=>?_) (fun b u e=>?_) I.bare
 obtain⟨o,es,ep,ho,r⟩:=hm;exact⟨o,es,ep,k _ o (fun z=>(hc _ z).2.1 rfl) ho,r⟩;refine(I.hok b u e).stay (fun c v hc' q=>k c v ?_ q) (fun _ q=>q) fun _ _ q=>q;rcases hc' with rfl|z;exact nit _ _ e;exact nit _ _ z
def oX{a b:Nat}(h:a<b):a≠b:=Zq h
def vB{a b:Nat}(h:b<a):a≠b:=Xj h
abbrev lN(a b:Nat):Prop:=a<b
def Hk{o:PySem.Expr}{co:CE}{c p:Addr}{p1 lpos kpos pos:Pos}(L:Jf X body cb scope params x pa (X.env.qual++"<lambda>") k kr cx)(hr:fb (kr+3) X.A)(hcm:X.calm=true)(hg:Gl X "sorted")(hm:X.mg "sorted"=none)(hv:Zn "sorted"=some (.builtin "sorted"))(ho:QE X o co)
  (hcode:X.env.code=.ref c) (C:codeHdIn X.K c p=true) (B:Ca X.mg X.base) (hcl:closureFor scope X.env=pure [(x,cx)]) (hdef:defaultsOf params X.env=([],[]))
  (he:Z9 [o] X.env=(false,eval o X.env)::Z9 [] X.env:=by rfl) (hpl:(Zi pos (Z9 [o] X.env)).any (·.1)=false:=by rfl) :
  QE X (.Call (.Name "sorted" p1) [o] [⟨some "key",.Lambda params body scope lpos,kpos⟩] pos) (xJ (.cod p lpos (X.env.qual++"<lambda>")) k co cb):=⟨fun pins s σ H Q I hz=>oH hz fun m ρ S u S' sr lr hc post=>by
 obtain⟨⟨w,S1⟩,h1,hc⟩:=Q2.mp hc;dsimp only at hc;split at hc<;>try cases hc
 rename_i l;split at hc<;>try cases hc
 rename_i kus hS;obtain⟨ns,hn,hc⟩:=Q2.mp hc;split at hc<;>try cases hc
 rename_i cond;obtain⟨h64,j,hj⟩:=cond;obtain⟨su,hk,hc⟩:=Q2.mp hc;obtain⟨⟨ks,Sn⟩,run,hc⟩:=Q2.mp hc;injection hc with hc;obtain⟨rfl,rfl⟩:=Prod.mk.inj hc;have hk':ρ[k]?=some (some su):=Option.join_eq_some_iff.mp hk;refine wpAny_Call_Name_kw (uc I hg hm hv (callWith_kw (thn ((ae ho av he).h.h pos pins s σ H (fun vs H1=>∃m1,Ext X.K m H m1 H1/\Sr X.K m1 S1 H1/\IsL X.K m1 H1 vs [.ref l]) I ⟨m,ρ,S,[.ref l],S1,sr,lr,?_,fun m1 vs H1 e sr1 i1=>⟨m1,e,sr1,i1⟩⟩) fun us s1 hu=>?_) (by rw[he];rfl) hpl));simp[ag,ay,h1];obtain⟨vs,H1,I1,rv,m1,e1,sr1,il⟩:=hu;obtain⟨v,rfl,iv⟩:=il.one;obtain⟨ad,had,rfl⟩:=iv.of_ref;obtain⟨uv,rfl,ru⟩:=m8 rv;obtain rfl:uv=.ref ad:=ru;obtain⟨aj,haj,rfl,ps,hps,htr,hit⟩:=sr1.get hj;have kI:X.K.In X.base:=I.mod.kin;refine kws_cons (kla_eval hdef (DY I1 hcode (codeHd_of_K kI C) B hps htr hcl hit fun f c' pm ctv ps' H2 s2 I2 hsz nf gf hcd keep hp2 ht2 hit2 rest hnc=>kws_nil ?_));obtain⟨oc,vsc,tc,ha1,ha2,ha3,ha4⟩:=hit2;have st:Ext X.K m1 H1 m1 H2/\Sr X.K m1 S1 H2:=by
  rcases hnc with hnc|rfl;have ncp:c'≠aj:=fun z=>by rw[z,hps]at hnc;cases hnc
  have eH:H2=upd (upd H1 c' (.frz oc (.own 0))) aj (.tbl ps'):=by
   funext b;by_cases b1:b=aj;subst b1;rw[aJ];exact hp2;rw[aM b1];by_cases b2:b=c';subst b2;rw[aJ];exact ha2;rw[aM b2];exact rest b b1 b2
  have sA:=iF (o:=.frz oc (.own 0)) hnc;have srA:=sr1.same sA;have srB:=srA.put (ho:=.tbl ps') (o:=.cod aj lpos (X.env.qual++"<lambda>")) haj ⟨rfl,ps',aJ,ht2,.inr ⟨c',oc,vsc,tc,ha1,by rw[aM ncp,aJ],ha3,ha4⟩⟩;have eS:S1.set j (.cod aj lpos (X.env.qual++"<lambda>"))=S1:=by
   obtain⟨hlt,e⟩:=Q6.mp hj;rw[<-e];exact List.set_getElem_self hlt
  rw[eS]at srB;rw[eH];exact⟨Ext.trans (.of (dQ sA)) (.of (srA.keep haj _)),srB⟩;exact⟨.refl,sr1⟩
 obtain⟨e2,sr2⟩:=st;obtain⟨ad',had',kvs,hD,ip⟩:=sr2.get hS;rw[had]at had';cases had';obtain⟨z,hd,vd,rel,dd⟩:=Bw I2.hok hD;obtain⟨ep,da⟩:=dd.dictAt;have hkk:kvs.map (·.1)=ns.map Sum.inl:=by rw[ip.1,rh hn]
 have lkv:kvs.length=ns.length:=by have:=congrArg List.length hkk;simpa using this
 have lv:vd.length=ns.length:=by rw[<-Paired.length rel];exact lkv
 have kd:vd.map (·.1)=ns.map Sum.inl:=by rw[<-hkk];exact vG rel
 show wpAny (ZL X.prog X.w) X.A (call (.builtin "sorted") [.ref ad] [(Str.ofString "key",.ref f)]) _ _ s2;refine call_function_entry_kw kind_sorted plain_sorted entry_sorted (ksk_s1 _ _) ?_;unfold Builtin.«sorted»;refine Q8 (m:=checkCount "sorted" 1 1 _) (ZC (Q8 (PySem.W.kdu_collect (PySem.W.kdl_dict (kvs:=vd) (ep:=ep) hd) (show X.A.in1.handled=none from I.ok.hd hcm) da (by rw[lv,<-lkv];exact z) fun h1' tk acc up hac=>?_)));have hI:=EN kd hac.1 hac.2;have hla:acc.toList.length=ns.length:=hI.length;have I3:Inv X pins σ H2 { s2 with heap:=h1',toks:=tk }:=I2.kept up;refine Q8 (wpAny_newList ?_ (by rw[hla,<-lkv];exact z));have gL:(h1'.push { cls:=.type "list",data:=.seq acc.toList.toArray }).get? h1'.objs.size=some (seqObj "list" acc.toList.toArray 0):=ZT _ rfl;refine Q8 (wpAny_holding (wpAny_call_entry_kw slot_list_sort ⟨_,gL,rfl⟩ entry_list_sort ?_ (ksk_l1 _ _)));rw[ksk_t1];generalize ea:h1'.objs.size=a at *;have zl:acc.toList.length<=ZU:=by unfold ZU;omega
 unfold ksk_tree;obtain⟨n1,g1⟩:∃n1,((h1'.push { cls:=.type "list",data:=.seq acc.toList.toArray }).update a (Ye fun _=>#[])).get? a=some (seqObj "list" #[] n1):=⟨_,get?_update_seq gL fun _=>#[]⟩;refine Q8 (listItems_at gL rfl (Q8 (listUpdate_at gL rfl (Q8 (seqEpoch_at g1 rfl (Q8 (wpAny_newTuple (Q8 (wpAny_newList (wpAny_holding ?_) (Zp _))) (by simpa using zl))))) (by simpa using zl) (Zp _))));have sz:((h1'.push { cls:=.type "list",data:=.seq acc.toList.toArray }).update a (Ye fun _=>(#[]:Array Q4))).objs.size=a+1:=by rw[Heap.size_update,Yd,ea]
 generalize eh:(((h1'.push { cls:=.type "list",data:=.seq acc.toList.toArray }).update a (Ye fun _=>(#[]:Array Q4))))=h2 at *;have keep2:∀b o,h1'.get? b=some o->h2.get? b=some o:=fun b o e=>by
  have lt:=ZX e;rw[<-eh,Heap.get?_update_ne _ _ _ _ (oX (by rw[<-ea];exact lt))];exact Q9 _ e
 have keep4:∀b o,h1'.get? b=some o->((h2.push (seqObj "tuple" acc.toList.toArray 0)).push (seqObj "list" #[] 0)).get? b=some o:=fun b o e=>Q9 _ (Q9 _ (keep2 b o e));have szk:(h2.push (seqObj "tuple" acc.toList.toArray 0)).objs.size=a+2:=by rw[Yd,sz]
 have I4:Inv X pins σ H2 { s2 with heap:=(h2.push (seqObj "tuple" acc.toList.toArray 0)).push (seqObj "list" #[] 0),toks:=tk }:=I3.kept keep4;have loc:lN X.env.locals a:=by have:=I3.lt;rw[<-ea];exact this
 have s0:@LE.le Nat _ X.s₀.heap.objs.size a:=by have:=I3.sz;rw[<-ea];exact this
 have cel:∀y d,X.env.cells.lookup y=some d->lN d a:=fun y d e=>by
  obtain⟨v,o,ho,_⟩:=I3.cell y d e;rw[<-ea];exact ZX ho
 have pnl:∀q∈X.pn++pins,lN q.1 a:=fun q hq=>by rw[<-ea];exact ZX (I3.pin q hq).1
 have frl:∀b:Nat,@LE.le Nat _ a b->b∉X.fs:=fun b hb w=>by
  obtain⟨_,o,ho,_⟩:=I.ok.funs.mem w;exact absurd (ZE (ZX ho) (Zw s0 hb)) (XM _)
 have fa:lN f a:=by rw[<-ea];exact ZX (up _ _ gf)
 have ff:f∉X.fs:=fun w=>by
  obtain⟨_,o,ho,_⟩:=I.ok.funs.mem w;exact absurd (ZE (ZX ho) (Zw I1.sz hsz)) (XM _)
 have fl:f≠X.env.locals:=vB (ZE I1.lt hsz);have I5:=I4.pins_of (pins':=(f,kla_obj "<lambda>" (X.env.qual++"<lambda>") params body scope [(x,cx)] pm c' ctv)::(a,seqObj "list" #[] n1)::pins) fun q hq=>by
  rcases ZD.mp hq with w|hq;subst w;exact⟨keep4 _ _ (up _ _ gf),nf,fl,ff,fun v z=>nomatch z⟩;rcases ZD.mp hq with w|hq;subst w;exact⟨Q9 _ (Q9 _ g1),I3.hok.fresh (by rw[ea];exact Z6 _),vB loc,frl a (Z6 _),fun v z=>nomatch z⟩;exact I4.pin q (ZH _ hq)
 have hcd4:((h2.push (seqObj "tuple" acc.toList.toArray 0)).push (seqObj "list" #[] 0)).CodeRec (.ref c') (X.env.qual++"<lambda>"):=⟨c',oc,vsc,tc,rfl,keep4 _ _ (up _ _ (I2.hok c' _ ha2).1),ha3,ha4⟩;refine D2 (E:=X.xe) (s:={ s2 with heap:=(h2.push (seqObj "tuple" acc.toList.toArray 0)).push (seqObj "list" #[] 0),toks:=tk }) L (fun s H e=>e.in1.in1) hr.in1.in1 I5 ha2 hcd4 sr2 ((lr.mono e1).mono e2) hk' run hI ⋯ (kS:=(h2.push (seqObj "tuple" acc.toList.toArray 0)).objs.size) (ZT _ rfl) (I3.hok.fresh (show @LE.le Nat _ h1'.objs.size _ by rw[ea,szk];omega)) (vB (by rw[szk];omega)) (show @LE.le Nat _ _ _ by rw[szk];omega) (vB (by rw[szk];omega)) (fun y d e=>oX (by rw[szk];have:=cel y d e;omega)) (fun q hq=>oX (by rw[szk];have:=pnl q hq;omega)) (oX (by rw[szk];omega)) fun m3 H3 s3 h3 c3 I6 e3 sr3 nk3 k1 k2 k3=>?_;refine⟨_,rfl,ZC ⟨_,rfl,?_⟩⟩;have pa':=I6.pin (a,seqObj "list" #[] n1) (ZH _ (ZJ _ ZG));have I7:Inv X pins σ H3 s3:=I6.pins_of fun q hq=>I6.pin q (ZH _ (ZJ _ (ZJ _ hq)));have I8:Inv X pins σ H3 { s3 with heap:=h3 }:=Inv.turnedC [a,(h2.push (seqObj "tuple" acc.toList.toArray 0)).objs.size] I7 (fun b o hb e=>k1 b o (fun z=>hb (by simp[z])) (fun z=>hb (by simp[z])) e) fun b hb=>by
  rcases ZD.mp hb with w|hb;subst w;exact⟨pa'.2.1,vB loc,s0,fun y d e=>oX (cel y d e),fun q hq=>oX (pnl q hq)⟩;rw[ZN.mp hb,szk];exact⟨by rw[<-szk];exact nk3,vB ⋯,show @LE.le Nat _ _ _ by omega,fun y d e=>oX (by have:=cel y d e;omega),fun q hq=>oX (by have:=pnl q hq;omega)⟩
 have lo:∀i∈wR ks,i<ns.length:=fun i hi=>by
  have:=Zs.mp ((gq ks).mem_iff.mp hi);rw[mU run]at this;exact this
 have vl:cm ((qT ks ns).map V.int) ((wR ks).map fun i=>acc.toList.getD i Value.none):=by
  unfold qT;generalize wR ks=is at lo;induction is with
  |nil=>exact .nil
  |cons i r ih=>
   refine .cons ?_ (ih fun b hb=>lo b (ZJ _ hb));have hi:=lo i ZG;obtain⟨t,ht⟩:=hI.get i ns[i] (Z7 hi);dsimp only;rw[Xh,Xh,ht,Z7 hi];exact⟨t,rfl⟩
 have lz:((qT ks ns).map V.int).length<=ZU:=by
  have:=(gq ks).length_eq;rw[Za,mU run]at this;rw[Q7];unfold qT;rw[Q7,this];unfold ZU;omega
 have I9:=I8.adopt (c:=a) (u:=.lst ((qT ks ns).map V.int)) ⟨lz,_,c3,vl,k3⟩ pa'.2.1 s0 (vB loc) (fun y d e=>oX (cel y d e)) (fun q hq=>oX (pnl q hq));exact⟨.ref a,_,I9,rfl,fH sr3 (mX _) (post.mono (((e1.trans e2).trans e3))) pa'.2.1⟩⟩
end
end OP
namespace L2
open PySem PySem.Spec PyProof.Rows OG
def ES(p:Addr)(H:Hp):Prop:=H p=some (.tbl #[])/\∀b,b≠p->H b=none\/∃o xs,H b=some (.frz o (.lst xs))
def AH{P:ZI}{w:Zk}{K:Q3}{mg mb:Str->Option Q4}{k:Nat}{fa a p:Addr}{fd:XE}{x:Str}{sp:Sp}{s₁:Q5}{vs:List Q4}{ns:List Int}
  (KX:K.In s₁.heap) (hns:s₁.heap.Ns mainGlobals mg) (hb:s₁.heap.Ns builtinsNs mb) (hbb:∀x:Str,x≠"__name__"->mb x=Zn x) (hlim:s₁.heap.NoLimit) (hg:s₁.gens=#[]) (hbm:Ca mg s₁.heap)
  (hp:s₁.heap.get? p=some (PySem.W.tabObj #[])) (hpK:K.lookup p=none) (hpc:isCodeTable s₁.heap p)
  (ha:s₁.heap.get? a=some { cls:=.type "list",data:=.seq vs.toArray }) (hi:IntsAre vs ns) (hl:ns.length<=ZU) (hr:fb k callerA)
  (F:∀base:Heap,K.In base->base.Ns mainGlobals mg->Ca mg base->lQ P w K mg base CX0 k fa fd [x] sp) (hbind:∀(s:Q5) (u:Q4),BindsTo s fd ⟨[u],[]⟩ [(x,u)])
  (hsp:∀H:Hp,ES p H->SqL K H a (ns.map V.int)->sp [.ref a] H (fun v _=>v=.bl true) fun _ _ _=>False) :
  codeAny (ZL P w) callerA (.call (.ref fa) ⟨[.ref a],[]⟩) (fun r s'=>r=.ok (.ret (.bool true))/\OldK s₁.heap s'.heap/\s'.os=s₁.os/\AllBare s'.gens) s₁:=by
 have rv:=ja hi;have lenV:=hi.length;have nap:a≠p:=fun z=>by rw[z,hp]at ha;cases ha
 have core:∀H:Hp,ES p H->SqL K H a (ns.map V.int)->HOk P w H s₁.heap->(∀b,H b≠none->b=a\/b=p)->(H a≠none->K.lookup a=none)->
   codeAny (ZL P w) callerA (.call (.ref fa) ⟨[.ref a],[]⟩) (fun r s'=>r=.ok (.ret (.bool true))/\OldK s₁.heap s'.heap/\s'.os=s₁.os/\AllBare s'.gens) s₁:=by
  intro H hO hS hok hA hK;have noA:∀{b:Addr} {o:Obj},s₁.heap.get? b=some o->(∀its n,o.data≠.seq its n)->(∀vs,o.data≠.fields vs)->H b=none:=fun{b o} e d1 d2=>by
   cases q:H b with
   |none=>rfl
   |some u=>
    rcases hA b (by rw[q];simp)with z|z;subst z;rw[ha]at e;cases e;exact absurd rfl (d1 _ _);subst z;rw[hp]at e;cases e;exact absurd rfl (d2 _)
  have nsK:∀{b:Addr} {m:Str->Option Q4},s₁.heap.Ns b m->(Eh s₁.heap H).Ns b m:=fun{b m} ⟨o,es,ep,e,d,r⟩=>⟨o,es,ep,rn e (noA e (by rw[d];intro _ _ z;cases z) (by rw[d];intro _ z;cases z)),d,r⟩;have hKb:K.In (Eh s₁.heap H):=fun b o e=>rn (KX b o e) (by
   cases q:H b with
   |none=>rfl
   |some u=>
    rcases hA b (by rw[q];simp)with z|z;subst z;rw[hK (by rw[q];simp)]at e;cases e;subst z;rw[hpK]at e;cases e)
  have hM:Mod K mg (Eh s₁.heap H):=⟨hKb,nsK hns,⟨mb,nsK hb,hbb⟩,let ⟨mc,h1,h2⟩:=hlim;⟨mc,nsK h1,h2⟩⟩;have hB:Ca mg (Eh s₁.heap H):=by
   obtain⟨bm,ob,b1,b2,b3,b4,b5,b6⟩:=hbm;exact⟨bm,ob,b1,b2,rn b3 (noA b3 (by rw[b6];intro _ _ z;cases z) (by rw[b6];intro _ z;cases z)),b4,b5,b6⟩
  have e0:wj P w K mg (Eh s₁.heap H) callerA [] s₁ H:=⟨rfl,hM,fun b o e=>HU e,Nat.le_of_eq (A8 _ _),trivial,fun b hb=>absurd (show b∈([]:List Addr)from hb) nofun,hok,.of_eq hg⟩;refine codeAny_mono ((F _ hKb (nsK hns) hB).run callerA [] s₁ H ⟨[.ref a],[]⟩ [.ref a] [.ref a] _ _ hr e0 (hbind s₁ (.ref a)) (.cons rfl .nil) (hsp H hO hS)) fun r s' h=>?_;cases r with
  |error e=>exact h.elim
  |ok fl=>
   cases fl with
   |next=>exact False.elim h
   |brk=>exact False.elim h
   |cont=>exact False.elim h
   |ret u=>
    obtain⟨v,H',os,bare,un,hok',r',q⟩:=h;have q':v=.bl true:=q;subst q';obtain rfl:u=Value.bool true:=r';have kp:∀b o,b≠p->s₁.heap.get? b=some o->s'.heap.get? b=some o:=fun b o nb e=>by
     cases q:H b with
     |none=>exact un.keep b o e q (by intro z;exact absurd (show b∈([]:List Addr)from z) nofun) nofun
     |some u=>
      rcases hO.2 b nb with z|⟨ob,xs,z⟩;rw[q]at z;cases z;have z2:=un.frzs b ob _ z;obtain⟨e1,_⟩:=hok b _ z;obtain⟨e2,_⟩:=hok' b _ z2;rw[e]at e1;cases e1;exact e2
    obtain⟨more,hm⟩:=un.tbls p _ hO.1;have gp:s'.heap.get? p=some { cls:=.none,data:=.fields (#[]++more) }:=hok' p _ hm;refine⟨rfl,⟨fun b o e=>?_,fun b o e=>?_⟩,os,bare⟩;by_cases z:b=p;subst z;rw[hp]at e;cases e;exact .inr (.inl ⟨hpc,rfl,#[],more,rfl,gp⟩);exact .inl (kp b o z e);by_cases z:b=p;subst z;exact⟨_,gp⟩;exact⟨o,kp b o z e⟩
 cases hk:K.lookup a with
 |some o=>
  have e:=KX a o hk;rw[ha]at e;cases e;refine core (upd (fun _=>none) p (.tbl #[])) ⟨aJ,fun b nb=>.inl (by rw[aM nb])⟩ (.inr ⟨_,vs.toArray,_,hk,rfl,rfl,rfl,by rw[ZV,lenV];exact hl,by simpa using rv⟩) (fun b u z=>?_) (fun b z=>?_) fun z=>absurd (by rw[aM nap]) z;by_cases nb:b=p;subst nb;rw[aJ]at z;cases z;exact hp;rw[aM nb]at z;cases z;by_cases nb:b=p;exact .inr nb;exact absurd (by rw[aM nb]) z
 |none=>
  refine core (upd (upd (fun _=>none) a (.frz { cls:=.type "list",data:=.seq vs.toArray } (.lst (ns.map V.int)))) p (.tbl #[])) ⟨aJ,fun b nb=>?_⟩ (.inl (.inr ⟨{ cls:=.type "list",data:=.seq vs.toArray },by rw[aM nap];exact aJ⟩)) (fun b u z=>?_) (fun b z=>?_) fun _=>hk;rw[aM nb];by_cases hb:b=a;subst hb;exact .inr ⟨_,_,aJ⟩;exact .inl (by rw[aM hb]);by_cases nb:b=p;subst nb;rw[aJ]at z;cases z;exact hp;rw[aM nb]at z;by_cases hb:b=a;subst hb;rw[aJ]at z;cases z;exact⟨ha,by rw[Q7];exact hl,vs,_,rv,ha⟩;rw[aM hb]at z;cases z;by_cases nb:b=p;exact .inr nb;rw[aM nb]at z;by_cases hb:b=a;exact .inl hb;exact absurd (by rw[aM hb]) z
def CF{l:PySem.W.OpenLaw}{n k:Nat}{q:ZI}{eQ:List Str}{XP:(Str->Option Q4)->Heap->Prop}{YP:Zk->Heap->Prop}{d:DefRec}{K:Params->Q3}{sp:Zk->Sp}{x:Str}{p:Addr}
  (hn:l.most=some n) (hn2:n<=ZU) (hdf:d.params.defaults=[]) (hr:fb k callerA)
  (hY:∀(w:Zk) (h:Heap),YP w h->(K w.params).In h/\h.get? p=some (PySem.W.tabObj #[])) (hK:∀w:Zk,(K w.params).lookup p=none) (hC:∀w:Zk,∃c,PySem.W.codeHdIn (K w.params) c p=true)
  (F:∀(w:Zk) (mg:Str->Option Q4) (fa:Addr) (h:Heap),(K w.params).In h->h.Ns mainGlobals mg->mg d.name=some (.ref fa)->
   ∃fd:XE,(∀(s:Q5) (u:Q4),BindsTo s fd ⟨[u],[]⟩ [(x,u)])/\
    ∀base:Heap,(K w.params).In base->base.Ns mainGlobals mg->Ca mg base->lQ l.prog w (K w.params) mg base CX0 k fa fd [x] (sp w))
  (hsp:∀(w:Zk) (H:Hp) (a:Addr) (ns:List Int),ns.length<=n->ES p H->SqL (K w.params) H a (ns.map V.int)->sp w [.ref a] H (fun v _=>v=.bl true) fun _ _ _=>False) :
  PySem.W.WalkO q eQ XP YP l.row.toRowW d [] (fun f vs=>PySem.call f vs):=by
 refine Att.attach_call hn hdf fun w s₀ s₁ mg mb fa o pm cd doc a vs ns G Y ho hd hcd hmg hobj hints hlen hg=>?_;obtain⟨KX,hp⟩:=hY w _ Y;obtain⟨fd,hb,hF⟩:=F w mg fa _ KX G.T.g hmg;obtain⟨c,hc⟩:=hC w;have C:=PySem.W.codeHd_of_K KX hc;obtain⟨oc,vc,file,tf,flags,tg,inF,text,tt,c1,c2,c3,c4,_⟩:=C;exact AH KX G.T.g G.T.b G.T.builtins G.T.nolimit hg G.T.bmain hp (hK w) ⟨c,oc,vc,c1,c2,c3,c4⟩ hobj hints (Zw hlen hn2) hr hF hb fun H hO hS=>hsp w H a ns hlen hO hS
end L2
namespace OP
open PySem PySem.Spec PyProof PyProof.Rows L2 OG PySem.W
def wL(p:Addr)(K:Q3):Sp:=fun vs H Q _=>∃(a:Addr) (ns:List Int),vs=[.ref a]/\KL K H a ns/\ns.length<=63/\H p=some (.tbl #[])/\∀H',Q (.bl true) H'
def LM{K:Q3}{H:Hp}{a p:Addr}{ns:List Int}(hO:ES p H)(h:SqL K H a (ns.map V.int)):KL K H a ns:=by
 have no:∀xs,H a≠some (.lst xs):=fun xs e=>by
  by_cases z:a=p;subst z;rw[hO.1]at e;cases e;rcases hO.2 a z with q|⟨o,ys,q⟩;rw[q]at e;cases e;rw[q]at e;cases e
 rcases h with(h|h)|h;exact absurd h (no _);exact .inl h;exact .inr h
def DX{K:Q3}{H:Hp}{a p:Addr}{pos:Pos}{qual:Str}{ns:List Int}{c:CS}{r:Rho}{σ:L2.St}{Q:VK}{nx bk ct:L2.St->Hp->Prop}(h:KL K H a ns)(hp:H p=some (.tbl #[]))
  (ok:∃ρ' S',c (some (.kl ns)::r) [.cod p pos qual]=some (.rt (.bl true),ρ',S')) (q:∀H',Q (.bl true) H')
  (hr:r=ZQ r.length none:=by rfl) (hl:σ.length=r.length:=by rfl):tS K c { nx:=nx,rt:=Q,bk:=bk,ct:=ct } (some (.ref a)::σ) H:=by
 obtain⟨ρ',S',e⟩:=ok;refine⟨[p],_,_,_,ρ',S',⟨rfl,nofun,fun l ad o e1 e2=>?_⟩,⟨by simp[hl],fun i u e1=>?_⟩,e,fun m' v H' _ _ iv=>by rw[iv.of_bl];exact q H'⟩;cases l with
 |zero=>
  simp at e1 e2;subst e1;subst e2;exact⟨rfl,#[],hp,trivial,.inl rfl⟩
 |succ l=>simp at e1
 cases i with
 |zero=>
  simp at e1;subst e1;exact⟨.ref a,rfl,.kl_ h⟩
 |succ i=>
  simp only[X9]at e1;rw[hr,XG]at e1;split at e1<;>cases e1
section
variable{P:ZI}{w:Zk}{K:Q3}{base:Heap}{mg:Str->Option Q4}{x q:Str}{st:Zv}{C c p:Addr}{ps N:List Str}{k:Nat}{cs:CS}{cl:Cl}
def Jg(K:Q3)(C:Addr)(x:Str)(c p:Addr):Prop:=∃f o fd,Y0 K (.ref C) x=some (some (.ref f))/\K.lookup f=some o/\o.data=.func fd/\fd.code=.ref c/\PySem.W.codeHdIn K c p=true
def MtD.pureC(d:MtD K cl.C x q st ps)(cd:Jg K cl.C x c p)(S:cP N ps (aA st))
  (hb:∀(f:Addr) (A:Zy) (outer:List Env) (s:Q5) (H:Hp) (E:XK),fb k (A.deeper (envOfC q (aA st) s.heap.objs.size f (.ref c)))->WSs (oK CX0 P w K mg base N q (aA st) f (.ref c) A outer s H E).nox (bN st) (tS K cs)) :
  sL P w K mg base cl x (k+1) ps (fnU N.length ps.length cs):=by
 obtain⟨fa,fd,F,b,m⟩:=d;obtain⟨oc,od,kV,doc,pm,an,cdv,ct,osl,rfl,lk,hcd⟩:=F.ex;obtain⟨f,o,fd2,z1,z2,z3,z4,z5⟩:=cd;have ef:f=fa:=by have:=m.at_;rw[z1]at this;cases this;rfl
 subst ef;rw[lk]at z2;cases z2;cases z3;have e:cdv=.ref c:=z4;subst e;refine⟨f,_,m,?_,b⟩;refine IJ lk hcd S (fun vs H Q E h=>mS h) fun A outer s H vs Q E hr h=>⟨_,(hb f A outer s H E hr).h.nox,rK (X:=(oK CX0 P w K mg base N q (aA st) f (.ref c) A outer s H E).nox) (body:=[]) (ps:=ps) rfl h⟩
end
end OP
namespace OP
open PySem PySem.Spec PyProof PyProof.Rows L2 OG
variable{P:ZI}{K:Q3}{base:Heap}{mg:Str->Option Q4}{x q:Str}{ps:List Str}{c:CS}{cl:Cl}
section
variable{w:Zk}{h:Heap}{st:Zv}{f C:Addr}{N:List Str}{k:Nat}{fd:XE}
structure Jt(K:Q3)(x qual:Str)(st:Zv)(f:Addr)(fd:XE):Prop where
 ex:∃(oc:Q4) (od:Option Addr) (kV doc pm:Q4) (an:Option Addr) (cdv ct:Q4) (osl:Array (Option Q4)) (dT:Addr) (td:Option Addr) (tn:Nat) (tl:Array (Option Q4)),
  fd=YB x qual (gX st) (bN st) (aA st) (.ref dT) kV doc pm an cdv ct/\K.lookup f=some ⟨oc,od,.func fd,osl⟩/\YE K cdv qual=true/\K.lookup dT=some ⟨.type "tuple",td,.seq #[.none] tn,tl⟩
def Jt.pure(F:Jt K x q st f fd)(S:cP N ps (aA st))
  (hb:∀(cdv:Q4) (A:Zy) (outer:List Env) (s:Q5) (H:Hp) (E:XK),fb k (A.deeper (envOfC q (aA st) s.heap.objs.size f cdv))->
   WSs (oK CX0 P w K mg base N q (aA st) f cdv A outer s H E).nox (bN st) (tS K c)):lQ P w K mg base CX0 (k+1) f fd ps (Cb K (fnU N.length ps.length c)):=by
 obtain⟨oc,od,kV,doc,pm,an,cdv,ct,osl,dT,td,tn,tl,rfl,lk,hcd,_⟩:=F.ex;exact IJ lk hcd S (fun vs H Q E h=>mS h) fun A outer s H vs Q E hr h=>⟨_,(hb cdv A outer s H E hr).h.nox,rK (X:=(oK CX0 P w K mg base N q (aA st) f cdv A outer s H E).nox) (body:=[]) (ps:=ps) rfl h⟩
abbrev BdE(x q:Str)(st:Zv)(ps:List Str)(ds:List Q4):Prop:=∀us:List Q4,(us++ds).length=ps.length->∀(kV doc pm:Q4) (an:Option Addr) (cdv ct:Q4) (dT:Addr),∃k:Option (Array Q4)->Sem (List (Str×Q4)),bindArgs (YB x q (gX st) (bN st) (aA st) (.ref dT) kV doc pm an cdv ct) ⟨us,[]⟩=seqItems? (.ref dT) >>= k/\k (some #[.none])=pure (ps.zip (us++ds))
def Jt.binds{ds:List Q4}(F:Jt K x q st f fd)(b:BdE x q st ps ds):iE K fd ps ds:=by
 obtain⟨oc,od,kV,doc,pm,an,cdv,ct,osl,dT,td,tn,tl,rfl,lk,hcd,ht⟩:=F.ex;intro s us hK hl;obtain⟨k,h1,h2⟩:=b us hl kV doc pm an cdv ct dT;exact BindsTo.of_defaults (n:=tn) rfl (hK _ _ ht) rfl h1 h2
def MtE(K:Q3)(C:Addr)(x q:Str)(st:Zv):Prop:=∃f,Y0 K (.ref C) x=some (some (.ref f))/\YF K (.ref f)=true/\∃fd,Jt K x q st f fd
def mtE{oc:Q4}{od an td:Option Addr}{osl tl:Array (Option Q4)}{kV doc pm cdv ct:Q4}{dT:Addr}{tn:Nat}(a:Y0 K (.ref C) x=some (some (.ref f)))(i:YF K (.ref f)=true)(l:K.lookup f=some ⟨oc,od,.func (YB x q (gX st) (bN st) (aA st) (.ref dT) kV doc pm an cdv ct),osl⟩)(c:YE K cdv q=true)(t:K.lookup dT=some ⟨.type "tuple",td,.seq #[.none] tn,tl⟩):MtE K C x q st:=⟨f,a,i,_,⟨_,_,_,_,_,_,_,_,_,_,_,_,_,rfl,l,c,t⟩⟩
def MkE(K:Q3)(mg:Str->Option Q4)(C:Addr)(x q:Str)(st:Zv)(ps:List Str)(ds:List Q4):Prop:=∃fa fd,Jt K "__init__" q st fa fd/\iE K fd ps ds/\Mk K C fa/\mg x=some (.ref C)
def B8.mkE{ns:List Str}{ms:List (Str×Str×Zv)}{ds:List Q4}(h0:B8 K x C ns ms)(d:MtE K C "__init__" q st)(X:K.In h)(G:h.Ns mainGlobals mg)(b:BdE "__init__" q st ps ds):MkE K mg C x q st ps ds:=by
 obtain⟨f,a,i,fd,F⟩:=d;exact⟨f,fd,F,F.binds b,⟨h0.mc,a,i,h0.kc⟩,PySem.W.mg_of X G h0.a⟩
def MkE.pure{NS:List Str}(d:MkE K mg cl.C x q st ps [])(T:TC K cl NS)(S:cP N ps (aA st))
  (hb:∀(f:Addr) (cdv:Q4) (A:Zy) (outer:List Env) (s:Q5) (H:Hp) (E:XK),fb k (A.deeper (envOfC q (aA st) s.heap.objs.size f cdv))->WSs (oK CX0 P w K mg base N q (aA st) f cdv A outer s H E).nox (bN st) (tS K c))
  (nd:NS.Nodup:=by decide +kernel) (few:NS.length<1000:=by decide):CMk P w K mg base cl x (k+1) ps (fnU N.length ps.length c):=by
 obtain⟨fa,fd,F,b,m,g⟩:=d;exact⟨⟨fa,fd,m,F.pure S (hb fa),b,g⟩,by rw[T.ns];exact nd,by rw[T.ns];exact few⟩
end
section
variable{X:Cx}{e a b:ZR}{pos:Pos}{ca cb cv:CE}{c:Cl}{f:Str}{i:Nat}{NS:List Str}
def qv(i:Nat){x:Str}(hN:X.N[i]?=some x:=by rfl)(hv:Vis X.env.scope x:=by first|exact Or.inl rfl|exact Or.inr (Or.inl rfl)|exact Or.inr (Or.inr rfl))(hd:(x == ("__debug__":Str))=false:=by decide)(hcd:(x == ("__classdict__":Str))=false:=by decide):QE X (.Name x pos) (ak i):=C4 (wpv i hN hv hd hcd)
def qr(h:QE X e ca):QSs X [.Return (some e) pos] (b7 ca):=aN (tL h)
def qI{i:Int}{j}:QE X (.Constant (.int i) j pos) (cC (.int i)):=OK GQ
def qS{i:Str}{j}:QE X (.Constant (.str i) j pos) (cC (.str i)):=OH GK
def qN{j}:QE X (.Constant .none j pos) (cC .non):=OJ GO
def qB{i:Bool}{j}:QE X (.Constant (.bool i) j pos) (cC (.bl i)):=QR J7
def qx(hu:X.A.units+1<cLine)(ha:QE X a ca)(hb:QE X b cb)(hs:MK b:=by intro _ _;rfl):QE X (.Subscript a b pos) (cOp fIx ca cb):=P8 hu ha hb hs hs
def qf(T:TC X.K c NS)(h:NS[i]?=some f)(he:QE X e ca)(hb:attributeBase e f X.env (eval e X.env)=eval e X.env:=by rfl):QE X (.Attribute e f pos) (aT c i ca):=Hn T.cl (T.na i h) (T.ix h) he hb
def qsf{o:ZR}{co:CE}{pos':Pos}(T:TC X.K c NS)(h:NS[i]?=some f)(ho:QE X o co)(hv:QE X e cv)(hs:XT e (some (.Attribute o f pos')) pos.line X.env=pure false:=by rfl):QS X (.Assign [.Attribute o f pos'] e pos) (bC c i co cv):=Hi T.cl (T.na i h) (T.ix h) ho hv hs
def qss(i:Nat){x:Str}{pos':Pos}(hN:X.N.Nodup)(he:QE X e ca)(hi:X.N[i]?=some x:=by rfl)(hx:Loc X.env.scope x:=by first|exact Or.inl rfl|exact Or.inr rfl)(hs:XT e (some (.Name x pos')) pos.line X.env=pure false:=by rfl)(hf:X.fn x=true\/X.env.scope.names.lookup x=some .local:=by first|exact .inl rfl|exact .inr rfl|assumption) :
  QS X (.Assign [.Name x pos'] e pos) (cQ i ca):=Kz hN hi hx he hs hf
def qm{mn:Str}{g:Fn}{k:Nat}{ps:List Str}{o:ZR}{es:List ZR}{co:CE}{cr:CA}{apos:Pos}{pl:Sem Bool}(T:TC X.K c NS)(F:sL X.prog X.w X.K X.mg X.base c mn k ps g)(hr:fb k X.A)(ho:QE X o co)(ha:QA X (e::es) cr)(hmn:mn∉NS:=by decide +kernel)
  (hst:Z9 (e::es) X.env=(false,eval e X.env)::Z9 es X.env:=by rfl) (hpl:(Zi pos (Z9 es X.env)).any (·.1)=false:=by rfl) (ht:eval (.Call (.Attribute o mn apos) (e::es) [] pos) X.env=(do
   let ov <-eval o X.env
   standAt apos.atName
   let (f,first) <-holding [ov] (getMethod ov mn pl)
   callWith pos f first (Zi pos (Z9 (e::es) X.env)) (backToKw pos (keywordEach [] X.env))):=by rfl):QE X (.Call (.Attribute o mn apos) (e::es) [] pos) (aL c g co cr):=KD T.cl F hr (T.nm hmn) ho ha hst hpl ht
def qm0{mn:Str}{g:Fn}{k:Nat}{ps:List Str}{o:ZR}{co:CE}{apos:Pos}{pl:Sem Bool}(T:TC X.K c NS)(F:sL X.prog X.w X.K X.mg X.base c mn k ps g)(hr:fb k X.A)(ho:QE X o co)(hmn:mn∉NS:=by decide +kernel)
  (ht:eval (.Call (.Attribute o mn apos) [] [] pos) X.env=(do
   let ov <-eval o X.env
   standAt apos.atName
   let (f,first) <-holding [ov] (getMethod ov mn pl)
   callWith pos f first (Zi pos (Z9 [] X.env)) (backToKw pos (keywordEach [] X.env))):=by rfl):QE X (.Call (.Attribute o mn apos) [] [] pos) (aL c g co ay):=z9 T.cl F hr (T.nm hmn) ho ht
end
def Qq(N P:List Str)(sc:Xz):Bool:=decide (sc.kind=.function)&&!sc.isCoroutine&&!sc.isGenerator&&decide N.Nodup&&decide (N.take P.length=P)&&P.all (fun x=>decide (sc.names.lookup x=some .local)||decide (sc.names.lookup x=some .cell))&&sc.names.all fun y=>!decide (y.2=.free)
def fsc{N P:List Str}{sc:Xz}(h:Qq N P sc=true:=by decide +kernel):cP N P sc:=by
 unfold Qq at h;simp only[Xx,decide_eq_true_eq,Bool.not_eq_true',XC,Bool.or_eq_true,decide_eq_false_iff_not]at h;obtain⟨⟨⟨⟨⟨⟨h1,h2⟩,h3⟩,h4⟩,h5⟩,h6⟩,h7⟩:=h;exact⟨h1,h2,h3,h4,h5,h6,h7⟩
section
variable{w:Zk}{st:Zv}{k:Nat}
def MtD.pu(d:MtD K cl.C x q st ps)(N:List Str)
  (hb:∀{f:Addr} {cdv:Q4} {A:Zy} {outer:List Env} {s:Q5} {H:Hp} {E:XK},(hr:fb k (A.deeper (envOfC q (aA st) s.heap.objs.size f cdv)))->(A.deeper (envOfC q (aA st) s.heap.objs.size f cdv)).units+1<cLine->N.Nodup->WSs (oK CX0 P w K mg base N q (aA st) f cdv A outer s H E).nox (bN st) (tS K c)) (S:cP N ps (aA st):=by exact fsc) :
  sL P w K mg base cl x (k+1) ps (fnU N.length ps.length c):=d.pure S fun _ _ _ _ _ _ _ hr=>hb hr (yt hr) S.nd
def MkD.pu{NS:List Str}(d:MkD K mg cl.C x q st ps)(T:TC K cl NS)(N:List Str)
  (hb:∀{f:Addr} {cdv:Q4} {A:Zy} {outer:List Env} {s:Q5} {H:Hp} {E:XK},(hr:fb k (A.deeper (envOfC q (aA st) s.heap.objs.size f cdv)))->(A.deeper (envOfC q (aA st) s.heap.objs.size f cdv)).units+1<cLine->N.Nodup->WSs (oK CX0 P w K mg base N q (aA st) f cdv A outer s H E).nox (bN st) (tS K c)) (S:cP N ps (aA st):=by exact fsc)
  (nd:NS.Nodup:=by decide +kernel) (few:NS.length<1000:=by decide):CMk P w K mg base cl x (k+1) ps (fnU N.length ps.length c):=d.pure T S (fun _ _ _ _ _ _ _ hr=>hb hr (yt hr) S.nd) nd few
def MkE.pu{NS:List Str}(d:MkE K mg cl.C x q st ps [])(T:TC K cl NS)(N:List Str)
  (hb:∀{f:Addr} {cdv:Q4} {A:Zy} {outer:List Env} {s:Q5} {H:Hp} {E:XK},(hr:fb k (A.deeper (envOfC q (aA st) s.heap.objs.size f cdv)))->(A.deeper (envOfC q (aA st) s.heap.objs.size f cdv)).units+1<cLine->N.Nodup->WSs (oK CX0 P w K mg base N q (aA st) f cdv A outer s H E).nox (bN st) (tS K c)) (S:cP N ps (aA st):=by exact fsc)
  (nd:NS.Nodup:=by decide +kernel) (few:NS.length<1000:=by decide):CMk P w K mg base cl x (k+1) ps (fnU N.length ps.length c):=d.pure T S (fun _ _ _ _ _ _ _ hr=>hb hr (yt hr) S.nd) nd few
def _root_.OG.Def.pu(d:Def K mg x st ps)(N:List Str)
  (hb:∀{f:Addr} {cdv:Q4} {A:Zy} {outer:List Env} {s:Q5} {H:Hp} {E:XK},(hr:fb k (A.deeper (envOfC x (aA st) s.heap.objs.size f cdv)))->(A.deeper (envOfC x (aA st) s.heap.objs.size f cdv)).units+1<cLine->N.Nodup->WSs (oK CX0 P w K mg base N x (aA st) f cdv A outer s H E).nox (bN st) (tS K c)) (S:cP N ps (aA st):=by exact fsc) :
  yR P w K mg base x (k+1) ps (fnU N.length ps.length c):=d.pure S fun _ _ _ _ _ _ _ hr=>hb hr (yt hr) S.nd
end
def sL.up{P:ZI}{w:Zk}{K:Q3}{mg:Str->Option Q4}{base:Heap}{c:Cl}{x:Str}{j k:Nat}{ps:List Str}{f:Fn}(h:sL P w K mg base c x j ps f)(l:j<=k:=by decide):sL P w K mg base c x k ps f:=h.mono l
end OP
namespace OQ
open PySem PySem.Spec PyProof.Rows L2 OG OP
def fZ:CS:=
 (aS (cQ 3 (cOp uC (cOp i8 (cOp i8 (cOp i8 (cOp pH (ak 3) (ak 3)) (cOp pH (cC (.int 50021)) (ak 3))) (cOp pH (cC (.int 19)) (ak 5))) (cC (.int 7))) (cC (.int 2147483563))))
  (cQ 4 (cOp i8 (cOp pH (ak 4) (cC (.int 2147483563))) (ak 3))))
def iM:CS:=
 (aS (cQ 2 (cOp i8 (cOp pH (cC (.int 5)) (ak 1)) (cC (.int 3))))
  (aS (dY (aR (cOp fLt (ak 1) (cCB jC (ag (ak 0) ay)))) (cQ 2 (cOp fIx (ak 0) (ak 1))) bW)
  (aS (dY (aR (cOp fEq (cOp uC (ak 2) (cC (.int 2))) (cC (.int 0)))) (b7 (hX (ag (cOp FQ (ak 2) (cC (.int 2))) ay))) bW)
  (aS (cQ 3 (cOp uC (cOp i8 (cOp i8 (cOp pH (ak 2) (cC (.int 30011))) (cOp pH (cC (.int 977)) (ak 1))) (cC (.int 41))) (cC (.int 2147483563))))
  (aS (cQ 4 (cC (.int 0)))
  (aS (oP (bA (ag (cC (.int 60)) ay)) (gNm 5) (fZ ))
  (b7 (hX (ag (ak 4) ay)))))))))
def lH:CS:=
 (aS (cQ 2 (cOp uC (cOp fIx (ak 0) (cC (.int 0))) (ak 1)))
  (aS (js (ak 0) (cC (.int 0)) (cOp FQ (cOp fIx (ak 0) (cC (.int 0))) (ak 1)))
  (b7 (ak 2))))
def hU(cAttempt:Cl):CS:=
 (aS (bC cAttempt 0 (ak 0) (ak 1))
  (aS (bC cAttempt 1 (ak 0) vV)
  (aS (bC cAttempt 2 (ak 0) vV)
  (aS (bC cAttempt 3 (ak 0) (cC .non))
  (aS (bC cAttempt 4 (ak 0) (hX ay))
  (bC cAttempt 5 (ak 0) (cC (.bl true))))))))
def iS(cKeeper:Cl):CS:=
 (aS (bC cKeeper 0 (ak 0) (cCB oG (ag (ak 2) ay)))
  (aS (bC cKeeper 1 (ak 0) (cOp uB (hX (ag (cC (.int 0)) ay)) (cCB jC (ag (ak 2) ay))))
  (aS (bC cKeeper 2 (ak 0) vV)
  (aS (bC cKeeper 3 (ak 0) (cC (.int 0)))
  (aS (bC cKeeper 4 (ak 0) (hX ay))
  (bC cKeeper 5 (ak 0) vV))))))
def jn(cKeeper cAttempt:Cl):CS:=
 (aS (cQ 3 (cOp fIx (aT cKeeper 5 (ak 0)) (ak 1)))
  (aS (bC cAttempt 5 (ak 3) (cC (.bl false)))
  (bR (cBM bK (aT cKeeper 4 (ak 0)) (ag (iU (ag (ak 2) (ag (ak 1) ay))) ay)))))
def hJ(cKeeper cAttempt:Cl):CS:=
 (aS (dY (cOr (aR (cOp (fIn true) (ak 1) (aT cKeeper 5 (ak 0)))) (Jq (aR (aT cAttempt 5 (cOp fIx (aT cKeeper 5 (ak 0)) (ak 1)))))) uN bW)
  (b7 (cOp fIx (aT cKeeper 5 (ak 0)) (ak 1))))
def fB(bq:Fn)(cKeeper cAttempt:Cl):CS:=
 (aS (cQ 2 (aL cKeeper bq (ak 0) (ag (ak 1) ay)))
  (aS (dY (aR (cOp uA (aT cAttempt 3 (ak 2)) (cC .non))) uN bW)
  (b7 (ak 2))))
def gS(cKeeper:Cl):CS:=
 (b7 (cCB El (ag (rW (bX (iTp (ak 2)) (gNm 0) (cOp fNe (yF (aT cKeeper 2 (ak 2)) (ak 0) (ak 1)) (ak 1)) 1 [1,0]) (jM (ak 2) (gNm 0) (cOp fNe (yF (aT cKeeper 2 (ak 2)) (ak 0) (ak 1)) (ak 1)) 1 [1,0])) ay)))
def dN(cKeeper cAttempt:Cl):CS:=
 (aS (cQ 2 (cOp fIx (aT cKeeper 5 (ak 0)) (ak 1)))
  (b7 (cCB El (ag (jM (aT cAttempt 1 (ak 2)) (gNm 0) (cOp fGt (cOp fIx (aT cKeeper 1 (ak 2)) (ak 0)) (aT cAttempt 0 (ak 1))) 1 [2,0]) ay))))
def bB(ax aB:Fn)(cKeeper cAttempt:Cl):CS:=
 (aS (dY (aR (aL cKeeper ax (ak 0) (ag (ak 1) (ag (hX (ag (ak 2) ay)) ay)))) (b7 (cC (.bl true))) bW)
  (aS (dY (aR (cOp fLe (cOp fIx (aT cKeeper 1 (ak 0)) (ak 2)) (aT cAttempt 0 (cOp fIx (aT cKeeper 5 (ak 0)) (ak 1))))) (b7 (cC (.bl false))) bW)
  (b7 (MG (aL cKeeper ax (ak 0) (ag (ak 1) (ag (aT cAttempt 1 (cOp fIx (aT cKeeper 5 (ak 0)) (ak 1))) ay))) (aL cKeeper aB (ak 0) (ag (ak 1) ay))))))
def dh(cKeeper cAttempt:Cl):CS:=
 (aS (dY (aR (cOp fGt (cOp fIx (aT cKeeper 1 (ak 0)) (ak 2)) (aT cAttempt 0 (ak 1)))) (bC cAttempt 0 (ak 1) (aT cKeeper 3 (ak 0))) bW)
  (aS (js (aT cAttempt 1 (ak 1)) (ak 2) (cC (.bl true)))
  (b7 (cOp fIx (aT cKeeper 0 (ak 0)) (ak 2)))))
def hR(fq:Fn)(cKeeper cAttempt:Cl):CS:=
 (aS (dY (aR (cOp (fIn false) (ak 1) (aT cKeeper 5 (ak 0)))) uN bW)
  (aS (js (aT cKeeper 5 (ak 0)) (ak 1) (cCB (iD cAttempt fq) (ag (aT cKeeper 3 (ak 0)) ay)))
  (bR (cBM bK (aT cKeeper 4 (ak 0)) (ag (iU (ag (cC (.str "begin")) (ag (ak 1) ay))) ay)))))
def eG(aC cM aH dc:Fn)(cKeeper cAttempt:Cl):CS:=
 (aS (cQ 3 (aL cKeeper aC (ak 0) (ag (ak 1) ay)))
  (aS (dY (aR (cOp (fIn false) (ak 2) (aT cAttempt 2 (ak 3)))) (cQ 4 (cOp fIx (aT cAttempt 2 (ak 3)) (ak 2))) (dY (aR (aL cKeeper cM (ak 0) (ag (ak 1) (ag (ak 2) ay)))) (aS (bR (aL cKeeper aH (ak 0) (ag (ak 1) (ag (cC (.str "fall")) ay))))
  (b7 (iU (ag (cC (.str "falls")) ay)))) (cQ 4 (aL cKeeper dc (ak 0) (ag (ak 3) (ag (ak 2) ay))))))
  (aS (bR (cBM bK (aT cKeeper 4 (ak 0)) (ag (iU (ag (cC (.str "look")) (ag (ak 1) (ag (ak 2) (ag (ak 4) ay))))) ay)))
  (b7 (iU (ag (cC (.str "number")) (ag (ak 4) ay)))))))
def jk(aC:Fn)(cKeeper cAttempt:Cl):CS:=
 (aS (cQ 4 (aL cKeeper aC (ak 0) (ag (ak 1) ay)))
  (aS (js (aT cAttempt 2 (ak 4)) (ak 2) (ak 3))
  (bR (cBM bK (aT cKeeper 4 (ak 0)) (ag (iU (ag (cC (.str "put")) (ag (ak 1) (ag (ak 2) (ag (ak 3) ay))))) ay)))))
def eJ(aC aH ax aB:Fn)(cKeeper cAttempt:Cl):CS:=
 (js (aT cKeeper 2 (ak 0)) (ak 3) (ak 1))
def iR(aC aH ax aB:Fn)(cKeeper cAttempt:Cl):CS:=
 (aS (cQ 2 (aL cKeeper aC (ak 0) (ag (ak 1) ay)))
  (aS (dY (aR (cOp fEq (cCB jC (ag (aT cAttempt 2 (ak 2)) ay)) (cC (.int 0)))) (aS (bR (aL cKeeper aH (ak 0) (ag (ak 1) (ag (cC (.str "done")) ay))))
  (b7 (cC (.str "done")))) bW)
  (aS (dY (cOr (aR (aL cKeeper ax (ak 0) (ag (ak 1) (ag (aT cAttempt 1 (ak 2)) ay)))) (cOr (aR (aL cKeeper ax (ak 0) (ag (ak 1) (ag (aT cAttempt 2 (ak 2)) ay)))) (aR (aL cKeeper aB (ak 0) (ag (ak 1) ay))))) (aS (bR (aL cKeeper aH (ak 0) (ag (ak 1) (ag (cC (.str "fall")) ay))))
  (b7 (cC (.str "falls")))) bW)
  (aS (bC cKeeper 3 (ak 0) (cOp i8 (aT cKeeper 3 (ak 0)) (cC (.int 1))))
  (aS (bC cAttempt 3 (ak 2) (aT cKeeper 3 (ak 0)))
  (aS (bC cAttempt 4 (ak 2) (cCB jh (ag (aT cAttempt 2 (ak 2)) ay)))
  (aS (oP (iTp (aT cAttempt 4 (ak 2))) (gNm 3) (eJ aC aH ax aB cKeeper cAttempt))
  (b7 (cC (.str "taken"))))))))))
def fC(bq aH:Fn)(cKeeper cAttempt:Cl):CS:=
 (bR (BK (aT cKeeper 2 (ak 0)) (ak 4)))
def gZ(bq aH:Fn)(cKeeper cAttempt:Cl):CS:=
 (aS (cQ 2 (aL cKeeper bq (ak 0) (ag (ak 1) ay)))
  (aS (dY (aR (cOp FP (aT cAttempt 3 (ak 2)) (cC .non))) uN bW)
  (aS (cQ 3 (cBM qA (aT cAttempt 4 (ak 2)) (ag (cC (.int 0)) ay)))
  (aS (js (aT cKeeper 0 (ak 0)) (ak 3) (cOp fIx (aT cAttempt 2 (ak 2)) (ak 3)))
  (aS (js (aT cKeeper 1 (ak 0)) (ak 3) (aT cAttempt 3 (ak 2)))
  (aS (dY (aR (cOp fGt (cCB jC (ag (aT cAttempt 4 (ak 2)) ay)) (cC (.int 0)))) (b7 (cC (.str "written"))) bW)
  (aS (BJ (aT cAttempt 2 (ak 2)) (gNm 4) (fC bq aH cKeeper cAttempt))
  (aS (bR (aL cKeeper aH (ak 0) (ag (ak 1) (ag (cC (.str "done")) ay))))
  (b7 (cC (.str "done")))))))))))
def jl(cKeeper:Cl):CS:=
 (b7 (cCB mH (ag (aT cKeeper 0 (ak 0)) ay)))
def dH(cAttempt:Cl):CS:=
 (aS (dY (aR (cOp FP (aT cAttempt 3 (ak 0)) (cC .non))) (b7 (iU (ag (aT cAttempt 0 (ak 0)) (ag (cC (.int 1)) ay)))) bW)
  (b7 (iU (ag (aT cAttempt 3 (ak 0)) (ag (cC (.int 0)) ay)))))
def jm(cKeeper:Cl):CS:=
 (b7 (cCB oG (ag (aT cKeeper 4 (ak 0)) ay)))
def g9(dF:Fn)(cKeeper cAttempt:Cl)(zO:O):CS:=
 b7 (xJ zO 0 (aT cKeeper 5 (ak 0)) (aL cAttempt dF (cOp fIx (aT cKeeper 5 (ak 1)) (ak 0)) ay))
def iT(aC aH:Fn)(cKeeper:Cl):CS:=
 (aS (bR (aL cKeeper aC (ak 0) (ag (ak 1) ay)))
  (bR (aL cKeeper aH (ak 0) (ag (ak 1) (ag (cC (.str "fall")) ay)))))
def dM(cAttempt cKeeper:Cl):CS:=
 (b7 (cCB jh (ag (aT cAttempt 1 (cOp fIx (aT cKeeper 5 (ak 0)) (ak 1))) ay)))
def iN(cTrying:Cl):CS:=
 (aS (bC cTrying 0 (ak 0) (ak 1))
  (aS (bC cTrying 1 (ak 0) (cC .non))
  (aS (bC cTrying 2 (ak 0) (cC .non))
  (aS (bC cTrying 3 (ak 0) (cC (.str "out")))
  (aS (bC cTrying 4 (ak 0) (cC (.int 0)))
  (bC cTrying 5 (ak 0) (cC (.int 0))))))))
def jj(fU fN:Fn)(cTries cKeeper cTrying:Cl):CS:=
 (aS (bC cTries 0 (ak 0) (ak 1))
  (aS (bC cTries 1 (ak 0) (cCB (iD cKeeper fU) (ag (ak 1) (ag (ak 2) ay))))
  (aS (bC cTries 2 (ak 0) (ak 4))
  (aS (bC cTries 3 (ak 0) (bX (iTp (ak 3)) (gNm 0) (cCB (iD cTrying fN) (ag (ak 0) ay)) 1 []))
  (aS (bC cTries 4 (ak 0) (cC (.int 0)))
  (bC cTries 5 (ak 0) (hX ay)))))))
def fA(cTries:Cl):CS:=
 (b7 (cOp (xv false) (cSl (aT cTries 5 (ak 0)) none (some (cC (.int 1)))) (hX (ag (ak 1) ay))))
def ft(aB:Fn)(cTrying cKeeper cTries:Cl):CS:=
 (b7 (yG (cOp fEq (aT cTrying 3 (ak 1)) (cC (.str "asleep"))) (EB (aL cKeeper aB (aT cTries 1 (ak 0)) (ag (aT cTrying 1 (ak 1)) ay)))))
def eR(cTries:Cl):CS:=
 (bC cTries 5 (ak 0) (iV (iTp (aT cTries 5 (ak 0))) (gNm 0) (aR (cOp fNe (ak 0) (ak 1))) (ak 0) 1 [1]))
def iP(fk gO:Fn)(cTries cTrying aP cKeeper:Cl):CS:=
 (aS (bC cTrying 1 (ak 1) (aT cTries 4 (ak 0)))
  (aS (bC cTrying 2 (ak 1) (cCB (iD aP gO) (ag (aT cTries 0 (ak 0)) (ag (aT cTrying 0 (ak 1)) ay))))
  (aS (bC cTrying 3 (ak 1) (cC (.str "in")))
  (aS (bC cTries 4 (ak 0) (cOp i8 (aT cTries 4 (ak 0)) (cC (.int 1))))
  (aS (bR (aL cKeeper fk (aT cTries 1 (ak 0)) (ag (aT cTrying 1 (ak 1)) ay)))
  (b7 (cC (.str "begun"))))))))
def eV(fV bo:Fn)(cTries cKeeper cTrying:Cl):CS:=
 (aS (cQ 2 (cOp fIx (aT cTries 3 (ak 0)) (ak 1)))
  (aS (bR (aL cKeeper fV (aT cTries 1 (ak 0)) (ag (aT cTrying 1 (ak 2)) ay)))
  (aS (bC cTrying 3 (ak 2) (cC (.str "asleep")))
  (aS (bC cTrying 5 (ak 2) (cC (.int 0)))
  (aS (bR (aL cTries bo (ak 0) (ag (ak 1) ay)))
  (b7 (cC (.str "slept"))))))))
def dg(cTries cTrying:Cl):CS:=
 (aS (cQ 2 (cOp fIx (aT cTries 3 (ak 0)) (ak 1)))
  (aS (bC cTrying 3 (ak 2) (cC (.str "out")))
  (aS (bC cTrying 4 (ak 2) (cOp i8 (aT cTrying 4 (ak 2)) (cC (.int 1))))
  (aS (bC cTrying 5 (ak 2) (cOp i8 (aT cTrying 5 (ak 2)) (cC (.int 1))))
  (aS (dY (aR (cOp fEq (aT cTrying 5 (ak 2)) (aT cTries 2 (ak 0)))) (bR (cBM bK (aT cTries 5 (ak 0)) (ag (ak 1) ay))) bW)
  (b7 (cC (.str "fell"))))))))
def gw(bo:Fn)(cTries cTrying:Cl):CS:=
 (aS (cQ 2 (cOp fIx (aT cTries 3 (ak 0)) (ak 1)))
  (aS (bC cTrying 3 (ak 2) (cC (.str "done")))
  (aS (bR (aL cTries bo (ak 0) (ag (ak 1) ay)))
  (b7 (cC (.str "done"))))))
def eF(aI aQ ax fT aU gP:Fn)(cTries aP cTrying cKeeper:Cl):CS:=
 (aS (cQ 2 (cOp fIx (aT cTries 3 (ak 0)) (ak 1)))
  (aS (cQ 3 (cOp fIx (aL aP aI (aT cTrying 2 (ak 2)) ay) (cC (.int 2))))
  (aS (dY (yH (aR (aL cTries aQ (ak 0) (ag (ak 1) ay))) (aR (aL cKeeper ax (aT cTries 1 (ak 0)) (ag (aT cTrying 1 (ak 2)) (ag (hX (ag (ak 3) ay)) ay))))) (b7 (cC (.str "held"))) bW)
  (aS (cQ 4 (aL cKeeper fT (aT cTries 1 (ak 0)) (ag (aT cTrying 1 (ak 2)) (ag (ak 3) ay))))
  (aS (dY (aR (cOp fEq (cOp fIx (ak 4) (cC (.int 0))) (cC (.str "falls")))) (b7 (aL cTries aU (ak 0) (ag (ak 1) ay))) bW)
  (aS (bR (aL aP gP (aT cTrying 2 (ak 2)) (ag (cOp fIx (ak 4) (cC (.int 1))) ay)))
  (b7 (cC (.str "went")))))))))
def cu(aQ ax cq:Fn)(cTries cTrying cKeeper:Cl):CS:=
 (aS (dY (aR (aL cTries aQ (ak 0) (ag (ak 1) ay))) (aS (cQ 3 (aT cTrying 1 (cOp fIx (aT cTries 3 (ak 0)) (ak 1))))
  (b7 (aL cKeeper ax (aT cTries 1 (ak 0)) (ag (ak 3) (ag (cOp i8 (aL cKeeper cq (aT cTries 1 (ak 0)) (ag (ak 3) ay)) (ak 2)) ay))))) bW)
  (b7 (yG (cOp fGt (cCB jC (ag (aT cTries 5 (ak 0)) ay)) (cC (.int 0))) (cOp (fIn false) (aT cTrying 3 (cOp fIx (aT cTries 3 (ak 0)) (cOp fIx (aT cTries 5 (ak 0)) (cC (.int 0))))) (iU (ag (cC (.str "in")) (ag (cC (.str "taken")) ay)))))))
def gy(bQ bz dX dC aU bc:Fn)(cTries aP cTrying cKeeper:Cl):CS:=
 (bR (aL cKeeper dX (aT cTries 1 (ak 0)) (ag (aT cTrying 1 (ak 2)) (ag (ak 4) (ag (ak 5) ay)))))
def eU(bQ bz dX dC aU bc:Fn)(cTries aP cTrying cKeeper:Cl):CS:=
 (aS (cQ 2 (cOp fIx (aT cTries 3 (ak 0)) (ak 1)))
  (aS (cQ 3 (aL aP bQ (aT cTrying 2 (ak 2)) ay))
  (aS (dY (yH (aR (cOp fGt (cCB jC (ag (ak 3) ay)) (cC (.int 0)))) (aR (aL cTries bz (ak 0) (ag (ak 1) (ag (bX (iTp (ak 3)) (gNm 0) (cOp fIx (ak 0) (cC (.int 0))) 1 []) ay))))) (b7 (cC (.str "held"))) bW)
  (aS (oP (iTp (ak 3)) (gTp [4,5]) (gy bQ bz dX dC aU bc cTries aP cTrying cKeeper))
  (aS (cQ 6 (aL cKeeper dC (aT cTries 1 (ak 0)) (ag (aT cTrying 1 (ak 2)) ay)))
  (aS (dY (aR (cOp fEq (ak 6) (cC (.str "falls")))) (b7 (aL cTries aU (ak 0) (ag (ak 1) ay))) bW)
  (aS (dY (aR (cOp fEq (ak 6) (cC (.str "done")))) (b7 (aL cTries bc (ak 0) (ag (ak 1) ay))) bW)
  (aS (bC cTrying 3 (ak 2) (cC (.str "taken")))
  (b7 (cC (.str "took")))))))))))
def eE(fe bc:Fn)(cKeeper cTries cTrying:Cl):CS:=
 (aS (dY (aR (cOp fEq (aL cKeeper fe (aT cTries 1 (ak 0)) (ag (aT cTrying 1 (cOp fIx (aT cTries 3 (ak 0)) (ak 1))) ay)) (cC (.str "done")))) (b7 (aL cTries bc (ak 0) (ag (ak 1) ay))) bW)
  (b7 (cC (.str "wrote"))))
def iO(aI dA gQ cZ eD dB:Fn)(cTrying cTries aP:Cl):CS:=
 (aS (cQ 2 (aT cTrying 2 (cOp fIx (aT cTries 3 (ak 0)) (ak 1))))
  (aS (dY (aR (cOp FP (aL aP aI (ak 2) ay) (cC .non))) (b7 (aL cTries dA (ak 0) (ag (ak 1) ay))) bW)
  (aS (dY (aR (aL aP gQ (ak 2) ay)) (b7 (aL cTries cZ (ak 0) (ag (ak 1) ay))) bW)
  (aS (dY (Jq (aR (aL aP eD (ak 2) ay))) (b7 (aL cTries dB (ak 0) (ag (ak 1) ay))) bW)
  (b7 (cC (.str "went")))))))
def lJ(bE aQ fQ cX fR:Fn)(cTries cTrying:Cl):CS:=
 (aS (cQ 2 (cOp fIx (aT cTries 3 (ak 0)) (ak 1)))
  (aS (dY (aR (cOp fEq (aT cTrying 3 (ak 2)) (cC (.str "done")))) (b7 (cC (.str "idle"))) bW)
  (aS (dY (aR (aL cTries bE (ak 0) (ag (ak 2) ay))) (b7 (cC (.str "asleep"))) bW)
  (aS (dY (yH (aR (cOp fEq (aT cTries 2 (ak 0)) (cC (.int 0)))) (aR (cOp (fIn true) (ak 1) (aT cTries 5 (ak 0))))) (bR (cBM bK (aT cTries 5 (ak 0)) (ag (ak 1) ay))) bW)
  (aS (dY (yH (aR (cOp (fIn false) (ak 1) (aT cTries 5 (ak 0)))) (Jq (aR (aL cTries aQ (ak 0) (ag (ak 1) ay))))) (b7 (cC (.str "held"))) bW)
  (aS (dY (aR (cOp fEq (aT cTrying 3 (ak 2)) (cC (.str "in")))) (b7 (aL cTries fQ (ak 0) (ag (ak 1) ay))) bW)
  (aS (dY (aR (cOp fEq (aT cTrying 3 (ak 2)) (cC (.str "taken")))) (b7 (aL cTries cX (ak 0) (ag (ak 1) ay))) bW)
  (b7 (aL cTries fR (ak 0) (ag (ak 2) ay))))))))))
def j4(gN:Fn)(cKeeper cTries:Cl):CS:=
 (b7 (aL cKeeper gN (aT cTries 1 (ak 0)) ay))
def eI(cS:Fn)(cTries cTrying cKeeper:Cl):CS:=
 (dY (aR (cOp fEq (aT cTrying 3 (ak 3)) (cC (.str "done")))) (js (ak 1) (aT cTrying 1 (ak 3)) (ak 2)) bW)
def fX(cS:Fn)(cTries cTrying cKeeper:Cl):CS:=
 (aS (cQ 1 vV)
  (aS (oP (vK (aT cTries 3 (ak 0))) (gTp [2,3]) (eI cS cTries cTrying cKeeper))
  (b7 (iV (iTp (aL cKeeper cS (aT cTries 1 (ak 0)) ay)) (gNm 0) (aR (cOp (fIn false) (ak 0) (ak 1))) (cOp fIx (ak 1) (ak 0)) 1 [1]))))
def j3(gM:Fn)(cKeeper cTries:Cl):CS:=
 (b7 (aL cKeeper gM (aT cTries 1 (ak 0)) ay))
def iQ(cTrying cTries:Cl):CS:=
 (b7 (aT cTrying 4 (cOp fIx (aT cTries 3 (ak 0)) (ak 1))))
def fY(cTries cTrying aP:Cl):CS:=
 (aS (cQ 2 (cOp fIx (aT cTries 3 (ak 0)) (ak 1)))
  (aS (dY (aR (cOp fEq (aT cTrying 3 (ak 2)) (cC (.str "done")))) (b7 (aT aP 1 (aT cTrying 2 (ak 2)))) bW)
  (b7 (cC .non))))
def fW(bE:Fn)(cTries cTrying:Cl):CS:=
 (b7 (cCB Mr (ag (bX (iTp (aT cTries 3 (ak 0))) (gNm 0) (MG (cOp fEq (aT cTrying 3 (ak 0)) (cC (.str "done"))) (aL cTries bE (ak 1) (ag (ak 0) ay))) 1 [0]) ay)))
def oN:CS:=
 (b7 (cOp i8 (cOp i8 (cSl (ak 0) none (some (ak 1))) (iU (ag (ak 2) ay))) (cSl (ak 0) (some (cOp i8 (ak 1) (cC (.int 1)))) none)))
def j6(fuel:Nat):CS:=
 (cQ 1 (cOp fIx (ak 1) (cC (.int 2))))
def oO(fuel:Nat):CS:=
 (aS (cQ 1 (ak 0))
  (aS (gD (yH (aR (cOp fGe (cOp fIx (ak 1) (cC (.int 1))) (cCB jC (ag (cOp fIx (ak 1) (cC (.int 0))) ay)))) (aR (cOp uA (cOp fIx (ak 1) (cC (.int 2))) (cC .non)))) (j6 fuel) fuel)
  (b7 (ak 1))))
def gT(aP:Cl):CS:=
 (aS (dY (aR (cOp fGe (cOp fIx (aT aP 3 (ak 0)) (cC (.int 1))) (cCB jC (ag (cOp fIx (aT aP 3 (ak 0)) (cC (.int 0))) ay)))) (b7 (cC .non)) bW)
  (b7 (cOp fIx (cOp fIx (aT aP 3 (ak 0)) (cC (.int 0))) (cOp fIx (aT aP 3 (ak 0)) (cC (.int 1))))))
def gU(aI:Fn)(aP:Cl):CS:=
 (aS (cQ 1 (aL aP aI (ak 0) ay))
  (b7 (yG (cOp fEq (cOp fIx (ak 1) (cC (.int 0))) (cC (.str "look"))) (cOp FP (cOp fIx (aT aP 2 (ak 0)) (cOp fIx (ak 1) (cC (.int 2)))) (cC .non)))))
def jq(eC:Fn)(aP:Cl):CS:=
 (bC aP 1 (ak 0) (cCB eC (ag (aT aP 1 (ak 0)) (ag (ak 1) (ag (ak 2) ay)))))
def dU(aP:Cl):CS:=
 (aS (cQ 2 (aT aP 3 (ak 0)))
  (b7 (iU (ag (cOp fIx (ak 2) (cC (.int 0))) (ag (cOp i8 (cOp i8 (cOp fIx (ak 2) (cC (.int 1))) (cC (.int 1))) (ak 1)) (ag (cOp fIx (ak 2) (cC (.int 2))) (ag (cOp fIx (ak 2) (cC (.int 3))) ay)))))))
def eY(bU aZ:Fn)(aP:Cl):CS:=
 (bC aP 3 (ak 0) (cCB bU (ag (aL aP aZ (ak 0) (ag (ak 1) ay)) ay)))
def jr(bI aI bp:Fn)(aP:Cl):CS:=
 (aS (bR (aL aP bI (ak 0) (ag (cOp fIx (aL aP aI (ak 0) ay) (cC (.int 1))) (ag (ak 1) ay))))
  (bR (aL aP bp (ak 0) (ag (cC (.int 0)) ay))))
def eZ(bU aZ:Fn)(aP:Cl):CS:=
 (aS (cQ 3 (aL aP aZ (ak 0) (ag (cC (.int 0)) ay)))
  (aS (cQ 4 (cCB bU (ag (iU (ag (ak 2) (ag (cC (.int 0)) (ag (ak 3) (ag (cOp fIx (ak 3) (cC (.int 3))) ay))))) ay)))
  (bC aP 3 (ak 0) (cCB bU (ag (iU (ag (ak 1) (ag (cC (.int 0)) (ag (ak 3) (ag (iU (ag (aT aP 1 (ak 0)) (ag (aT aP 2 (ak 0)) (ag (ak 4) ay)))) ay))))) ay)))))
def dG(aP:Cl):CS:=
 (aS (cQ 1 (cOp fIx (aT aP 3 (ak 0)) (cC (.int 3))))
  (aS (dY (aR (cOp FP (ak 1) (cC .non))) (b7 (cC (.bl false))) bW)
  (aS (bC aP 1 (ak 0) (cOp fIx (ak 1) (cC (.int 0))))
  (aS (bC aP 2 (ak 0) (cOp fIx (ak 1) (cC (.int 1))))
  (aS (bC aP 3 (ak 0) (cOp fIx (ak 1) (cC (.int 2))))
  (b7 (cC (.bl true))))))))
def br(eC aI dD dE bI bp:Fn)(aP:Cl):CS:=
 (aS (cQ 1 (aL aP aI (ak 0) ay))
  (aS (cQ 2 (cOp fIx (ak 1) (cC (.int 0))))
  (aS (dY (aR (cOp fEq (ak 2) (cC (.str "wait")))) (b7 (aL aP dD (ak 0) ay)) bW)
  (aS (dY (aR (cOp fEq (ak 2) (cC (.str "try")))) (aS (bR (aL aP dE (ak 0) (ag (cOp fIx (ak 1) (cC (.int 1))) (ag (cOp fIx (ak 1) (cC (.int 2))) ay))))
  (b7 (cC (.bl true)))) bW)
  (aS (cQ 3 (cC (.int 0)))
  (aS (dY (aR (cOp fEq (ak 2) (cC (.str "look")))) (bR (aL aP bI (ak 0) (ag (cOp fIx (ak 1) (cC (.int 1))) (ag (cOp fIx (aT aP 2 (ak 0)) (cOp fIx (ak 1) (cC (.int 2)))) ay)))) (dY (aR (cOp fEq (ak 2) (cC (.str "put")))) (bC aP 2 (ak 0) (cCB eC (ag (aT aP 2 (ak 0)) (ag (cOp fIx (ak 1) (cC (.int 1))) (ag (cOp fIx (aT aP 1 (ak 0)) (cOp fIx (ak 1) (cC (.int 2)))) ay))))) (dY (aR (cOp fEq (ak 2) (cC (.str "set")))) (bR (aL aP bI (ak 0) (ag (cOp fIx (ak 1) (cC (.int 1))) (ag (cOp fIx (ak 1) (cC (.int 2))) ay)))) (dY (aR (cOp fEq (ak 2) (cC (.str "plus")))) (bR (aL aP bI (ak 0) (ag (cOp fIx (ak 1) (cC (.int 1))) (ag (cOp uC (cOp i8 (cOp fIx (aT aP 1 (ak 0)) (cOp fIx (ak 1) (cC (.int 1)))) (cOp fIx (aT aP 1 (ak 0)) (cOp fIx (ak 1) (cC (.int 2))))) (aT aP 0 (ak 0))) ay)))) (dY (aR (cOp fEq (cOp fIx (aT aP 1 (ak 0)) (cOp fIx (ak 1) (cC (.int 1)))) (cC (.int 0)))) (cQ 3 (cOp fIx (ak 1) (cC (.int 2)))) bW)))))
  (aS (bR (aL aP bp (ak 0) (ag (ak 3) ay)))
  (b7 (cC (.bl true))))))))))
def eW(aP:Cl):CS:=
 (b7 (iV (vK (aT aP 2 (ak 0))) (gTp [0,1]) (aR (cOp uA (ak 1) (cC .non))) (iU (ag (ak 0) (ag (ak 1) ay))) 2 []))
def jo(bU:Fn)(aP:Cl):CS:=
 (aS (bC aP 0 (ak 0) (cOp fIx (ak 1) (cC (.int 1))))
  (aS (bC aP 1 (ak 0) (iU (ag (cC (.int 0)) (ag (cC (.int 0)) (ag (cC (.int 0)) (ag (cC (.int 0)) ay))))))
  (aS (bC aP 2 (ak 0) (cOp uB (iU (ag (cC .non) ay)) (cOp fIx (ak 1) (cC (.int 0)))))
  (bC aP 3 (ak 0) (cCB bU (ag (iU (ag (ak 2) (ag (cC (.int 0)) (ag (cC .non) (ag (cC .non) ay))))) ay))))))
end OQ
namespace OL
open PySem PySem.Spec PyProof.Rows L2 OG OP OQ
def top(i:Nat):Zv:=PySem.Challenge.pw_oneglance_k47_two_tries_by_turns.main.body.getD i (.Pass ⟨0,0,0,0⟩)
abbrev my:Zv:=aK (top 2) 0
abbrev mC:Zv:=aK (top 2) 1
abbrev mD:Zv:=aK (top 2) 2
abbrev mB:Zv:=aK (top 2) 3
abbrev je:Zv:=aK (top 2) 4
abbrev mz:Zv:=aK (top 2) 5
abbrev gm:Zv:=aK (top 2) 6
abbrev iA:Zv:=aK (top 2) 7
abbrev iB:Zv:=aK (top 2) 8
abbrev iq:Zv:=aK (top 2) 9
abbrev ik:Zv:=aK (top 2) 10
abbrev tF:Zv:=top 3
abbrev tH:Zv:=top 4
abbrev jI:Zv:=aK (top 10) 0
abbrev iC:Zv:=aK (top 10) 1
abbrev ky:Zv:=aK (top 11) 0
abbrev jH:Zv:=aK (top 11) 1
abbrev kx:Zv:=aK (top 11) 2
abbrev gh:Zv:=aK (top 11) 3
abbrev gH:Zv:=aK (top 11) 4
abbrev mr:Zv:=aK (top 11) 5
abbrev kq:Zv:=aK (top 11) 6
abbrev jF:Zv:=aK (top 11) 7
abbrev kB:Zv:=aK (top 11) 8
abbrev jG:Zv:=aK (top 11) 9
abbrev i6:Zv:=aK (top 11) 10
abbrev mx:Zv:=aK (top 11) 11
abbrev gI:Zv:=aK (top 11) 12
abbrev fF:Zv:=aK (top 11) 13
abbrev fE:Zv:=aK (top 11) 14
abbrev mw:Zv:=aK (top 11) 15
abbrev gW:Zv:=aK (top 11) 16
abbrev mv:Zv:=aK (top 11) 17
abbrev ke:Zv:=aK (top 13) 0
abbrev mq:Zv:=aK (top 14) 0
abbrev qh:Zv:=aK (top 14) 1
abbrev km:Zv:=aK (top 14) 2
abbrev kj:Zv:=aK (top 14) 3
abbrev gF:Zv:=aK (top 14) 4
abbrev ie:Zv:=aK (top 14) 5
abbrev fD:Zv:=aK (top 14) 6
abbrev gE:Zv:=aK (top 14) 7
abbrev gG:Zv:=aK (top 14) 8
abbrev ig:Zv:=aK (top 14) 9
abbrev jd:Zv:=aK (top 14) 10
abbrev ic:Zv:=aK (top 14) 11
abbrev i4:Zv:=aK (top 14) 12
abbrev jE:Zv:=aK (top 14) 13
abbrev nY:Zv:=aK (top 14) 14
abbrev kh:Zv:=aK (top 14) 15
abbrev nX:Zv:=aK (top 14) 16
abbrev kn:Zv:=aK (top 14) 17
abbrev ki:Zv:=aK (top 14) 18
abbrev kg:Zv:=aK (top 14) 19
abbrev nV:Zv:=top 16
abbrev qc:Zv:=top 17
abbrev jD:Zv:=top 18
abbrev nW:Zv:=top 19
abbrev qe:Zv:=top 20
abbrev Hg:Zv:=top 21
structure E5 where
 P:ZI
 w:Zk
 K:Q3
 mg:Str->Option Q4
 base:Heap
abbrev mh(e:E5):=sL e.P e.w e.K e.mg e.base
abbrev hp(e:E5):=yR e.P e.w e.K e.mg e.base
abbrev mc(e:E5):=CMk e.P e.w e.K e.mg e.base
structure Vw(e:E5)(cT cY cD cK cA:Cl):Prop where
 B:Blt e.mg
 t:TC e.K cT ["world","keeper","patience","ones","begun","row"]
 y:TC e.K cY ["dealing","attempt","doing","stage","fallen","fallen_lately"]
 d:TC e.K cD ["wheel","held","puts","part"]
 k:TC e.K cK ["boxes","marks","holders","ticks","events","known"]
 a:TC e.K cA ["glance","looked","puts","stamp","unwritten","is_open"]
section
variable{P:ZI}{w:Zk}{K:Q3}{mg:Str->Option Q4}{base:Heap}
variable{k:Nat}{e:E5}{cT cY cD cK cA:Cl}(V:Vw e cT cY cD cK cA)
include V
def pF(d:MkD e.K e.mg cA.C "Attempt" "Attempt.__init__" jI ["self","glance"]) :mc e cA "Attempt" (k+1) ["self","glance"] (fnU 2 2 (hU cA)):=
 d.pu V.a ["self","glance"] fun r u n=>aq (qsf V.a rfl (qv 0) (qv 1))
   (aq (qsf V.a rfl (qv 0) tM)
   (aq (qsf V.a rfl (qv 0) tM)
   (aq (qsf V.a rfl (qv 0) qN)
   (aq (qsf V.a rfl (qv 0) (gn av))
   (aN (qsf V.a rfl (qv 0) qB))))))
def lE(d:MtD e.K cA.C "instant" "Attempt.instant" iC ["self"]) :mh e cA "instant" (k+1) ["self"] (fnU 1 1 (dH cA)):=
 d.pu ["self"] fun r u n=>aq (bD (bb tY Ar (qf V.a rfl (qv 0)) qN (aV _)) (qr (dz (ae (qf V.a rfl (qv 0)) (ae qI av)))) bw)
   (qr (dz (ae (qf V.a rfl (qv 0)) (ae qI av))))
def rH(d:MkD e.K e.mg cK.C "Keeper" "Keeper.__init__" ky ["self","world","state"]) :mc e cK "Keeper" (k+1) ["self","world","state"] (fnU 3 3 (iS cK)):=
 d.pu V.k ["self","world","state"] fun r u n=>aq (qsf V.k rfl (qv 0) (iG ji Aq rfl V.B.list OG.oQ (ae (qv 2) av)))
   (aq (qsf V.k rfl (qv 0) (f7 Fy Fu (gn (ae qI av)) (cU oh oe rfl V.B.len YH (ae (qv 2) av))))
   (aq (qsf V.k rfl (qv 0) tM)
   (aq (qsf V.k rfl (qv 0) qI)
   (aq (qsf V.k rfl (qv 0) (gn av))
   (aN (qsf V.k rfl (qv 0) tM))))))
def uq(d:MtD e.K cK.C "end" "Keeper.end" mx ["self","a","word"]) :mh e cK "end" (k+1) ["self","a","word"] (fnU 4 3 (jn cK cA)):=
 d.pu ["self","a","word","attempt"] fun r u n=>aq (qss 3 n (qx u (qf V.k rfl (qv 0)) (qv 1)))
   (aq (qsf V.a rfl (qv 3) qB)
   (aN (aW (bY (qf V.k rfl (qv 0)) (ae (dz (ae (qv 2) (ae (qv 1) av))) av)))))
def pC(d:MtD e.K cK.C "found" "Keeper.found" jG ["self","a"]) :mh e cK "found" (k+1) ["self","a"] (fnU 2 2 (hJ cK cA)):=
 d.pu ["self","a"] fun r u n=>aq (bD (C3 (Nd (wM u (qv 1) (qf V.k rfl (qv 0)) (by with_unfolding_all rfl)) (Hm (z7 (gK (qf V.a rfl (qx u (qf V.k rfl (qv 0)) (qv 1)))))))) (aN mV) bw)
   (qr (qx u (qf V.k rfl (qv 0)) (qv 1)))
def mM{bq:Fn}(d:MtD e.K cK.C "untaken" "Keeper.untaken" i6 ["self","a"])(m0:mh e cK "found" k ["self","a"] bq):mh e cK "untaken" (k+1) ["self","a"] (fnU 3 2 (fB bq cK cA)):=
 d.pu ["self","a","attempt"] fun r u n=>aq (qss 2 n (qm V.k m0 r (qv 0) (ae (qv 1) av)))
   (aq (bD (bb vA Ap (qf V.a rfl (qv 2)) qN (aV _)) (aN mV) bw)
   (qr (qv 2)))
def kN(d:MtD e.K cK.C "is_barred" "Keeper.is_barred" gI ["self","a","boxes"]) :mh e cK "is_barred" (k+1) ["self","a","boxes"] (fnU 3 3 (gS cK)):=
 d.pu ["self","a","boxes"] fun r u n=>qr (cU (xI rfl) Lm rfl V.B.any OG.xK (ae (C7 (jK (Nc:=["b","a","self"]) (tn:=["b"]) (capN:=["a","self"]) (caps:=[1,0]) rfl (jf (qv 2)) (fun _ _ _=>bS (ba (i:=0) (show(["b","a","self"]:List Str).Nodup by decide +kernel) rfl (by trivial))) (fun _ _ _=>oV HQ OX (Fq u (qf V.k rfl (qv 2)) (qv 0) (qv 1) ⟨rfl,rfl,rfl,rfl⟩) (qv 1) (aV _)) rfl rfl ∅ ∅ ⟨rfl,rfl,trivial⟩ rfl (.cons ⟨rfl,rfl,rfl,_,rfl⟩ (.cons ⟨rfl,rfl,rfl,_,rfl⟩ .nil)) rfl rfl) (Aa (Nc:=["b","a","self"]) (tn:=["b"]) (capN:=["a","self"]) (caps:=[1,0]) rfl (qv 2) (fun _ _ _=>bS (ba (i:=0) (show(["b","a","self"]:List Str).Nodup by decide +kernel) rfl (by trivial))) (fun _ _ _=>oV HQ OX (Fq u (qf V.k rfl (qv 2)) (qv 0) (qv 1) ⟨rfl,rfl,rfl,rfl⟩) (qv 1) (aV _)) rfl rfl ∅ ∅ ⟨rfl,rfl,trivial⟩ rfl (.cons ⟨rfl,rfl,rfl,_,rfl⟩ (.cons ⟨rfl,rfl,rfl,_,rfl⟩ .nil)) rfl rfl)) av))
def jB(d:MtD e.K cK.C "has_changed" "Keeper.has_changed" fF ["self","a"]) :mh e cK "has_changed" (k+1) ["self","a"] (fnU 3 2 (dN cK cA)):=
 d.pu ["self","a","attempt"] fun r u n=>aq (qss 2 n (qx u (qf V.k rfl (qv 0)) (qv 1)))
   (qr (cU (xI rfl) Lm rfl V.B.any OG.xK (ae (Aa (Nc:=["b","attempt","self"]) (tn:=["b"]) (capN:=["attempt","self"]) (caps:=[2,0]) rfl (qf V.a rfl (qv 2)) (fun _ _ _=>bS (ba (i:=0) (show(["b","attempt","self"]:List Str).Nodup by decide +kernel) rfl (by trivial))) (fun _ _ _=>oV ym Jk (qx u (qf V.k rfl (qv 2)) (qv 0)) (qf V.a rfl (qv 1)) (aV _)) rfl rfl ∅ ∅ ⟨rfl,rfl,trivial⟩ rfl (.cons ⟨rfl,rfl,rfl,_,rfl⟩ (.cons ⟨rfl,rfl,rfl,_,rfl⟩ .nil)) rfl rfl) av)))
def jW{ax aB:Fn}(d:MtD e.K cK.C "would_fall" "Keeper.would_fall" gh ["self","a","b"])(m0:mh e cK "is_barred" k ["self","a","boxes"] ax)(m1:mh e cK "has_changed" k ["self","a"] aB):mh e cK "would_fall" (k+1) ["self","a","b"] (fnU 3 3 (bB ax aB cK cA)):=
 d.pu ["self","a","b"] fun r u n=>aq (bD (gK (qm V.k m0 r (qv 0) (ae (qv 1) (ae (gn (ae (qv 2) av)) av)))) (qr qB) bw)
   (aq (bD (bb Lo P9 (qx u (qf V.k rfl (qv 0)) (qv 2)) (qf V.a rfl (qx u (qf V.k rfl (qv 0)) (qv 1))) (aV _)) (qr qB) bw)
   (qr (KA (qm V.k m0 r (qv 0) (ae (qv 1) (ae (qf V.a rfl (qx u (qf V.k rfl (qv 0)) (qv 1))) av))) (z8 (qm V.k m1 r (qv 0) (ae (qv 1) av))))))
def kM(d:MtD e.K cK.C "look_anew" "Keeper.look_anew" gH ["self","attempt","b"]) :mh e cK "look_anew" (k+1) ["self","attempt","b"] (fnU 3 3 (dh cK cA)):=
 d.pu ["self","attempt","b"] fun r u n=>aq (bD (bb ym Jk (qx u (qf V.k rfl (qv 0)) (qv 2)) (qf V.a rfl (qv 1)) (aV _)) (aN (qsf V.a rfl (qv 1) (qf V.k rfl (qv 0)))) bw)
   (aq (fG u (qf V.a rfl (qv 1)) (qv 2) qB)
   (qr (qx u (qf V.k rfl (qv 0)) (qv 2))))
def pE{fq:Fn}(d:MtD e.K cK.C "begin" "Keeper.begin" jH ["self","a"])(m0:mc e cA "Attempt" k ["self","glance"] fq):mh e cK "begin" (k+1+1) ["self","a"] (fnU 2 2 (hR fq cK cA)):=
 d.pu ["self","a"] fun r u n=>aq (bD (C5 u (qv 1) (qf V.k rfl (qv 0)) (by with_unfolding_all rfl)) (aN mV) bw)
   (aq (fG u (qf V.k rfl (qv 0)) (qv 1) (qk m0 r rfl (ae (qf V.k rfl (qv 0)) av)))
   (aN (aW (bY (qf V.k rfl (qv 0)) (ae (dz (ae qS (ae (qv 1) av))) av)))))
def rG{aC cM aH dc:Fn}(d:MtD e.K cK.C "look" "Keeper.look" kx ["self","a","b"])(m0:mh e cK "untaken" k ["self","a"] aC)(m1:mh e cK "would_fall" k ["self","a","b"] cM)(m2:mh e cK "end" k ["self","a","word"] aH)(m3:mh e cK "look_anew" k ["self","attempt","b"] dc):mh e cK "look" (k+1) ["self","a","b"] (fnU 5 3 (eG aC cM aH dc cK cA)):=
 d.pu ["self","a","b","attempt","number"] fun r u n=>aq (qss 3 n (qm V.k m0 r (qv 0) (ae (qv 1) av)))
   (aq (bD (C5 u (qv 2) (qf V.a rfl (qv 3)) (by with_unfolding_all rfl)) (aN (qss 4 n (qx u (qf V.a rfl (qv 3)) (qv 2)))) (aN (bD (gK (qm V.k m1 r (qv 0) (ae (qv 1) (ae (qv 2) av)))) (aq (aW (qm V.k m2 r (qv 0) (ae (qv 1) (ae qS av))))
   (qr (dz (ae qS av)))) (aN (qss 4 n (qm V.k m3 r (qv 0) (ae (qv 3) (ae (qv 2) av))))))))
   (aq (aW (bY (qf V.k rfl (qv 0)) (ae (dz (ae qS (ae (qv 1) (ae (qv 2) (ae (qv 4) av))))) av)))
   (qr (dz (ae qS (ae (qv 4) av))))))
def uj{aC:Fn}(d:MtD e.K cK.C "put" "Keeper.put" mr ["self","a","b","v"])(m0:mh e cK "untaken" k ["self","a"] aC):mh e cK "put" (k+1) ["self","a","b","v"] (fnU 5 4 (jk aC cK cA)):=
 d.pu ["self","a","b","v","attempt"] fun r u n=>aq (qss 4 n (qm V.k m0 r (qv 0) (ae (qv 1) av)))
   (aq (fG u (qf V.a rfl (qv 4)) (qv 2) (qv 3))
   (aN (aW (bY (qf V.k rfl (qv 0)) (ae (dz (ae qS (ae (qv 1) (ae (qv 2) (ae (qv 3) av))))) av)))))
def rF{aC aH ax aB:Fn}(d:MtD e.K cK.C "take" "Keeper.take" kq ["self","a"])(m0:mh e cK "untaken" k ["self","a"] aC)(m1:mh e cK "end" k ["self","a","word"] aH)(m2:mh e cK "is_barred" k ["self","a","boxes"] ax)(m3:mh e cK "has_changed" k ["self","a"] aB):mh e cK "take" (k+1) ["self","a"] (fnU 4 2 (iR aC aH ax aB cK cA)):=
 d.pu ["self","a","attempt","b"] fun r u n=>aq (qss 2 n (qm V.k m0 r (qv 0) (ae (qv 1) av)))
   (aq (bD (bb eM k6 (cU oh oe rfl V.B.len YH (ae (qf V.a rfl (qv 2)) av)) qI (aV _)) (aq (aW (qm V.k m1 r (qv 0) (ae (qv 1) (ae qS av))))
   (qr qS)) bw)
   (aq (bD (C3 (Nd (gK (qm V.k m2 r (qv 0) (ae (qv 1) (ae (qf V.a rfl (qv 2)) av)))) (Nd (gK (qm V.k m2 r (qv 0) (ae (qv 1) (ae (qf V.a rfl (qv 2)) av)))) (Hm (gK (qm V.k m3 r (qv 0) (ae (qv 1) av))))))) (aq (aW (qm V.k m1 r (qv 0) (ae (qv 1) (ae qS av))))
   (qr qS)) bw)
   (aq (qsf V.k rfl (qv 0) (f7 fK fJ (qf V.k rfl (qv 0)) qI))
   (aq (qsf V.a rfl (qv 2) (qf V.k rfl (qv 0)))
   (aq (qsf V.a rfl (qv 2) (cU (wV rfl) wO rfl V.B.sorted OG.j5 (ae (qf V.a rfl (qv 2)) av)))
   (aq (mG PassesOwn.never rfl (jf (qf V.a rfl (qv 2))) (bS (ba (i:=3) n rfl (by trivial))) (aN (fG u (qf V.k rfl (qv 0)) (qv 3) (qv 1))))
   (qr qS)))))))
def pj{bq aH:Fn}(d:MtD e.K cK.C "write" "Keeper.write" jF ["self","a"])(m0:mh e cK "found" k ["self","a"] bq)(m1:mh e cK "end" k ["self","a","word"] aH):mh e cK "write" (k+1) ["self","a"] (fnU 5 2 (gZ bq aH cK cA)):=
 d.pu ["self","a","attempt","b","held"] fun r u n=>aq (qss 2 n (qm V.k m0 r (qv 0) (ae (qv 1) av)))
   (aq (bD (bb tY Ar (qf V.a rfl (qv 2)) qN (aV _)) (aN mV) bw)
   (aq (qss 3 n (Hl (qf V.a rfl (qv 2)) (ae qI av)))
   (aq (fG u (qf V.k rfl (qv 0)) (qv 3) (qx u (qf V.a rfl (qv 2)) (qv 3)))
   (aq (fG u (qf V.k rfl (qv 0)) (qv 3) (qf V.a rfl (qv 2)))
   (aq (bD (bb ym Jk (cU oh oe rfl V.B.len YH (ae (qf V.a rfl (qv 2)) av)) qI (aV _)) (qr qS) bw)
   (aq (Hj PassesOwn.never rfl (qf V.a rfl (qv 2)) (bS (ba (i:=4) n rfl (by trivial))) (aN (aW (KG (qf V.k rfl (qv 0)) (qv 4) ⟨rfl,rfl,rfl,rfl⟩))))
   (aq (aW (qm V.k m1 r (qv 0) (ae (qv 1) (ae qS av))))
   (qr qS))))))))
def rJ{aC aH:Fn}(d:MtD e.K cK.C "fall" "Keeper.fall" kB ["self","a"])(m0:mh e cK "untaken" k ["self","a"] aC)(m1:mh e cK "end" k ["self","a","word"] aH):mh e cK "fall" (k+1) ["self","a"] (fnU 2 2 (iT aC aH cK)):=
 d.pu ["self","a"] fun r u n=>aq (aW (qm V.k m0 r (qv 0) (ae (qv 1) av)))
   (aN (aW (qm V.k m1 r (qv 0) (ae (qv 1) (ae qS av)))))
def jA(d:MtD e.K cK.C "looked_into" "Keeper.looked_into" fE ["self","a"]) :mh e cK "looked_into" (k+1) ["self","a"] (fnU 2 2 (dM cA cK)):=
 d.pu ["self","a"] fun r u n=>qr (cU (wV rfl) wO rfl V.B.sorted OG.j5 (ae (qf V.a rfl (qx u (qf V.k rfl (qv 0)) (qv 1))) av))
def uo(d:MtD e.K cK.C "log" "Keeper.log" mw ["self"]) :mh e cK "log" (k+1) ["self"] (fnU 1 1 (jm cK)):=
 d.pu ["self"] fun r u n=>qr (iG ji Aq rfl V.B.list OG.oQ (ae (qf V.k rfl (qv 0)) av))
omit V in
def nU:cP ["self"] ["self"] (aA gW):=⟨rfl,rfl,rfl,∅,rfl,∅,∅⟩
omit V in
abbrev zOf(p:Addr):O:=.cod p ⟨212,38,212,71⟩ ("Keeper.order"++".<locals>."++"<lambda>")
omit V in
def pq{k:Nat}{dF:Fn}{cKeeper cAttempt:Cl}{cO pO:Addr}(d:MtD K cKeeper.C "order" "Keeper.order" gW ["self"])(cd:Jg K cKeeper.C "order" cO pO)(bm:Ca mg base)(B:Blt mg)(TKeeper:TC K cKeeper ["boxes","marks","holders","ticks","events","known"])(TAttempt:TC K cAttempt ["glance","looked","puts","stamp","unwritten","is_open"])(M_Attempt_instant:sL P w K mg base cAttempt "instant" k ["self"] dF):sL P w K mg base cKeeper "order" (k+3+1) ["self"] (fnU 1 1 (g9 dF cKeeper cAttempt (zOf pO))):=by
 have hC:=cd;obtain⟨_,_,_,_,_,_,_,hC⟩:=hC;exact d.pureC cd nU fun f A outer s H E hr=>aN (tL (Hk (x:="self") (pa:="a") (k:=0) (kr:=k) (cx:=s.heap.objs.size+1) ⟨rfl,rfl,rfl,rfl,rfl,rfl,rfl,∅,fun _ _ _ _ _=>rfl,fun f' cd' A' s' H' hr'=>z9 TAttempt.cl M_Attempt_instant hr' (TAttempt.nm ∅) (P8 (yt hr') (Hn TKeeper.cl (TKeeper.na 5 rfl) (TKeeper.ix rfl) (C4 (wpv 1))) (C4 (wpv 0)) (fun _ _=>rfl) (fun _ _=>rfl))⟩ hr rfl rfl B.sorted OG.j5 (Hn TKeeper.cl (TKeeper.na 5 rfl) (TKeeper.ix rfl) (C4 (wpv 0))) rfl hC bm rfl rfl))
def um(d:MtD e.K cK.C "now" "Keeper.now" mv ["self"]) :mh e cK "now" (k+1) ["self"] (fnU 1 1 (jl cK)):=
 d.pu ["self"] fun r u n=>qr (iG iL vx rfl V.B.tuple OG.lL (ae (qf V.k rfl (qv 0)) av))
theorem Ba(d:Def e.K e.mg "with_at" tF ["row","place","value"]) :hp e "with_at" (k+1) ["row","place","value"] (fnU 3 3 (oN )):=
 d.pu ["row","place","value"] fun r u n=>qr (f7 fK fJ (f7 fK fJ (OI (qv 0) vq (vo (qv 1))) (dz (ae (qv 2) av))) (OI (qv 0) (vo (f7 fK fJ (qv 1) qI)) vq))
def Bb{fuel:Nat}(d:Def e.K e.mg "onwards" tH ["part"]) :hp e "onwards" (k+1) ["part"] (fnU 2 1 (oO fuel)):=
 d.pu ["part","reached"] fun r u n=>aq (qss 1 n (qv 0))
   (aq (C1 fuel PassesOwn.never (C3 (yi (bb Lp Qa (qx u (qv 1) qI) (cU oh oe rfl V.B.len YH (ae (qx u (qv 1) qI) av)) (aV _)) (ql (bb vA Ap (qx u (qv 1) qI) qN (aV _))))) (aN (qss 1 n (qx u (qv 1) qI))))
   (qr (qv 1)))
def uy(d:MtD e.K cD.C "deed" "Doing.deed" mC ["self"]) :mh e cD "deed" (k+1) ["self"] (fnU 1 1 (gT cD)):=
 d.pu ["self"] fun r u n=>aq (bD (bb Lp Qa (qx u (qf V.d rfl (qv 0)) qI) (cU oh oe rfl V.B.len YH (ae (qx u (qf V.d rfl (qv 0)) qI) av)) (aV _)) (qr qN) bw)
   (qr (qx u (qx u (qf V.d rfl (qv 0)) qI) (qx u (qf V.d rfl (qv 0)) qI)))
def uz{aI:Fn}(d:MtD e.K cD.C "asks" "Doing.asks" mD ["self"])(m0:mh e cD "deed" k ["self"] aI):mh e cD "asks" (k+1) ["self"] (fnU 2 1 (gU aI cD)):=
 d.pu ["self","deed"] fun r u n=>aq (qss 1 n (qm0 V.d m0 r (qv 0)))
   (qr (Ad (oV eM k6 (qx u (qv 1) qI) qS (aV _)) (z8 (oV tY Ar (qx u (qf V.d rfl (qv 0)) (qx u (qv 1) qI)) qN (aV _)))))
def uw{eC:Fn}(d:MtD e.K cD.C "hold" "Doing.hold" mz ["self","hand","number"])(m0:hp e "with_at" k ["row","place","value"] eC):mh e cD "hold" (k+1) ["self","hand","number"] (fnU 3 3 (jq eC cD)):=
 d.pu ["self","hand","number"] fun r u n=>aN (qsf V.d rfl (qv 0) (bT m0 r rfl (ae (qf V.d rfl (qv 0)) (ae (qv 1) (ae (qv 2) av)))))
def jX(d:MtD e.K cD.C "part_behind" "Doing.part_behind" gm ["self","left_out"]) :mh e cD "part_behind" (k+1) ["self","left_out"] (fnU 3 2 (dU cD)):=
 d.pu ["self","left_out","part"] fun r u n=>aq (qss 2 n (qf V.d rfl (qv 0)))
   (qr (dz (ae (qx u (qv 2) qI) (ae (f7 fK fJ (f7 fK fJ (qx u (qv 2) qI) qI) (qv 1)) (ae (qx u (qv 2) qI) (ae (qx u (qv 2) qI) av))))))
def lC{bU aZ:Fn}(d:MtD e.K cD.C "go_behind" "Doing.go_behind" iA ["self","left_out"])(m0:hp e "onwards" k ["part"] bU)(m1:mh e cD "part_behind" k ["self","left_out"] aZ):mh e cD "go_behind" (k+1) ["self","left_out"] (fnU 2 2 (eY bU aZ cD)):=
 d.pu ["self","left_out"] fun r u n=>aN (qsf V.d rfl (qv 0) (bT m0 r rfl (ae (qm V.d m1 r (qv 0) (ae (qv 1) av)) av)))
def ux{bI aI bp:Fn}(d:MtD e.K cD.C "hear" "Doing.hear" mB ["self","number"])(m0:mh e cD "hold" k ["self","hand","number"] bI)(m1:mh e cD "deed" k ["self"] aI)(m2:mh e cD "go_behind" k ["self","left_out"] bp):mh e cD "hear" (k+1) ["self","number"] (fnU 2 2 (jr bI aI bp cD)):=
 d.pu ["self","number"] fun r u n=>aq (aW (qm V.d m0 r (qv 0) (ae (qx u (qm0 V.d m1 r (qv 0)) qI) (ae (qv 1) av))))
   (aN (aW (qm V.d m2 r (qv 0) (ae qI av))))
def lD{bU aZ:Fn}(d:MtD e.K cD.C "enter_try" "Doing.enter_try" iB ["self","one","other"])(m0:hp e "onwards" k ["part"] bU)(m1:mh e cD "part_behind" k ["self","left_out"] aZ):mh e cD "enter_try" (k+1) ["self","one","other"] (fnU 5 3 (eZ bU aZ cD)):=
 d.pu ["self","one","other","behind","instead"] fun r u n=>aq (qss 3 n (qm V.d m1 r (qv 0) (ae qI av)))
   (aq (qss 4 n (bT m0 r rfl (ae (dz (ae (qv 2) (ae qI (ae (qv 3) (ae (qx u (qv 3) qI) av))))) av)))
   (aN (qsf V.d rfl (qv 0) (bT m0 r rfl (ae (dz (ae (qv 1) (ae qI (ae (qv 3) (ae (dz (ae (qf V.d rfl (qv 0)) (ae (qf V.d rfl (qv 0)) (ae (qv 4) av)))) av))))) av)))))
def lB(d:MtD e.K cD.C "goes_back" "Doing.goes_back" iq ["self"]) :mh e cD "goes_back" (k+1) ["self"] (fnU 2 1 (dG cD)):=
 d.pu ["self","back"] fun r u n=>aq (qss 1 n (qx u (qf V.d rfl (qv 0)) qI))
   (aq (bD (bb tY Ar (qv 1) qN (aV _)) (qr qB) bw)
   (aq (qsf V.d rfl (qv 0) (qx u (qv 1) qI))
   (aq (qsf V.d rfl (qv 0) (qx u (qv 1) qI))
   (aq (qsf V.d rfl (qv 0) (qx u (qv 1) qI))
   (qr qB)))))
def oC{eC aI dD dE bI bp:Fn}(d:MtD e.K cD.C "do_deed" "Doing.do_deed" je ["self"])(m0:hp e "with_at" k ["row","place","value"] eC)(m1:mh e cD "deed" k ["self"] aI)(m2:mh e cD "goes_back" k ["self"] dD)(m3:mh e cD "enter_try" k ["self","one","other"] dE)(m4:mh e cD "hold" k ["self","hand","number"] bI)(m5:mh e cD "go_behind" k ["self","left_out"] bp):mh e cD "do_deed" (k+1) ["self"] (fnU 4 1 (br eC aI dD dE bI bp cD)):=
 d.pu ["self","deed","word","left_out"] fun r u n=>aq (qss 1 n (qm0 V.d m1 r (qv 0)))
   (aq (qss 2 n (qx u (qv 1) qI))
   (aq (bD (bb eM k6 (qv 2) qS (aV _)) (qr (qm0 V.d m2 r (qv 0))) bw)
   (aq (bD (bb eM k6 (qv 2) qS (aV _)) (aq (aW (qm V.d m3 r (qv 0) (ae (qx u (qv 1) qI) (ae (qx u (qv 1) qI) av))))
   (qr qB)) bw)
   (aq (qss 3 n qI)
   (aq (bD (bb eM k6 (qv 2) qS (aV _)) (aN (aW (qm V.d m4 r (qv 0) (ae (qx u (qv 1) qI) (ae (qx u (qf V.d rfl (qv 0)) (qx u (qv 1) qI)) av))))) (aN (bD (bb eM k6 (qv 2) qS (aV _)) (aN (qsf V.d rfl (qv 0) (bT m0 r rfl (ae (qf V.d rfl (qv 0)) (ae (qx u (qv 1) qI) (ae (qx u (qf V.d rfl (qv 0)) (qx u (qv 1) qI)) av)))))) (aN (bD (bb eM k6 (qv 2) qS (aV _)) (aN (aW (qm V.d m4 r (qv 0) (ae (qx u (qv 1) qI) (ae (qx u (qv 1) qI) av))))) (aN (bD (bb eM k6 (qv 2) qS (aV _)) (aN (aW (qm V.d m4 r (qv 0) (ae (qx u (qv 1) qI) (ae (f7 og vz (f7 fK fJ (qx u (qf V.d rfl (qv 0)) (qx u (qv 1) qI)) (qx u (qf V.d rfl (qv 0)) (qx u (qv 1) qI))) (qf V.d rfl (qv 0))) av))))) (aN (bD (bb eM k6 (qx u (qf V.d rfl (qv 0)) (qx u (qv 1) qI)) qI (aV _)) (aN (qss 3 n (qx u (qv 1) qI))) bw)))))))))
   (aq (aW (qm V.d m5 r (qv 0) (ae (qv 3) av)))
   (qr qB)))))))
def lA(d:MtD e.K cD.C "put_pairs" "Doing.put_pairs" ik ["self"]) :mh e cD "put_pairs" (k+1) ["self"] (fnU 1 1 (eW cD)):=
 d.pu ["self"] fun r u n=>qr (qW (Nc:=["box","number"]) (tn:=["box","number"]) (capN:=[]) (caps:=[]) rfl (zZ rfl V.B.enumerate (qf V.d rfl (qv 0))) (fun _ _ _=>z6 rfl (jv (ba (i:=0) (show(["box","number"]:List Str).Nodup by decide +kernel) rfl (by trivial)) (jv (ba (i:=1) (show(["box","number"]:List Str).Nodup by decide +kernel) rfl (by trivial)) vt))) (fun _ _ _=>bb vA Ap (qv 1) qN (aV _)) (fun _ _ _=>dz (ae (qv 0) (ae (qv 1) av))) rfl rfl ∅ ∅ trivial rfl .nil rfl rfl)
def uu{bU:Fn}(d:MkD e.K e.mg cD.C "Doing" "Doing.__init__" my ["self","world","dealing"])(m0:hp e "onwards" k ["part"] bU):mc e cD "Doing" (k+1) ["self","world","dealing"] (fnU 3 3 (jo bU cD)):=
 d.pu V.d ["self","world","dealing"] fun r u n=>aq (qsf V.d rfl (qv 0) (qx u (qv 1) qI))
   (aq (qsf V.d rfl (qv 0) (dz (ae qI (ae qI (ae qI (ae qI av))))))
   (aq (qsf V.d rfl (qv 0) (f7 Fy Fu (dz (ae qN av)) (qx u (qv 1) qI)))
   (aN (qsf V.d rfl (qv 0) (bT m0 r rfl (ae (dz (ae (qv 2) (ae qI (ae qN (ae qN av))))) av))))))
def rp(d:MkD e.K e.mg cY.C "Trying" "Trying.__init__" ke ["self","dealing"]) :mc e cY "Trying" (k+1) ["self","dealing"] (fnU 2 2 (iN cY)):=
 d.pu V.y ["self","dealing"] fun r u n=>aq (qsf V.y rfl (qv 0) (qv 1))
   (aq (qsf V.y rfl (qv 0) qN)
   (aq (qsf V.y rfl (qv 0) qN)
   (aq (qsf V.y rfl (qv 0) qS)
   (aq (qsf V.y rfl (qv 0) qI)
   (aN (qsf V.y rfl (qv 0) qI))))))
def ui{fU fN:Fn}(d:MkE e.K e.mg cT.C "Tries" "Tries.__init__" mq ["self","world","state","dealings","patience"] [])(m0:mc e cK "Keeper" k ["self","world","state"] fU)(m1:mc e cY "Trying" k ["self","dealing"] fN):mc e cT "Tries" (k+1+1) ["self","world","state","dealings","patience"] (fnU 5 5 (jj fU fN cT cK cY)):=
 d.pu V.t ["self","world","state","dealings","patience"] fun r u n=>aq (qsf V.t rfl (qv 0) (qv 1))
   (aq (qsf V.t rfl (qv 0) (qk m0 r rfl (ae (qv 1) (ae (qv 2) av))))
   (aq (qsf V.t rfl (qv 0) (qv 4))
   (aq (qsf V.t rfl (qv 0) (jK (Nc:=["dealing"]) (tn:=["dealing"]) (capN:=[]) (caps:=[]) rfl (jf (qv 3)) (fun _ _ _=>bS (ba (i:=0) (show(["dealing"]:List Str).Nodup by decide +kernel) rfl (by trivial))) (fun _ _ _=>qk m1 r rfl (ae (qv 0) av)) rfl rfl ∅ ∅ trivial rfl .nil rfl rfl))
   (aq (qsf V.t rfl (qv 0) qI)
   (aN (qsf V.t rfl (qv 0) (gn av)))))))
def mL(d:MtD e.K cT.C "is_first" "Tries.is_first" i4 ["self","i"]) :mh e cT "is_first" (k+1) ["self","i"] (fnU 2 2 (fA cT)):=
 d.pu ["self","i"] fun r u n=>qr (oV (Lq r.units) DJ (OI (qf V.t rfl (qv 0)) vq (vo qI)) (gn (ae (qv 1) av)) (aV _))
def ph{aB:Fn}(d:MtD e.K cT.C "sleeps" "Tries.sleeps" jE ["self","one"])(m0:mh e cK "has_changed" k ["self","a"] aB):mh e cT "sleeps" (k+1) ["self","one"] (fnU 2 2 (ft aB cY cK cT)):=
 d.pu ["self","one"] fun r u n=>qr (Ad (oV eM k6 (qf V.y rfl (qv 1)) qS (aV _)) (z8 (KC (qm V.k m0 r (qf V.t rfl (qv 0)) (ae (qf V.y rfl (qv 1)) av)))))
def lh(d:MtD e.K cT.C "leave_row" "Tries.leave_row" ic ["self","i"]) :mh e cT "leave_row" (k+1) ["self","i"] (fnU 2 2 (eR cT)):=
 d.pu ["self","i"] fun r u n=>aN (qsf V.t rfl (qv 0) (qW (Nc:=["j","i"]) (tn:=["j"]) (capN:=["i"]) (caps:=[1]) rfl (jf (qf V.t rfl (qv 0))) (fun _ _ _=>bS (ba (i:=0) (show(["j","i"]:List Str).Nodup by decide +kernel) rfl (by trivial))) (fun _ _ _=>bb HQ OX (qv 0) (qv 1) (aV _)) (fun _ _ _=>qv 0) rfl rfl ∅ ∅ ⟨rfl,trivial⟩ rfl (.cons ⟨rfl,rfl,rfl,_,rfl⟩ .nil) rfl rfl))
def rD{fk gO:Fn}(d:MtD e.K cT.C "go_in" "Tries.go_in" km ["self","one"])(m0:mh e cK "begin" (k+1) ["self","a"] fk)(m1:mc e cD "Doing" k ["self","world","dealing"] gO):mh e cT "go_in" (k+1+1) ["self","one"] (fnU 2 2 (iP fk gO cT cY cD cK)):=
 d.pu ["self","one"] fun r u n=>aq (qsf V.y rfl (qv 1) (qf V.t rfl (qv 0)))
   (aq (qsf V.y rfl (qv 1) (qk m1 r rfl (ae (qf V.t rfl (qv 0)) (ae (qf V.y rfl (qv 1)) av))))
   (aq (qsf V.y rfl (qv 1) qS)
   (aq (qsf V.t rfl (qv 0) (f7 fK fJ (qf V.t rfl (qv 0)) qI))
   (aq (aW (qm V.k m0 r (qf V.t rfl (qv 0)) (ae (qf V.y rfl (qv 1)) av)))
   (qr qS)))))
def lu{fV bo:Fn}(d:MtD e.K cT.C "go_asleep" "Tries.go_asleep" ig ["self","i"])(m0:mh e cK "fall" k ["self","a"] fV)(m1:mh e cT "leave_row" k ["self","i"] bo):mh e cT "go_asleep" (k+1) ["self","i"] (fnU 3 2 (eV fV bo cT cK cY)):=
 d.pu ["self","i","one"] fun r u n=>aq (qss 2 n (qx u (qf V.t rfl (qv 0)) (qv 1)))
   (aq (aW (qm V.k m0 r (qf V.t rfl (qv 0)) (ae (qf V.y rfl (qv 2)) av)))
   (aq (qsf V.y rfl (qv 2) qS)
   (aq (qsf V.y rfl (qv 2) qI)
   (aq (aW (qm V.t m1 r (qv 0) (ae (qv 1) av)))
   (qr qS)))))
def kL(d:MtD e.K cT.C "go_falling" "Tries.go_falling" gG ["self","i"]) :mh e cT "go_falling" (k+1) ["self","i"] (fnU 3 2 (dg cT cY)):=
 d.pu ["self","i","one"] fun r u n=>aq (qss 2 n (qx u (qf V.t rfl (qv 0)) (qv 1)))
   (aq (qsf V.y rfl (qv 2) qS)
   (aq (qsf V.y rfl (qv 2) (f7 fK fJ (qf V.y rfl (qv 2)) qI))
   (aq (qsf V.y rfl (qv 2) (f7 fK fJ (qf V.y rfl (qv 2)) qI))
   (aq (bD (bb eM k6 (qf V.y rfl (qv 2)) (qf V.t rfl (qv 0)) (aV _)) (aN (aW (bY (qf V.t rfl (qv 0)) (ae (qv 1) av)))) bw)
   (qr qS)))))
def oB{bo:Fn}(d:MtD e.K cT.C "go_done" "Tries.go_done" jd ["self","i"])(m0:mh e cT "leave_row" k ["self","i"] bo):mh e cT "go_done" (k+1) ["self","i"] (fnU 3 2 (gw bo cT cY)):=
 d.pu ["self","i","one"] fun r u n=>aq (qss 2 n (qx u (qf V.t rfl (qv 0)) (qv 1)))
   (aq (qsf V.y rfl (qv 2) qS)
   (aq (aW (qm V.t m0 r (qv 0) (ae (qv 1) av)))
   (qr qS)))
def kK{aI aQ ax fT aU gP:Fn}(d:MtD e.K cT.C "go_looking" "Tries.go_looking" gF ["self","i"])(m0:mh e cD "deed" k ["self"] aI)(m1:mh e cT "is_first" k ["self","i"] aQ)(m2:mh e cK "is_barred" k ["self","a","boxes"] ax)(m3:mh e cK "look" k ["self","a","b"] fT)(m4:mh e cT "go_falling" k ["self","i"] aU)(m5:mh e cD "hear" k ["self","number"] gP):mh e cT "go_looking" (k+1) ["self","i"] (fnU 5 2 (eF aI aQ ax fT aU gP cT cD cY cK)):=
 d.pu ["self","i","one","box","told"] fun r u n=>aq (qss 2 n (qx u (qf V.t rfl (qv 0)) (qv 1)))
   (aq (qss 3 n (qx u (qm0 V.d m0 r (qf V.y rfl (qv 2))) qI))
   (aq (bD (C3 (yi (gK (qm V.t m1 r (qv 0) (ae (qv 1) av))) (ql (gK (qm V.k m2 r (qf V.t rfl (qv 0)) (ae (qf V.y rfl (qv 2)) (ae (gn (ae (qv 3) av)) av))))))) (qr qS) bw)
   (aq (qss 4 n (qm V.k m3 r (qf V.t rfl (qv 0)) (ae (qf V.y rfl (qv 2)) (ae (qv 3) av))))
   (aq (bD (bb eM k6 (qx u (qv 4) qI) qS (aV _)) (qr (qm V.t m4 r (qv 0) (ae (qv 1) av))) bw)
   (aq (aW (qm V.d m5 r (qf V.y rfl (qv 2)) (ae (qx u (qv 4) qI) av)))
   (qr qS))))))
def jy{aQ ax cq:Fn}(d:MtD e.K cT.C "may_not_take" "Tries.may_not_take" fD ["self","i","boxes"])(m0:mh e cT "is_first" k ["self","i"] aQ)(m1:mh e cK "is_barred" k ["self","a","boxes"] ax)(m2:mh e cK "looked_into" k ["self","a"] cq):mh e cT "may_not_take" (k+1) ["self","i","boxes"] (fnU 4 3 (cu aQ ax cq cT cY cK)):=
 d.pu ["self","i","boxes","attempt"] fun r u n=>aq (bD (gK (qm V.t m0 r (qv 0) (ae (qv 1) av))) (aq (qss 3 n (qf V.y rfl (qx u (qf V.t rfl (qv 0)) (qv 1))))
   (qr (qm V.k m1 r (qf V.t rfl (qv 0)) (ae (qv 3) (ae (f7 fK fJ (qm V.k m2 r (qf V.t rfl (qv 0)) (ae (qv 3) av)) (qv 2)) av))))) bw)
   (qr (Ad (oV ym Jk (cU oh oe rfl V.B.len YH (ae (qf V.t rfl (qv 0)) av)) qI (aV _)) (z8 (QQ u (qf V.y rfl (qx u (qf V.t rfl (qv 0)) (qx u (qf V.t rfl (qv 0)) qI))) (dz (ae qS (ae qS av))) (by with_unfolding_all rfl)))))
def lj{bQ bz dX dC aU bc:Fn}(d:MtD e.K cT.C "go_taking" "Tries.go_taking" ie ["self","i"])(m0:mh e cD "put_pairs" k ["self"] bQ)(m1:mh e cT "may_not_take" k ["self","i","boxes"] bz)(m2:mh e cK "put" k ["self","a","b","v"] dX)(m3:mh e cK "take" k ["self","a"] dC)(m4:mh e cT "go_falling" k ["self","i"] aU)(m5:mh e cT "go_done" k ["self","i"] bc):mh e cT "go_taking" (k+1) ["self","i"] (fnU 7 2 (eU bQ bz dX dC aU bc cT cD cY cK)):=
 d.pu ["self","i","one","pairs","box","number","word"] fun r u n=>aq (qss 2 n (qx u (qf V.t rfl (qv 0)) (qv 1)))
   (aq (qss 3 n (qm0 V.d m0 r (qf V.y rfl (qv 2))))
   (aq (bD (C3 (yi (bb ym Jk (cU oh oe rfl V.B.len YH (ae (qv 3) av)) qI (aV _)) (ql (gK (qm V.t m1 r (qv 0) (ae (qv 1) (ae (jK (Nc:=["pair"]) (tn:=["pair"]) (capN:=[]) (caps:=[]) rfl (jf (qv 3)) (fun _ _ _=>bS (ba (i:=0) (show(["pair"]:List Str).Nodup by decide +kernel) rfl (by trivial))) (fun _ _ _=>qx u (qv 0) qI) rfl rfl ∅ ∅ trivial rfl .nil rfl rfl) av))))))) (qr qS) bw)
   (aq (mG PassesOwn.never rfl (jf (qv 3)) (z6 rfl (jv (ba (i:=4) n rfl (by trivial)) (jv (ba (i:=5) n rfl (by trivial)) vt))) (aN (aW (qm V.k m2 r (qf V.t rfl (qv 0)) (ae (qf V.y rfl (qv 2)) (ae (qv 4) (ae (qv 5) av)))))))
   (aq (qss 6 n (qm V.k m3 r (qf V.t rfl (qv 0)) (ae (qf V.y rfl (qv 2)) av)))
   (aq (bD (bb eM k6 (qv 6) qS (aV _)) (qr (qm V.t m4 r (qv 0) (ae (qv 1) av))) bw)
   (aq (bD (bb eM k6 (qv 6) qS (aV _)) (qr (qm V.t m5 r (qv 0) (ae (qv 1) av))) bw)
   (aq (qsf V.y rfl (qv 2) qS)
   (qr qS))))))))
def kJ{fe bc:Fn}(d:MtD e.K cT.C "go_writing" "Tries.go_writing" gE ["self","i"])(m0:mh e cK "write" k ["self","a"] fe)(m1:mh e cT "go_done" k ["self","i"] bc):mh e cT "go_writing" (k+1) ["self","i"] (fnU 2 2 (eE fe bc cK cT cY)):=
 d.pu ["self","i"] fun r u n=>aq (bD (bb eM k6 (qm V.k m0 r (qf V.t rfl (qv 0)) (ae (qf V.y rfl (qx u (qf V.t rfl (qv 0)) (qv 1))) av)) qS (aV _)) (qr (qm V.t m1 r (qv 0) (ae (qv 1) av))) bw)
   (qr qS)
def rC{aI dA gQ cZ eD dB:Fn}(d:MtD e.K cT.C "go_on" "Tries.go_on" kj ["self","i"])(m0:mh e cD "deed" k ["self"] aI)(m1:mh e cT "go_taking" k ["self","i"] dA)(m2:mh e cD "asks" k ["self"] gQ)(m3:mh e cT "go_looking" k ["self","i"] cZ)(m4:mh e cD "do_deed" k ["self"] eD)(m5:mh e cT "go_asleep" k ["self","i"] dB):mh e cT "go_on" (k+1) ["self","i"] (fnU 3 2 (iO aI dA gQ cZ eD dB cY cT cD)):=
 d.pu ["self","i","doing"] fun r u n=>aq (qss 2 n (qf V.y rfl (qx u (qf V.t rfl (qv 0)) (qv 1))))
   (aq (bD (bb tY Ar (qm0 V.d m0 r (qv 2)) qN (aV _)) (qr (qm V.t m1 r (qv 0) (ae (qv 1) av))) bw)
   (aq (bD (gK (qm0 V.d m2 r (qv 2))) (qr (qm V.t m3 r (qv 0) (ae (qv 1) av))) bw)
   (aq (bD (z7 (gK (qm0 V.d m4 r (qv 2)))) (qr (qm V.t m5 r (qv 0) (ae (qv 1) av))) bw)
   (qr qS))))
def yw{bE aQ fQ cX fR:Fn}(d:MtD e.K cT.C "go" "Tries.go" qh ["self","i"])(m0:mh e cT "sleeps" k ["self","one"] bE)(m1:mh e cT "is_first" k ["self","i"] aQ)(m2:mh e cT "go_on" k ["self","i"] fQ)(m3:mh e cT "go_writing" k ["self","i"] cX)(m4:mh e cT "go_in" k ["self","one"] fR):mh e cT "go" (k+1) ["self","i"] (fnU 3 2 (lJ bE aQ fQ cX fR cT cY)):=
 d.pu ["self","i","one"] fun r u n=>aq (qss 2 n (qx u (qf V.t rfl (qv 0)) (qv 1)))
   (aq (bD (bb eM k6 (qf V.y rfl (qv 2)) qS (aV _)) (qr qS) bw)
   (aq (bD (gK (qm V.t m0 r (qv 0) (ae (qv 2) av))) (qr qS) bw)
   (aq (bD (C3 (yi (bb eM k6 (qf V.t rfl (qv 0)) qI (aV _)) (ql (wM u (qv 1) (qf V.t rfl (qv 0)) (by with_unfolding_all rfl))))) (aN (aW (bY (qf V.t rfl (qv 0)) (ae (qv 1) av)))) bw)
   (aq (bD (C3 (yi (C5 u (qv 1) (qf V.t rfl (qv 0)) (by with_unfolding_all rfl)) (ql (z7 (gK (qm V.t m1 r (qv 0) (ae (qv 1) av))))))) (qr qS) bw)
   (aq (bD (bb eM k6 (qf V.y rfl (qv 2)) qS (aV _)) (qr (qm V.t m2 r (qv 0) (ae (qv 1) av))) bw)
   (aq (bD (bb eM k6 (qf V.y rfl (qv 2)) qS (aV _)) (qr (qm V.t m3 r (qv 0) (ae (qv 1) av))) bw)
   (qr (qm V.t m4 r (qv 0) (ae (qv 2) av)))))))))
def vO{gN:Fn}(d:MtD e.K cT.C "log" "Tries.log" nY ["self"])(m0:mh e cK "log" k ["self"] gN):mh e cT "log" (k+1) ["self"] (fnU 1 1 (j4 gN cK cT)):=
 d.pu ["self"] fun r u n=>qr (qm0 V.k m0 r (qf V.t rfl (qv 0)))
def rA{cS:Fn}(d:MtD e.K cT.C "order" "Tries.order" kh ["self"])(m0:mh e cK "order" k ["self"] cS):mh e cT "order" (k+1) ["self"] (fnU 4 1 (fX cS cT cY cK)):=
 d.pu ["self","done","i","one"] fun r u n=>aq (qss 1 n tM)
   (aq (mG PassesOwn.never rfl (zZ rfl V.B.enumerate (qf V.t rfl (qv 0))) (z6 rfl (jv (ba (i:=2) n rfl (by trivial)) (jv (ba (i:=3) n rfl (by trivial)) vt))) (aN (bD (bb eM k6 (qf V.y rfl (qv 3)) qS (aV _)) (aN (fG u (qv 1) (qf V.y rfl (qv 3)) (qv 2))) bw)))
   (qr (qW (Nc:=["a","done"]) (tn:=["a"]) (capN:=["done"]) (caps:=[1]) rfl (jf (qm0 V.k m0 r (qf V.t rfl (qv 0)))) (fun _ _ _=>bS (ba (i:=0) (show(["a","done"]:List Str).Nodup by decide +kernel) rfl (by trivial))) (fun _ _ _=>C5 u (qv 0) (qv 1) (by with_unfolding_all rfl)) (fun _ _ _=>qx u (qv 1) (qv 0)) rfl rfl ∅ ∅ ⟨rfl,trivial⟩ rfl (.cons ⟨rfl,rfl,rfl,_,rfl⟩ .nil) rfl rfl)))
def vN{gM:Fn}(d:MtD e.K cT.C "now" "Tries.now" nX ["self"])(m0:mh e cK "now" k ["self"] gM):mh e cT "now" (k+1) ["self"] (fnU 1 1 (j3 gM cK cT)):=
 d.pu ["self"] fun r u n=>qr (qm0 V.k m0 r (qf V.t rfl (qv 0)))
def rE(d:MtD e.K cT.C "falls" "Tries.falls" kn ["self","i"]) :mh e cT "falls" (k+1) ["self","i"] (fnU 2 2 (iQ cY cT)):=
 d.pu ["self","i"] fun r u n=>qr (qf V.y rfl (qx u (qf V.t rfl (qv 0)) (qv 1)))
def rB(d:MtD e.K cT.C "hands" "Tries.hands" ki ["self","i"]) :mh e cT "hands" (k+1) ["self","i"] (fnU 3 2 (fY cT cY cD)):=
 d.pu ["self","i","one"] fun r u n=>aq (qss 2 n (qx u (qf V.t rfl (qv 0)) (qv 1)))
   (aq (bD (bb eM k6 (qf V.y rfl (qv 2)) qS (aV _)) (qr (qf V.d rfl (qf V.y rfl (qv 2)))) bw)
   (qr qN))
def rq{bE:Fn}(d:MtD e.K cT.C "rests" "Tries.rests" kg ["self"])(m0:mh e cT "sleeps" k ["self","one"] bE):mh e cT "rests" (k+1) ["self"] (fnU 1 1 (fW bE cT cY)):=
 d.pu ["self"] fun r u n=>qr (cU (EA rfl) O1 rfl V.B.all OG.EF (ae (jK (Nc:=["one","self"]) (tn:=["one"]) (capN:=["self"]) (caps:=[0]) rfl (jf (qf V.t rfl (qv 0))) (fun _ _ _=>bS (ba (i:=0) (show(["one","self"]:List Str).Nodup by decide +kernel) rfl (by trivial))) (fun _ _ _=>KA (oV eM k6 (qf V.y rfl (qv 0)) qS (aV _)) (z8 (qm V.t m0 r (qv 1) (ae (qv 0) av)))) rfl rfl ∅ ∅ ⟨rfl,trivial⟩ rfl (.cons ⟨rfl,rfl,rfl,_,rfl⟩ .nil) rfl rfl) av))
def vL(d:Def e.K e.mg "_law_well" nV ["script","k"]) :hp e "_law_well" (k+1) ["script","k"] (fnU 6 2 (iM )):=
 d.pu ["script","k","number","stir","found","turn"] fun r u n=>aq (qss 2 n (f7 fK fJ (f7 kC tR qI (qv 1)) qI))
   (aq (bD (bb Au Lk (qv 1) (cU oh oe rfl V.B.len YH (ae (qv 0) av)) (aV _)) (aN (qss 2 n (qx u (qv 0) (qv 1)))) bw)
   (aq (bD (bb eM k6 (f7 og vz (qv 2) qI) qI (aV _)) (qr (gn (ae (f7 wU Ll (qv 2) qI) av))) bw)
   (aq (qss 3 n (f7 og vz (f7 fK fJ (f7 fK fJ (f7 kC tR (qv 2) qI) (f7 kC tR qI (qv 1))) qI) qI))
   (aq (qss 4 n qI)
   (aq (mG PassesOwn.never rfl (dP rfl V.B.range (ae qI av)) (bS (ba (i:=5) n rfl (by trivial))) (aq (qss 3 n (f7 og vz (f7 fK fJ (f7 fK fJ (f7 fK fJ (f7 kC tR (qv 3) (qv 3)) (f7 kC tR qI (qv 3))) (f7 kC tR qI (qv 5))) qI) qI))
   (aN (qss 4 n (f7 fK fJ (f7 kC tR (qv 4) qI) (qv 3))))))
   (qr (gn (ae (qv 4) av))))))))
theorem yu(d:Def e.K e.mg "_law_sip" qc ["well","many"]) :hp e "_law_sip" (k+1) ["well","many"] (fnU 3 2 (lH )):=
 d.pu ["well","many","digit"] fun r u n=>aq (qss 2 n (f7 og vz (qx u (qv 0) qI) (qv 1)))
   (aq (fG u (qv 0) qI (f7 wU Ll (qx u (qv 0) qI) (qv 1)))
   (qr (qv 2)))
def dS(aE bh:Fn):CS:=
 (aS (cQ 7 (cCB aE (ag (ak 0) (ag (cC (.int 13)) ay))))
  (aS (cQ 8 (cCB aE (ag (ak 0) (ag (cOp fIx (hX (ag (cC (.int 2)) (ag (cC (.int 2)) (ag (cC (.int 4)) ay)))) (cCB aE (ag (ak 0) (ag (cC (.int 3)) ay)))) ay))))
  (aS (cQ 9 (cCB aE (ag (ak 0) (ag (cOp fIx (ak 1) (cC (.int 0))) ay))))
  (aS (dY (aR (cOp fLe (cOp fIx (ak 4) (cC (.int 0))) (cC (.int 0)))) Py bW)
  (aS (js (ak 4) (cC (.int 0)) (cOp IK (cOp IK (cOp fIx (ak 4) (cC (.int 0))) (cC (.int 1))) (cOp pH (cC (.int 2)) (cCB Pj (ag (cOp fEq (ak 7) (cC (.int 12))) ay)))))
  (dY (aR (cOp fLt (ak 7) (cC (.int 4)))) (bR (cBM bK (ak 5) (ag (iU (ag (cC (.str "look")) (ag (ak 8) (ag (ak 9) ay)))) ay))) (dY (aR (cOp fLt (ak 7) (cC (.int 7)))) (bR (cBM bK (ak 5) (ag (iU (ag (cC (.str "put")) (ag (ak 9) (ag (ak 8) ay)))) ay))) (dY (aR (cOp fEq (ak 7) (cC (.int 7)))) (bR (cBM bK (ak 5) (ag (iU (ag (cC (.str "set")) (ag (ak 8) (ag (cCB aE (ag (ak 0) (ag (cOp fIx (ak 1) (cC (.int 1))) ay))) ay)))) ay))) (dY (aR (cOp fEq (ak 7) (cC (.int 8)))) (bR (cBM bK (ak 5) (ag (iU (ag (cC (.str "plus")) (ag (ak 8) (ag (cCB aE (ag (ak 0) (ag (cC (.int 4)) ay))) ay)))) ay))) (dY (aR (cOp fEq (ak 7) (cC (.int 9)))) (bR (cBM bK (ak 5) (ag (iU (ag (cC (.str "leap")) (ag (ak 8) (ag (cOp i8 (cC (.int 1)) (cCB aE (ag (ak 0) (ag (cC (.int 3)) ay)))) ay)))) ay))) (dY (yH (aR (cOp fLt (ak 7) (cC (.int 12)))) (aR (cOp fGt (ak 3) (cC (.int 0))))) (aS (cQ 10 (cCB bh (ag (ak 0) (ag (ak 1) (ag (cC (.int 3)) (ag (cOp IK (ak 3) (cC (.int 1))) (ag (ak 4) ay)))))))
  (bR (cBM bK (ak 5) (ag (iU (ag (cC (.str "try")) (ag (ak 10) (ag (cCB bh (ag (ak 0) (ag (ak 1) (ag (cC (.int 3)) (ag (cOp IK (ak 3) (cC (.int 1))) (ag (ak 4) ay)))))) ay)))) ay)))) (dY (aR (cOp fLt (ak 7) (cC (.int 12)))) (bR (cBM bK (ak 5) (ag (iU (ag (cC (.str "put")) (ag (ak 9) (ag (ak 8) ay)))) ay))) (dY (aR (cOp fEq (cCB aE (ag (ak 0) (ag (cC (.int 6)) ay))) (cC (.int 0)))) (bR (cBM bK (ak 5) (ag (iU (ag (cC (.str "wait")) ay)) ay))) (bR (cBM lF (ak 5) (ag (hX (ag (iU (ag (cC (.str "look")) (ag (cOp uC (cOp i8 (ak 8) (cC (.int 1))) (cC (.int 4))) (ag (ak 9) ay)))) (ag (iU (ag (cC (.str "leap")) (ag (cOp uC (cOp i8 (ak 8) (cC (.int 1))) (cC (.int 4))) (ag (cC (.int 1)) ay)))) (ag (iU (ag (cC (.str "wait")) ay)) ay)))) ay))))))))))))))))
def gY(aE bh:Fn):CS:=
 (aS (cQ 5 (hX ay))
  (aS (oP (bA (ag (cCB aE (ag (ak 0) (ag (cOp i8 (ak 2) (cC (.int 1))) ay))) ay)) (gNm 6) (dS aE bh))
  (b7 (cCB mH (ag (ak 5) ay)))))
def fc{aE bh:Fn}(d:Def e.K e.mg "_law_dealing" jD ["well","world","most","deep","purse"])(m0:hp e "_law_sip" k ["well","many"] aE)(m1:hp e "_law_dealing" k ["well","world","most","deep","purse"] bh):hp e "_law_dealing" (k+1) ["well","world","most","deep","purse"] (fnU 11 5 (gY aE bh)):=
 d.pu ["well","world","most","deep","purse","found","k","way","h","box","one"] fun r u n=>aq (qss 5 n (gn av))
   (aq (mG PassesOwn.never rfl (dP rfl V.B.range (ae (bT m0 r rfl (ae (qv 0) (ae (f7 fK fJ (qv 2) qI) av))) av)) (bS (ba (i:=6) n rfl (by trivial))) (aq (qss 7 n (bT m0 r rfl (ae (qv 0) (ae qI av))))
   (aq (qss 8 n (bT m0 r rfl (ae (qv 0) (ae (qx u (gn (ae qI (ae qI (ae qI av)))) (bT m0 r rfl (ae (qv 0) (ae qI av)))) av))))
   (aq (qss 9 n (bT m0 r rfl (ae (qv 0) (ae (qx u (qv 1) qI) av))))
   (aq (bD (bb Lo P9 (qx u (qv 4) qI) qI (aV _)) (aN C2) bw)
   (aq (fG u (qv 4) qI (f7 tV An (f7 tV An (qx u (qv 4) qI) qI) (f7 kC tR qI (iG BH O0 rfl V.B.int OG.EE (ae (oV eM k6 (qv 7) qI (aV _)) av)))))
   (aN (bD (bb Au Lk (qv 7) qI (aV _)) (aN (aW (bY (qv 5) (ae (dz (ae qS (ae (qv 8) (ae (qv 9) av)))) av)))) (aN (bD (bb Au Lk (qv 7) qI (aV _)) (aN (aW (bY (qv 5) (ae (dz (ae qS (ae (qv 9) (ae (qv 8) av)))) av)))) (aN (bD (bb eM k6 (qv 7) qI (aV _)) (aN (aW (bY (qv 5) (ae (dz (ae qS (ae (qv 8) (ae (bT m0 r rfl (ae (qv 0) (ae (qx u (qv 1) qI) av))) av)))) av)))) (aN (bD (bb eM k6 (qv 7) qI (aV _)) (aN (aW (bY (qv 5) (ae (dz (ae qS (ae (qv 8) (ae (bT m0 r rfl (ae (qv 0) (ae qI av))) av)))) av)))) (aN (bD (bb eM k6 (qv 7) qI (aV _)) (aN (aW (bY (qv 5) (ae (dz (ae qS (ae (qv 8) (ae (f7 fK fJ qI (bT m0 r rfl (ae (qv 0) (ae qI av)))) av)))) av)))) (aN (bD (C3 (yi (bb Au Lk (qv 7) qI (aV _)) (ql (bb ym Jk (qv 3) qI (aV _))))) (aq (qss 10 n (bT m1 r rfl (ae (qv 0) (ae (qv 1) (ae qI (ae (f7 tV An (qv 3) qI) (ae (qv 4) av)))))))
   (aN (aW (bY (qv 5) (ae (dz (ae qS (ae (qv 10) (ae (bT m1 r rfl (ae (qv 0) (ae (qv 1) (ae qI (ae (f7 tV An (qv 3) qI) (ae (qv 4) av)))))) av)))) av))))) (aN (bD (bb Au Lk (qv 7) qI (aV _)) (aN (aW (bY (qv 5) (ae (dz (ae qS (ae (qv 9) (ae (qv 8) av)))) av)))) (aN (bD (bb eM k6 (bT m0 r rfl (ae (qv 0) (ae qI av))) qI (aV _)) (aN (aW (bY (qv 5) (ae (dz (ae qS av)) av)))) (aN (aW (C6 (qv 5) (ae (gn (ae (dz (ae qS (ae (f7 og vz (f7 fK fJ (qv 8) qI) qI) (ae (qv 9) av)))) (ae (dz (ae qS (ae (f7 og vz (f7 fK fJ (qv 8) qI) qI) (ae qI av)))) (ae (dz (ae qS av)) av)))) av))))))))))))))))))))))))))
   (qr (iG iL vx rfl V.B.tuple OG.lL (ae (qv 5) av))))
def j1(aE bh:Fn):CS:=
 (aS (cQ 2 (cOp i8 (cC (.int 1)) (cCB aE (ag (ak 0) (ag (cC (.int 3)) ay)))))
  (aS (cQ 3 (iU (ag (ak 2) (ag (cOp fIx (hX (ag (cC (.int 2)) (ag (cC (.int 3)) (ag (cC (.int 5)) (ag (cC (.int 1000)) ay))))) (cCB aE (ag (ak 0) (ag (cC (.int 4)) ay)))) ay))))
  (aS (cQ 4 (cCB mH (ag (bX (bA (ag (ak 2) ay)) (gNm 0) (cCB aE (ag (ak 1) (ag (cOp fIx (ak 2) (cC (.int 1))) ay))) 1 [0,3]) ay)))
  (aS (cQ 5 (cOp i8 (cC (.int 2)) (cCB aE (ag (ak 0) (ag (cOp IK (ak 1) (cC (.int 1))) ay)))))
  (b7 (iU (ag (ak 3) (ag (ak 4) (ag (bX (bA (ag (ak 5) ay)) (gNm 0) (cCB bh (ag (ak 1) (ag (ak 2) (ag (cC (.int 4)) (ag (cOp fIx (hX (ag (cC (.int 2)) (ag (cC (.int 2)) (ag (cC (.int 3)) ay)))) (cCB aE (ag (ak 1) (ag (cC (.int 3)) ay)))) (ag (hX (ag (cC (.int 12)) ay)) ay)))))) 1 [0,3]) ay)))))))))
def vM{aE bh:Fn}(d:Def e.K e.mg "_law_some" nW ["well","most"])(m0:hp e "_law_sip" k ["well","many"] aE)(m1:hp e "_law_dealing" k ["well","world","most","deep","purse"] bh):hp e "_law_some" (k+1) ["well","most"] (fnU 6 2 (j1 aE bh)):=
 d.pu ["well","most","n","world","state","many"] fun r u n=>aq (qss 2 n (f7 fK fJ qI (bT m0 r rfl (ae (qv 0) (ae qI av)))))
   (aq (qss 3 n (dz (ae (qv 2) (ae (qx u (gn (ae qI (ae qI (ae qI (ae qI av))))) (bT m0 r rfl (ae (qv 0) (ae qI av)))) av))))
   (aq (qss 4 n (iG iL vx rfl V.B.tuple OG.lL (ae (jK (Nc:=["box","well","world"]) (tn:=["box"]) (capN:=["well","world"]) (caps:=[0,3]) rfl (dP rfl V.B.range (ae (qv 2) av)) (fun _ _ _=>bS (ba (i:=0) (show(["box","well","world"]:List Str).Nodup by decide +kernel) rfl (by trivial))) (fun _ _ _=>bT m0 r rfl (ae (qv 1) (ae (qx u (qv 2) qI) av))) rfl rfl ∅ ∅ ⟨rfl,rfl,trivial⟩ rfl (.cons ⟨rfl,rfl,rfl,_,rfl⟩ (.cons ⟨rfl,rfl,rfl,_,rfl⟩ .nil)) rfl rfl) av)))
   (aq (qss 5 n (f7 fK fJ qI (bT m0 r rfl (ae (qv 0) (ae (f7 tV An (qv 1) qI) av)))))
   (qr (dz (ae (qv 3) (ae (qv 4) (ae (jK (Nc:=["k","well","world"]) (tn:=["k"]) (capN:=["well","world"]) (caps:=[0,3]) rfl (dP rfl V.B.range (ae (qv 5) av)) (fun _ _ _=>bS (ba (i:=0) (show(["k","well","world"]:List Str).Nodup by decide +kernel) rfl (by trivial))) (fun _ _ _=>bT m1 r rfl (ae (qv 1) (ae (qv 2) (ae qI (ae (qx u (gn (ae qI (ae qI (ae qI av)))) (bT m0 r rfl (ae (qv 1) (ae qI av)))) (ae (gn (ae qI av)) av)))))) rfl rfl ∅ ∅ ⟨rfl,rfl,trivial⟩ rfl (.cons ⟨rfl,rfl,rfl,_,rfl⟩ (.cons ⟨rfl,rfl,rfl,_,rfl⟩ .nil)) rfl rfl) av))))))))
def lI(fP fS fO iJ aY bu:Fn)(cTries:Cl):CS:=
 (aS (cQ 2 (bX (bA (ag (ak 1) ay)) (gNm 0) (iU (ag (aL cTries fS (ak 1) (ag (ak 0) ay)) (ag (aL cTries fP (ak 1) (ag (ak 0) ay)) ay))) 1 [0]))
  (b7 (iU (ag (aL cTries bu (ak 0) ay) (ag (aL cTries aY (ak 0) ay) (ag (aL cTries iJ (ak 0) ay) (ag (ak 2) (ag (aL cTries fO (ak 0) ay) ay))))))))
def yv{fP fS fO iJ aY bu:Fn}(d:Def e.K e.mg "_law_all" qe ["tries","many"])(m0:mh e cT "hands" k ["self","i"] fP)(m1:mh e cT "falls" k ["self","i"] fS)(m2:mh e cT "rests" k ["self"] fO)(m3:mh e cT "now" k ["self"] iJ)(m4:mh e cT "order" k ["self"] aY)(m5:mh e cT "log" k ["self"] bu):hp e "_law_all" (k+1) ["tries","many"] (fnU 3 2 (lI fP fS fO iJ aY bu cT)):=
 d.pu ["tries","many","own"] fun r u n=>aq (qj (Nc:=["i","tries"]) (tn:=["i"]) (capN:=["tries"]) (caps:=[0]) rfl (dP rfl V.B.range (ae (qv 1) av)) (fun _ _ _=>bS (ba (i:=0) (show(["i","tries"]:List Str).Nodup by decide +kernel) rfl (by trivial))) (fun _ _ _=>dz (ae (qm V.t m1 r (qv 1) (ae (qv 0) av)) (ae (qm V.t m0 r (qv 1) (ae (qv 0) av)) av))) rfl rfl ∅ ∅ ⟨rfl,trivial⟩ rfl (.cons ⟨rfl,rfl,rfl,_,rfl⟩ .nil) rfl rfl n rfl rfl rfl)
   (qr (dz (ae (qm0 V.t m5 r (qv 0)) (ae (qm0 V.t m4 r (qv 0)) (ae (qm0 V.t m3 r (qv 0)) (ae (qv 2) (ae (qm0 V.t m2 r (qv 0)) av)))))))
omit V in
def Fj:cP ["script","k","well","some","patience","handed","both","steps","words","turn","j","i","third","many"] ["script"] (aA Hg):=⟨rfl,rfl,rfl,∅,rfl,∅,∅⟩
def rZ(b8 bV aE cG cH bu aY bH:Fn)(cTries:Cl):CS:=
 (aS (cQ 10 (cCB aE (ag (ak 2) (ag (cC (.int 2)) ay))))
  (aS (cQ 11 (cCB aE (ag (ak 2) (ag (cCB jC (ag (cOp fIx (cOp fIx (ak 3) (ak 10)) (cC (.int 2))) ay)) ay))))
  (aS (bR (cBM bK (cOp fIx (ak 7) (ak 10)) (ag (ak 11) ay)))
  (aS (bR (cBM bK (cOp fIx (ak 8) (ak 10)) (ag (aL cTries cH (cOp fIx (ak 6) (ak 10)) (ag (ak 11) ay)) ay)))
  (aS (bR (cBM jL (aL cTries bu (cOp fIx (ak 6) (ak 10)) ay) ay))
  (bR (cBM bK (aL cTries aY (cOp fIx (ak 6) (ak 10)) ay) (ag (cC (.int 0)) ay))))))))
def vZ(b8 bV aE cG cH bu aY bH:Fn)(cTries:Cl):CS:=
 (aS (cQ 12 (cCB (iD cTries bH) (ag (cOp fIx (cOp fIx (ak 3) (ak 10)) (cC (.int 0))) (ag (cOp fIx (cOp fIx (ak 3) (ak 10)) (cC (.int 1))) (ag (cOp fIx (cOp fIx (ak 3) (ak 10)) (cC (.int 2))) (ag (cOp fIx (ak 4) (ak 10)) ay))))))
  (aS (cQ 13 (cCB jC (ag (cOp fIx (cOp fIx (ak 3) (ak 10)) (cC (.int 2))) ay)))
  (dY (cOr (aR (cOp (xv true) (bX (iTp (cOp fIx (ak 7) (ak 10))) (gNm 0) (aL cTries cH (ak 1) (ag (ak 0) ay)) 1 [12]) (cOp fIx (ak 8) (ak 10)))) (aR (cOp (xv true) (cCB cG (ag (ak 12) (ag (ak 13) ay))) (cCB cG (ag (cOp fIx (ak 6) (ak 10)) (ag (ak 13) ay)))))) (b7 (cC (.bl false))) bW)))
def rY(b8 bV aE cG cH bu aY bH:Fn)(cTries:Cl):CS:=
 (aS (cQ 2 (cCB b8 (ag (ak 0) (ag (ak 1) ay))))
  (aS (cQ 3 (hX (ag (cCB bV (ag (ak 2) (ag (cC (.int 4)) ay))) (ag (cCB bV (ag (ak 2) (ag (cC (.int 4)) ay))) ay))))
  (aS (cQ 4 (bX (bA (ag (cC (.int 2)) ay)) (gNm 0) (cOp fIx (hX (ag (cC .non) (ag (cC .non) (ag (cC (.int 0)) (ag (cC (.int 1)) (ag (cC (.int 2)) ay)))))) (cCB aE (ag (ak 1) (ag (cC (.int 5)) ay)))) 1 [2]))
  (aS (cQ 5 (bX (iTp (ak 3)) (gNm 0) (cCB oG (ag (cOp fIx (ak 0) (cC (.int 2))) ay)) 1 []))
  (aS (cQ 6 (bX (bA (ag (cC (.int 2)) ay)) (gNm 0) (cCB (iD cTries bH) (ag (cOp fIx (cOp fIx (ak 3) (ak 0)) (cC (.int 0))) (ag (cOp fIx (cOp fIx (ak 3) (ak 0)) (cC (.int 1))) (ag (cOp fIx (ak 1) (ak 0)) (ag (cOp fIx (ak 2) (ak 0)) ay))))) 1 [5,4,3]))
  (aS (dY (aR (cOp (xv true) (ak 5) (bX (iTp (ak 3)) (gNm 0) (cOp fIx (ak 0) (cC (.int 2))) 1 []))) (b7 (cC (.bl false))) bW)
  (aS (bR (cBM jL (cOp fIx (ak 5) (cC (.int 0))) ay))
  (aS (bR (cBM bK (cOp fIx (ak 5) (cC (.int 1))) (ag (iU ay) ay)))
  (aS (cQ 7 (hX (ag (hX ay) (ag (hX ay) ay))))
  (aS (cQ 8 (hX (ag (hX ay) (ag (hX ay) ay))))
  (aS (oP (bA (ag (cC (.int 50)) ay)) (gNm 9) (rZ b8 bV aE cG cH bu aY bH cTries))
  (oP (bA (ag (cC (.int 2)) ay)) (gNm 10) (vZ b8 bV aE cG cH bu aY bH cTries)))))))))))))
def IX(b8 bV aE cG cH bu aY bH:Fn)(cTries:Cl):CS:=
 (aS (oP (bA (ag (cCB Jp (ag (cC (.int 2)) (ag (cCB Jo (ag (cC (.int 3)) (ag (cCB jC (ag (ak 0) ay)) ay))) ay))) ay)) (gNm 1) (rY b8 bV aE cG cH bu aY bH cTries))
  (b7 (cC (.bl true))))
omit V in
def Ph{k:Nat}{b8 bV aE cG cH bu aY bH:Fn}{cTries:Cl}{fa pO:Addr}{fd:XE}(F:Fun K "law" "law" Hg fa fd)(B:Blt mg)(TTries:TC K cTries ["world","keeper","patience","ones","begun","row"])(wg:yR P w K mg base "_law_well" (k+1) ["script","k"] b8)(oU:yR P w K mg base "_law_some" (k+1) ["well","most"] bV)(lP:yR P w K mg base "_law_sip" (k+1) ["well","many"] aE)(qJ:yR P w K mg base "_law_all" (k+1) ["tries","many"] cG)(M_Tries_go:sL P w K mg base cTries "go" (k+1) ["self","i"] cH)(M_Tries_log:sL P w K mg base cTries "log" (k+1) ["self"] bu)(M_Tries_order:sL P w K mg base cTries "order" (k+1) ["self"] aY)(M_Tries:CMk P w K mg base cTries "Tries" k ["self","world","state","dealings","patience"] bH)
  (ok:∀(ns:List Int),ns.length<=63->∃ρ' S',IX b8 bV aE cG cH bu aY bH cTries [some (.kl ns),none,none,none,none,none,none,none,none,none,none,none,none,none] [zOf pO]=some (.rt (.bl true),ρ',S')):lQ P w K mg base CX0 (k+1+1) fa fd ["script"] (wL pO K):=by
 refine Fun.okW F Fj (fun vs H Q E h=>(by obtain⟨a,ns,rfl,_⟩:=h;rfl)) fun cdv A outer s H vs Q E hr h=>?_;obtain⟨a,ns,rfl,hS,hlen,hpO,q⟩:=h;have hu:=yt hr;have nd:=Fj.nd;exact⟨_,(aq (mG PassesOwn.never rfl (dP rfl B.range (ae (cU (BF rfl) OZ rfl B.max OG.ED (ae qI (ae (cU (BE rfl) OY rfl B.min OG.EC (ae qI (ae (cU oh oe rfl B.len YH (ae (qv 0) av)) av))) av))) av)) (bS (ba (i:=1) nd rfl (by trivial))) (aq (qss 2 nd (bT wg hr rfl (ae (qv 0) (ae (qv 1) av))))
   (aq (qss 3 nd (gn (ae (bT oU hr rfl (ae (qv 2) (ae qI av))) (ae (bT oU hr rfl (ae (qv 2) (ae qI av))) av))))
   (aq (qss 4 nd (jK (Nc:=["j","well"]) (tn:=["j"]) (capN:=["well"]) (caps:=[2]) rfl (dP rfl B.range (ae qI av)) (fun _ _ _=>bS (ba (i:=0) (show(["j","well"]:List Str).Nodup by decide +kernel) rfl (by trivial))) (fun _ _ _=>qx hu (gn (ae qN (ae qN (ae qI (ae qI (ae qI av)))))) (bT lP hr rfl (ae (qv 1) (ae qI av)))) rfl rfl ∅ ∅ ⟨rfl,trivial⟩ rfl (.cons ⟨rfl,rfl,rfl,_,rfl⟩ .nil) rfl rfl))
   (aq (qss 5 nd (jK (Nc:=["one"]) (tn:=["one"]) (capN:=[]) (caps:=[]) rfl (jf (qv 3)) (fun _ _ _=>bS (ba (i:=0) (show(["one"]:List Str).Nodup by decide +kernel) rfl (by trivial))) (fun _ _ _=>iG ji Aq rfl B.list OG.oQ (ae (qx hu (qv 0) qI) av)) rfl rfl ∅ ∅ trivial rfl .nil rfl rfl))
   (aq (qj (Nc:=["j","handed","patience","some"]) (tn:=["j"]) (capN:=["handed","patience","some"]) (caps:=[5,4,3]) rfl (dP rfl B.range (ae qI av)) (fun _ _ _=>bS (ba (i:=0) (show(["j","handed","patience","some"]:List Str).Nodup by decide +kernel) rfl (by trivial))) (fun _ _ _=>qk M_Tries hr rfl (ae (qx hu (qx hu (qv 3) (qv 0)) qI) (ae (qx hu (qx hu (qv 3) (qv 0)) qI) (ae (qx hu (qv 1) (qv 0)) (ae (qx hu (qv 2) (qv 0)) av))))) rfl rfl ∅ ∅ ⟨rfl,rfl,rfl,trivial⟩ rfl (.cons ⟨rfl,rfl,rfl,_,rfl⟩ (.cons ⟨rfl,rfl,rfl,_,rfl⟩ (.cons ⟨rfl,rfl,rfl,_,rfl⟩ .nil))) rfl rfl nd rfl rfl rfl)
   (aq (bD (bb (As hr.units) DJ (qv 5) (jK (Nc:=["one"]) (tn:=["one"]) (capN:=[]) (caps:=[]) rfl (jf (qv 3)) (fun _ _ _=>bS (ba (i:=0) (show(["one"]:List Str).Nodup by decide +kernel) rfl (by trivial))) (fun _ _ _=>qx hu (qv 0) qI) rfl rfl ∅ ∅ trivial rfl .nil rfl rfl) (aV _)) (aN (tL qB)) bw)
   (aq (aW (Ab (qx hu (qv 5) qI)))
   (aq (aW (bY (qx hu (qv 5) qI) (ae (dz av) av)))
   (aq (qss 7 nd (gn (ae (gn av) (ae (gn av) av))))
   (aq (qss 8 nd (gn (ae (gn av) (ae (gn av) av))))
   (aq (mG PassesOwn.never rfl (dP rfl B.range (ae qI av)) (bS (ba (i:=9) nd rfl (by trivial))) (aq (qss 10 nd (bT lP hr rfl (ae (qv 2) (ae qI av))))
   (aq (qss 11 nd (bT lP hr rfl (ae (qv 2) (ae (cU oh oe rfl B.len YH (ae (qx hu (qx hu (qv 3) (qv 10)) qI) av)) av))))
   (aq (aW (bY (qx hu (qv 7) (qv 10)) (ae (qv 11) av)))
   (aq (aW (bY (qx hu (qv 8) (qv 10)) (ae (qm TTries M_Tries_go hr (qx hu (qv 6) (qv 10)) (ae (qv 11) av)) av)))
   (aq (aW (Ab (qm0 TTries M_Tries_log hr (qx hu (qv 6) (qv 10)))))
   (aN (aW (bY (qm0 TTries M_Tries_order hr (qx hu (qv 6) (qv 10))) (ae qI av))))))))))
   (aN (mG PassesOwn.never rfl (dP rfl B.range (ae qI av)) (bS (ba (i:=10) nd rfl (by trivial))) (aq (qss 12 nd (qk M_Tries hr rfl (ae (qx hu (qx hu (qv 3) (qv 10)) qI) (ae (qx hu (qx hu (qv 3) (qv 10)) qI) (ae (qx hu (qx hu (qv 3) (qv 10)) qI) (ae (qx hu (qv 4) (qv 10)) av))))))
   (aq (qss 13 nd (cU oh oe rfl B.len YH (ae (qx hu (qx hu (qv 3) (qv 10)) qI) av)))
   (aN (bD (C3 (Nd (bb (As hr.units) DJ (jK (Nc:=["i","third"]) (tn:=["i"]) (capN:=["third"]) (caps:=[12]) rfl (jf (qx hu (qv 7) (qv 10))) (fun _ _ _=>bS (ba (i:=0) (show(["i","third"]:List Str).Nodup by decide +kernel) rfl (by trivial))) (fun _ _ _=>qm TTries M_Tries_go hr (qv 1) (ae (qv 0) av)) rfl rfl ∅ ∅ ⟨rfl,trivial⟩ rfl (.cons ⟨rfl,rfl,rfl,_,rfl⟩ .nil) rfl rfl) (qx hu (qv 8) (qv 10)) (aV _)) (Hm (bb (As hr.units) DJ (bT qJ hr rfl (ae (qv 12) (ae (qv 13) av))) (bT qJ hr rfl (ae (qx hu (qv 6) (qv 10)) (ae (qv 13) av))) (aV _))))) (aN (tL qB)) bw))))))))))))))))))
   (aN (tL qB))),DX hS hpO (ok ns hlen) q⟩
end
end OL
local macro_rules
 | `(tactic| rwa $s:rwRuleSeq) => do
  let ts : Array (Lean.TSyntax `term) := s.raw[1].getSepArgs.map fun r => ⟨r[1]⟩
  let us : Array (Lean.TSyntax `term) := (("sO lR x_c Jh xY xX wm qL JW E1 EZ Qy NN NM NO JG JV Gu Gs NL JE JD JF Gi sP lS jR jQ Nz Jx JH EV Gr x4 EU xW wo JB JA EY yX Gg JC x3 wx wt yU yT N9 N7 JY JX Qw NG NF ND NC NW JM JN NY NB Jy Jz JJ JK JL JI Gv NA NU Qz N8 QB Of NQ Oe NP Og NR Oc Oa at0 at1 at2 at3 ix0 ix1 ix2 Option.bind_some List.getElem?_cons_zero List.getElem?_cons_succ YO List.set_cons_succ List.length_cons List.length_nil List.map_cons List.map_nil decide_true decide_false Bool.not_true Bool.not_false Gp wz wy Qx NJ NI NH yW va u9 u6 Gj JP N0 NV PM JU JT JS Ot QC Oq Oo Om Ol Oh JQ Ju Jv Jw Gk Gm Gn JO ga ga0 gs gs0 YN Nat.add_zero List.cons_append List.nil_append List.append_assoc" : String).splitOn " ").toArray.map fun x => ⟨(Lean.mkIdent ((x.splitOn ".").foldl Lean.Name.str Lean.Name.anonymous)).raw⟩
  let vs:=ts++us
  `(tactic| simp only [$[$vs:term],*])
namespace OQ
open PySem PySem.Spec PyProof.Rows L2 OG OP
def l9{m:Int}(h0:0<=m)(h:m<2^60):m.natAbs.log2<9000:=AF h0 h
inductive k7 where
 |look (h b:Int)|put (b h:Int)|set (h v:Int)|plus (h g:Int)|leap (h k:Int)|wait
def k7.u:k7->U
 |.look h b=>.tup [.str "look",.int h,.int b]
 |.put b h=>.tup [.str "put",.int b,.int h]
 |.set h v=>.tup [.str "set",.int h,.int v]
 |.plus h g=>.tup [.str "plus",.int h,.int g]
 |.leap h k=>.tup [.str "leap",.int h,.int k]
 |.wait=>.tup [.str "wait"]
def k7.ok(n w:Int):k7->Prop
 |.look h b=>0<=h/\h<4/\0<=b/\b<n
 |.put b h=>0<=h/\h<4/\0<=b/\b<n
 |.set h v=>0<=h/\h<4/\0<=v/\v<w
 |.plus h g=>0<=h/\h<4/\0<=g/\g<4
 |.leap h k=>0<=h/\h<4/\1<=k/\k<=12
 |.wait=>True
def lV:decide (("wait":Str)="leap")=false:=∅
def ni:decide (("wait":Str)="try")=false:=∅
def lU:decide (("wait":Str)="look")=false:=∅
def nq:decide (("wait":Str)="put")=false:=∅
def nj:decide (("wait":Str)="set")=false:=∅
def lT:decide (("wait":Str)="plus")=false:=∅
def mi:decide (("leap":Str)="wait")=false:=∅
def nQ:decide (("leap":Str)="try")=false:=∅
def ml:decide (("leap":Str)="look")=false:=∅
def nS:decide (("leap":Str)="put")=false:=∅
def nR:decide (("leap":Str)="set")=false:=∅
def mj:decide (("leap":Str)="plus")=false:=∅
def nv:decide (("try":Str)="wait")=false:=∅
def nA:decide (("try":Str)="leap")=false:=∅
def nz:decide (("try":Str)="look")=false:=∅
def pX:decide (("try":Str)="put")=false:=∅
def pW:decide (("try":Str)="set")=false:=∅
def ny:decide (("try":Str)="plus")=false:=∅
def l8:decide (("look":Str)="wait")=false:=∅
def mf:decide (("look":Str)="leap")=false:=∅
def nM:decide (("look":Str)="try")=false:=∅
def nO:decide (("look":Str)="put")=false:=∅
def nN:decide (("look":Str)="set")=false:=∅
def me:decide (("look":Str)="plus")=false:=∅
def nF:decide (("put":Str)="wait")=false:=∅
def nI:decide (("put":Str)="leap")=false:=∅
def p4:decide (("put":Str)="try")=false:=∅
def nH:decide (("put":Str)="look")=false:=∅
def p5:decide (("put":Str)="set")=false:=∅
def nG:decide (("put":Str)="plus")=false:=∅
def nB:decide (("set":Str)="wait")=false:=∅
def nE:decide (("set":Str)="leap")=false:=∅
def pY:decide (("set":Str)="try")=false:=∅
def nD:decide (("set":Str)="look")=false:=∅
def pZ:decide (("set":Str)="put")=false:=∅
def nC:decide (("set":Str)="plus")=false:=∅
def lW:decide (("plus":Str)="wait")=false:=∅
def lZ:decide (("plus":Str)="leap")=false:=∅
def nJ:decide (("plus":Str)="try")=false:=∅
def lY:decide (("plus":Str)="look")=false:=∅
def nL:decide (("plus":Str)="put")=false:=∅
def nK:decide (("plus":Str)="set")=false:=∅
def SNX:type_of% @lV/\type_of% @ni/\type_of% @lU/\type_of% @nq/\type_of% @nj/\type_of% @lT/\type_of% @mi/\type_of% @nQ/\type_of% @ml/\type_of% @nS/\type_of% @nR/\type_of% @mj/\type_of% @nv/\type_of% @nA/\type_of% @nz/\type_of% @pX/\type_of% @pW/\type_of% @ny/\type_of% @l8/\type_of% @mf/\type_of% @nM/\type_of% @nO/\type_of% @nN/\type_of% @me/\type_of% @nF/\type_of% @nI/\type_of% @p4/\type_of% @nH/\type_of% @p5/\type_of% @nG/\type_of% @nB/\type_of% @nE/\type_of% @pY/\type_of% @nD/\type_of% @pZ/\type_of% @nC/\type_of% @lW/\type_of% @lZ/\type_of% @nJ/\type_of% @lY/\type_of% @nL/\type_of% @nK:=⟨@lV,@ni,@lU,@nq,@nj,@lT,@mi,@nQ,@ml,@nS,@nR,@mj,@nv,@nA,@nz,@pX,@pW,@ny,@l8,@mf,@nM,@nO,@nN,@me,@nF,@nI,@p4,@nH,@p5,@nG,@nB,@nE,@pY,@nD,@pZ,@nC,@lW,@lZ,@nJ,@lY,@nL,@nK⟩
structure M where
 hs:List Int
 ps:List (Int×Int)
 lk:List Int
noncomputable def pL(lk:List Int)(b:Int):List Int:=if b∈lk then lk else lk++[b]
def LK(first:List Int)(m:M)(b:Int):Int:=(bF m.ps b).getD (first.getD b.toNat 0)
def step(w:Int)(first:List Int)(m:M):k7->M
 |.look h b=>⟨m.hs.set h.toNat (LK first m b),m.ps,if (bF m.ps b).isSome then m.lk else pL m.lk b⟩
 |.put b h=>⟨m.hs,gB m.ps b (m.hs.getD h.toNat 0),m.lk⟩
 |.set h v=>⟨m.hs.set h.toNat v,m.ps,m.lk⟩
 |.plus h g=>⟨m.hs.set h.toNat ((m.hs.getD h.toNat 0+m.hs.getD g.toNat 0) % w),m.ps,m.lk⟩
 |.leap _ _=>m
 |.wait=>m
def IQ(lk:List Int):List (Key×U):=lk.map fun b=>(.inl b,.bl true)
def C8(b:Int)(lk:List Int):gB (IQ lk) (.inl b) (.bl true)=IQ (pL lk b):=by
 have ha:((IQ lk).any fun kv=>decide (kv.1=Sum.inl b))=decide (b∈lk):=by
  unfold IQ;induction lk with
  |nil=>rfl
  |cons k r ih=>
   simp only[ZK,XN,ih];by_cases e:k=b;subst e;simp;rw[Xa (fun z:(Sum.inl k:Key)=Sum.inl b=>e (Sum.inl.inj z))];simp[Ne.symm e]
 unfold gB pL;rw[ha];by_cases c:b∈lk
 ·rw[Xd (Xc c),Xd c];unfold IQ;rw[Zc];refine XD fun p _=>?_;simp only[Function.comp];split<;>rfl
 rw[Xf (by simpa using c),Xf c];simp[IQ]
def at4{hs:List Int}{h:Int}(l:hs.length=4)(h0:0<=h)(h1:h<4):atI (hs.map U.int) h=some (.int (hs.getD h.toNat 0)):=by
 have hk:h.toNat<hs.length:=by omega
 refine BQ h0 ?_;rw[ZP,Z7 hk,Xh,Z7 hk];rfl
def map_set{hs:List Int}{k:Nat}{v:Int}:(hs.map U.int).set k (.int v)=(hs.set k v).map U.int:=by rw[List.map_set]
structure Wf(n:Int)(m:M):Prop where
 h4:m.hs.length=4
 pk:(m.ps.map (·.1)).Nodup
 pb:∀k∈m.ps.map (·.1),0<=k/\k<n
 lk:m.lk.Nodup
 lb:∀k∈m.lk,0<=k/\k<n
def few:∀(n:Nat) (l:List Int),l.Nodup->(∀k∈l,0<=k/\k<n)->l.length<=n
 |0,l,_,h=>by
  cases l with
  |nil=>simp
  |cons a r=>have:=h a nofun;omega
 |n+1,l,nd,h=>by
  have ih:=few n (l.erase (n:Int)) (nd.erase _) fun k hk=>by
   have h1:=h k (List.mem_of_mem_erase hk);have h2:k≠(n:Int):=fun z=>by subst z;exact(nd.not_mem_erase) hk
   omega
  rw[List.length_erase]at ih;split at ih<;>omega
def Wf.few{n:Int}{m:M}(h:Wf n m)(n0:0<=n)(n1:n<=6):m.ps.length<=6/\m.lk.length<=6:=by
 have a:=OQ.few n.toNat _ h.pk fun k hk=>by have:=h.pb k hk;omega
 have b:=OQ.few n.toNat _ h.lk fun k hk=>by have:=h.lb k hk;omega
 rw[Q7]at a;omega
def BV{l:List Int}{b:Int}(h:l.Nodup):(pL l b).Nodup:=by
 unfold pL;split;exact h;rename_i c;rw[Xr];exact⟨h,nofun,fun x hx y hy z=>by simp at hy;subst hy;subst z;exact c hx⟩
def xO{l:List Int}{b k:Int}(h:k∈pL l b):k∈l\/k=b:=by
 unfold pL at h;split at h;exact .inl h;simpa using h
def tN(b v:Int)(ps:List (Int×Int)):(gB ps b v).map (·.1)=pL (ps.map (·.1)) b:=by
 have ha:(ps.any fun kv=>decide (kv.1=b))=decide (b∈ps.map (·.1)):=by
  induction ps with
  |nil=>rfl
  |cons p r ih=>
   simp only[XN,ih,ZK];by_cases e:p.1=b;simp[e];simp[e,Ne.symm e]
 unfold gB pL;rw[ha];by_cases c:b∈ps.map (·.1)
 ·rw[Xd (Xc c),Xd c,Zc];refine XD fun p _=>?_;simp only[Function.comp];split<;>rfl
 rw[Xf (by simpa using c),Xf c];simp
def Ha{n w:Int}{first:List Int}{m:M}{d:k7}(h:Wf n m)(od:d.ok n w):Wf n (step w first m d):=by
 cases d with
 |look g b=>
  obtain⟨_,_,b0,b1⟩:=od;refine⟨by simpa [step] using h.h4,h.pk,h.pb,?_,?_⟩;simp only[step];split;exact h.lk;exact BV h.lk;simp only[step];split;exact h.lb;exact fun k hk=>(xO hk).elim (h.lb k) fun e=>by subst e;exact⟨b0,b1⟩
 |put b g=>
  obtain⟨b0,b1,b2,b3⟩:=od;refine⟨h.h4,?_,?_,h.lk,h.lb⟩;simp only[step];rw[tN];exact BV h.pk
  ·simp only[step];rw[tN];exact fun k hk=>(xO hk).elim (h.pb k) fun e=>by subst e;constructor<;>omega
 |set g v=>exact⟨by simpa [step] using h.h4,h.pk,h.pb,h.lk,h.lb⟩
 |plus g v=>exact⟨by simpa [step] using h.h4,h.pk,h.pb,h.lk,h.lb⟩
 |leap g k=>exact h
 |wait=>exact h
def kG{α:Type}{l:List α}{k:Nat}{x:α}(h:l[k]?=some x):k<l.length:=(Q6.mp h).1
def aF{α:Type}{l r:List α}{k:Nat}{x:α}(h:l[k]?=some x):(l++r)[k]?=some x:=by rw[Zh (kG h)];exact h
def inI(b:Int):∀l:List Int,inU (.int b) (l.map U.int)=decide (b∈l)
 |[]=>by simp[inU]
 |x::r=>by
  have ih:=inI b r;unfold inU at ih ⊢;rw[ZK,XN,ih,show eqF (.int x) (.int b)=(x == b)from rfl];by_cases e:x=b;subst e;simp;have:(x == b)=false:=by simpa using e
  rw[this];simp[Ne.symm e]
def O3(b:Int):∀ps:List (Int×Int),decide (b∈ps.map (·.1))=(bF ps b).isSome
 |[]=>rfl
 |(k,v)::r=>by
  have ih:=O3 b r;unfold bF at ih ⊢;simp only[ZK,Zg];by_cases e:k=b
  ·subst e;simp
  ·rw[Xa e,<-ih];simp[Ne.symm e]
def zA(b v j:Int)(ps:List (Int×Int)):bF (gB ps b v) j=if j=b then some v else bF ps j:=by
 have e1:∀ps:List (Int×Int),bF ps j=(jw (ps.map fun p=>(p.1,V.int p.2)) j).map fun x=>match x with|.int i=>i|_=>0:=fun ps=>by
  unfold bF jw;induction ps with
  |nil=>rfl
  |cons p r ih=>
   simp only[ZK,Zg];by_cases e:p.1=j;simp[e];rw[Xa e];exact ih
 have e2:(gB ps b v).map (fun p=>(p.1,V.int p.2))=sN (ps.map fun p=>(p.1,V.int p.2)) b (.int v):=by
  unfold gB sN;have:(ps.map fun p=>(p.1,V.int p.2)).any (fun kv=>decide (kv.1=b))=ps.any fun kv=>decide (kv.1=b):=by rw[List.any_map];rfl
  rw[this];split
  ·rw[Zc,Zc];refine XD fun p _=>?_;simp only[Function.comp];split<;>rfl
  simp
 rw[e1,e2,CL];split;rfl;exact(e1 ps).symm
def sS{x:U}{S:Sto}:FP x .non S=some (.bl (oZ x),S):=rfl
def yV{x:U}{S:Sto}:uA x .non S=some (.bl (!oZ x),S):=rfl
def qy:oZ .non=true:=rfl
def FI{us:List U}:oZ (.tup us)=false:=rfl
def A5{i:Int}:oZ (.int i)=false:=rfl
def Ox{us:List U}{k:Nat}{S:Sto}(h:k<us.length):fSl (.tup us) none (some (k:Int)) S=some (.tup (us.take k),S):=by
 have e:HT.sIx us.length us.length (some (k:Int))=k:=by rw[HT.sIx_nat];omega
 simp only[fSl,HT.sIx_none,e,IV,List.drop_zero,Nat.sub_zero];rw[Xf ⋯]
def He{us:List U}{k:Nat}{S:Sto}(h0:0<k)(h:k<=us.length):fSl (.tup us) (some (k:Int)) none S=some (.tup (us.drop k),S):=by
 have e:HT.sIx us.length 0 (some (k:Int))=k:=by rw[HT.sIx_nat];omega
 simp only[fSl,HT.sIx_none,e,IV];rw[Xf ⋯,List.take_of_length_le nofun]
def xP:Fn:=fnU 3 3 oN
def zt{us:List U}{k:Int}{v:U}{S:Sto}(k0:0<=k)(h:k<us.length)(hl:us.length<=50):xP [.tup us,.int k,v] S=some (.tup (us.set k.toNat v),S):=by
 unfold xP;rw[uE];have ek:k=((k.toNat:Nat):Int):=by omega
 have hk:k.toNat<us.length:=by omega
 have e1:k+1=((k.toNat+1:Nat):Int):=by omega
 have a1:fSl (.tup us) none (some k) S=some (.tup (us.take k.toNat),S):=by rw[ek];exact Ox hk
 have a2:fSl (.tup us) (some (k+1)) none S=some (.tup (us.drop (k.toNat+1)),S):=by rw[e1];exact He ⋯ ⋯
 have b1:i8 (.tup (us.take k.toNat)) (.tup [v]) S=some (.tup (us.take k.toNat++[v]),S):=by
  unfold i8;simp only;rw[Xd (by simp;unfold LIM;omega)]
 have b2:i8 (.tup (us.take k.toNat++[v])) (.tup (us.drop (k.toNat+1))) S=some (.tup (us.take k.toNat++[v]++us.drop (k.toNat+1)),S):=by
  unfold i8;simp only;rw[Xd (by simp;unfold LIM;omega)]
 rw[List.set_eq_take_append_cons_drop,Xd hk];rwa[oN,cSl,yE,a1,a2,b1,b2]
def pt(ds:List U)(q:Int)(A B:U):U:=.tup [.tup ds,.int q,A,B]
inductive Onw:Nat->U->U->Prop
 |stop {d:Nat} {ds:List U} {q:Int} {A B:U}:q<ds.length->Onw d (pt ds q A B) (pt ds q A B)
 |top {d:Nat} {ds:List U} {q:Int} {B:U}:Onw d (pt ds q .non B) (pt ds q .non B)
 |up {d:Nat} {ds ds':List U} {q q':Int} {A' B B' y:U}:(ds.length:Int)<=q->Onw d (pt ds' q' A' B') y->Onw (d+1) (pt ds q (pt ds' q' A' B') B) y
def yK:Fn:=fnU 2 1 (oO 100)
def DN{F:Nat}{d:Nat}{x y:U}{S:Sto}{r:Option U}(h:Onw d x y):∀(fuel:Nat),d<fuel->
  gD (yH (aR (cOp fGe (cOp fIx (ak 1) (cC (.int 1))) (cCB jC (ag (cOp fIx (ak 1) (cC (.int 0))) ay)))) (aR (cOp uA (cOp fIx (ak 1) (cC (.int 2))) (cC .non)))) (j6 F) fuel [r,some x] S=some (.nx,[r,some y],S):=by
 induction h with
 |@stop d ds q A B h=>
  intro fuel hf;obtain⟨f,rfl⟩:∃f,fuel=f+1:=⟨fuel-1,⋯⟩;have c:¬(ds.length:Int)<=q:=by omega
  refine sT ?_;unfold pt;rwa[c]
 |@top d ds q B=>
  intro fuel hf;obtain⟨f,rfl⟩:∃f,fuel=f+1:=⟨fuel-1,⋯⟩;refine sT ?_;unfold pt;by_cases c:(ds.length:Int)<=q;rwa[c,yV,qy];rwa[c]
 |@up d ds ds' q q' A' B B' y h _ ih=>
  intro fuel hf;obtain⟨f,rfl⟩:∃f,fuel=f+1:=⟨fuel-1,⋯⟩;refine(CD (ρ1:=[r,some (pt ds' q' A' B')]) (S1:=S) (S0:=S) ?_ ?_).trans (ih f ⋯);unfold pt;rwa[h,yV,FI];unfold pt;rwa[j6]
def t7{d:Nat}{x y:U}{S:Sto}(h:Onw d x y)(hd:d<100):yK [x] S=some (y,S):=by
 unfold yK;rw[Bs];rwa[oO,DN h 100 hd]
def xA(n:Nat)(ps:List (Int×Int)):List U:=(ZF n).map fun b:Nat=>((bF ps (b:Int)).map U.int).getD .non
def kR{n:Nat}{ps:List (Int×Int)}:(xA n ps).length=n:=by simp[xA]
def Br{n:Nat}{ps:List (Int×Int)}{b:Int}(b0:0<=b)(b1:b<n):atI (xA n ps) b=some (((bF ps b).map U.int).getD .non):=by
 refine BQ b0 ?_;unfold xA;rw[ZP,XS ⋯];have:((b.toNat:Nat):Int)=b:=by omega
 simp[this]
def Eo{n:Nat}{ps:List (Int×Int)}{b v:Int}(b0:0<=b)(b1:b<n):(xA n ps).set b.toNat (.int v)=xA n (gB ps b v):=by
 refine YW fun i=>?_;by_cases hi:i<n;rw[Zt,kR];unfold xA;rw[ZP,ZP,XS hi];simp only[XR,zA];by_cases e:b.toNat=i;have:(i:Int)=b:=by omega
 rw[Xd e,Xd ⋯,this,Xd rfl];rfl;rw[Xf e,Xf ⋯];rw[XW (by rw[Zx,kR];omega),XW (by rw[kR];omega)]
def Ep{n:Nat}:xA n []=ZQ n .non:=by
 unfold xA;refine YW fun i=>?_;by_cases hi:i<n;rw[ZP,XS hi,XG,Xd hi];rfl;rw[XW (by simp;omega),XW (by simp;omega)]
def dO(cD:Cl)(w:Int)(n:Nat)(m:M)(x:U):O:=.ins cD [some (.int w),some (.tup (m.hs.map U.int)),some (.tup (xA n m.ps)),some x]
structure Cf(cD:Cl)(w:Int)(n i ll:Nat)(m:M)(x:U)(S:Sto):Prop where
 ei:S[i]?=some (dO cD w n m x)
 el:S[ll]?=some (.dic (IQ m.lk))
variable{cD:Cl}{n i ll:Nat}{m:M}{x A B:U}{S:Sto}{q:Int}
section
variable{w:Int}{ds:List U}
def Cf.ne(h:Cf cD w n i ll m x S):i≠ll:=fun z=>by have a:=h.ei;have b:=h.el;rw[z,b]at a;cases a
def Cf.setI(h:Cf cD w n i ll m x S)(hs:List Int)(ps:List (Int×Int))(y:U):Cf cD w n i ll ⟨hs,ps,m.lk⟩ y (S.set i (dO cD w n ⟨hs,ps,m.lk⟩ y)):=
 ⟨Ze (kG h.ei),by rw[ZS h.ne];exact h.el⟩
def ju(cD:Cl):Fn:=fnU 1 1 (gT cD)
def j0{u:U}(h:Cf cD w n i ll m (pt ds q A B) S)(q0:0<=q)(hu:ds[q.toNat]?=some u):ju cD [.ref i] S=some (u,S):=by
 unfold ju;rw[pI];have hl:=kG hu;have c:¬(ds.length:Int)<=q:=by omega
 have ha:atI ds q=some u:=BQ q0 hu;have e:=h.ei;unfold dO pt at e;rwa[gT,e,c,ha]
def Ew(h:Cf cD w n i ll m (pt ds q A B) S)(hq:(ds.length:Int)<=q):ju cD [.ref i] S=some (.non,S):=by
 unfold ju;rw[pI];have e:=h.ei;unfold dO pt at e;rwa[gT,e,hq]
def xR(cD:Cl):Fn:=fnU 3 3 (jq xP cD)
def rm{k v:Int}(h:Cf cD w n i ll m x S)(h4:m.hs.length=4)(k0:0<=k)(k1:k<4):xR cD [.ref i,.int k,.int v] S=some (.non,S.set i (dO cD w n ⟨m.hs.set k.toNat v,m.ps,m.lk⟩ x)):=by
 unfold xR;rw[uE];have e:=h.ei;unfold dO at e ⊢;have hw:=zt (us:=m.hs.map U.int) (v:=.int v) (S:=S) k0 (by simp;omega) (by simp;omega);rw[map_set]at hw;rwa[jq,e,hw]
def Nu(cD:Cl):Fn:=fnU 3 2 (dU cD)
def Lh{k:Int}(h:Cf cD w n i ll m (pt ds q A B) S):Nu cD [.ref i,.int k] S=some (pt ds (q+1+k) A B,S):=by
 unfold Nu;rw[oI];have e:=h.ei;unfold dO pt at e;unfold pt;rwa[dU,e]
def Nv(cD:Cl):Fn:=fnU 2 2 (eY yK (Nu cD) cD)
def yy{k:Int}{d:Nat}{y:U}(h:Cf cD w n i ll m (pt ds q A B) S)(ho:Onw d (pt ds (q+1+k) A B) y)(hd:d<100):Nv cD [.ref i,.int k] S=some (.non,S.set i (dO cD w n m y)):=by
 unfold Nv;rw[kW];have e:=h.ei;have ep:=Lh (k:=k) h;have eo:=t7 (S:=S) ho hd;unfold dO at e ⊢;rwa[eY,e,ep,eo]
def xS(cD:Cl):Fn:=fnU 2 2 (jr (xR cD) (ju cD) (Nv cD) cD)
def ID{g b v:Int}{d:Nat}{y:U}(h:Cf cD w n i ll m (pt ds q A B) S)(h4:m.hs.length=4)(q0:0<=q)(hu:ds[q.toNat]?=some (k7.u (.look g b)))(g0:0<=g)(g1:g<4)(ho:Onw d (pt ds (q+1+0) A B) y)(hd:d<100) :
  xS cD [.ref i,.int v] S=some (.non,S.set i (dO cD w n ⟨m.hs.set g.toNat v,m.ps,m.lk⟩ y)):=by
 unfold xS;rw[kW];have e:=h.ei;have ed:=j0 h q0 hu;have eh:=rm (v:=v) h h4 g0 g1;have h2:=h.setI (m.hs.set g.toNat v) m.ps (pt ds q A B);have e2:=h2.ei;have eg:=yy h2 ho hd;unfold dO at e e2 eh eg ⊢;rw[XY]at eg;unfold k7.u at ed;rwa[jr,e,ed,eh,e2,eg]
def qG(cD:Cl):Fn:=fnU 2 1 (dG cD)
def BO(h:Cf cD w n i ll m (pt ds q A .non) S):qG cD [.ref i] S=some (.bl false,S):=by
 unfold qG;rw[Bs];have e:=h.ei;unfold dO pt at e;rwa[dG,e,sS,qy]
def bk(n:Nat)(hs:List Int)(ps:List (Int×Int))(y:U):U:=.tup [.tup (hs.map U.int),.tup (xA n ps),y]
def BN{hs:List Int}{ps:List (Int×Int)}{y:U}(h:Cf cD w n i ll m (pt ds q A (bk n hs ps y)) S):qG cD [.ref i] S=some (.bl true,S.set i (dO cD w n ⟨hs,ps,m.lk⟩ y)):=by
 unfold qG;rw[Bs];have l:=kG h.ei;have e:=h.ei;unfold dO pt bk at e;unfold dO;have g:∀o:O,(S.set i o)[i]?=some o:=fun o=>Ze l;rwa[dG,e,sS,FI,g,XY]
def wc(cD:Cl):Fn:=fnU 5 3 (eZ yK (Nu cD) cD)
def En{a b:List U}{d d':Nat}{y z:U}(h:Cf cD w n i ll m (pt ds q A B) S)(ho:Onw d (pt b 0 (pt ds (q+1+0) A B) B) z)(hd:d<100)
  (ho':Onw d' (pt a 0 (pt ds (q+1+0) A B) (bk n m.hs m.ps z)) y) (hd':d'<100):wc cD [.ref i,.tup a,.tup b] S=some (.non,S.set i (dO cD w n m y)):=by
 unfold wc;rw[My];have e:=h.ei;have ep:=Lh (k:=0) h;have e1:=t7 (S:=S) ho hd;have e2:=t7 (S:=S) ho' hd';unfold dO at e ⊢;unfold pt at ep e1 e2 e;unfold bk at e2;rwa[eZ,e,ep,e1,e2]
end
def lv(m:M):k7->Int
 |.leap h k=>if m.hs.getD h.toNat 0=0 then k else 0
 |_=>0
section
variable{w n:Int}{first:List Int}{ds:List U}
def qH(cD:Cl):Fn:=fnU 2 1 (gU (ju cD) cD)
def Jb{x:Str}{r:List U}(h:Cf cD w n.toNat i ll m (pt ds q A B) S)(q0:0<=q)(hu:ds[q.toNat]?=some (.tup (.str x::r)))(hx:decide (x=("look":Str))=false):qH cD [.ref i] S=some (.bl false,S):=by
 unfold qH;rw[Bs];have e:=h.ei;have ed:=j0 h q0 hu;unfold dO at e;rwa[gU,e,ed,hx]
def BS{g b:Int}(h:Cf cD w n.toNat i ll m (pt ds q A B) S)(q0:0<=q)(hu:ds[q.toNat]?=some (k7.u (.look g b)))(b0:0<=b)(b1:b<n):qH cD [.ref i] S=some (.bl (!(bF m.ps b).isSome),S):=by
 unfold qH;rw[Bs];have e:=h.ei;have ed:=j0 h q0 hu;have ea:=Br (n:=n.toNat) (ps:=m.ps) b0 ⋯;have ei:oZ (((bF m.ps b).map U.int).getD .non)=!(bF m.ps b).isSome:=by cases bF m.ps b<;>rfl
 unfold dO at e;unfold k7.u at ed;rwa[gU,e,ed,ea,sS,ei,SNX]
def Ge(cD:Cl):Fn:=fnU 4 1 (br xP (ju cD) (qG cD) (wc cD) (xR cD) (Nv cD) cD)
def Bu(h:Cf cD w n.toNat i ll m (pt ds q A B) S)(q0:0<=q)(hu:ds[q.toNat]?=some (k7.u .wait)){r:U×Sto}(hb:qG cD [.ref i] S=some r):Ge cD [.ref i] S=some r:=by
 unfold Ge;rw[Er];have e:=h.ei;have ed:=j0 h q0 hu;unfold dO at e;unfold k7.u at ed;obtain⟨u,S'⟩:=r;rwa[br,e,ed,hb,SNX]
def MC{a b:List U}{d d':Nat}{y z:U}(h:Cf cD w n.toNat i ll m (pt ds q A B) S)(q0:0<=q)(hu:ds[q.toNat]?=some (.tup [.str "try",.tup a,.tup b]))(ho:Onw d (pt b 0 (pt ds (q+1+0) A B) B) z)(hd:d<100)
  (ho':Onw d' (pt a 0 (pt ds (q+1+0) A B) (bk n.toNat m.hs m.ps z)) y) (hd':d'<100):Ge cD [.ref i] S=some (.bl true,S.set i (dO cD w n.toNat m y)):=by
 unfold Ge;rw[Er];have e:=h.ei;have ed:=j0 h q0 hu;have en:=En h ho hd ho' hd';unfold dO at e en ⊢;rwa[br,e,ed,en,SNX]
def Et{d:k7}{dd:Nat}{y:U}(nw:d≠.wait)(h:Cf cD w n.toNat i ll m (pt ds q A B) S)(wf:Wf n m)(w0:2<=w)(n1:n<=6)(od:d.ok n w)(q0:0<=q)(hu:ds[q.toNat]?=some d.u)(ha:∀g b,d=.look g b->(bF m.ps b).isSome=true)(ho:Onw dd (pt ds (q+1+lv m d) A B) y)(hd:dd<100) :
  Ge cD [.ref i] S=some (.bl true,S.set i (dO cD w n.toNat (step w first m d) y)):=by
 unfold Ge;rw[Er];have e:=h.ei;have ed:=j0 h q0 hu;have h4:=wf.h4;cases d with
 |wait=>exact absurd rfl nw
 |look g b=>
  obtain⟨g0,g1,b0,b1⟩:=od;obtain⟨v,hv⟩:=Zl.mp (ha g b rfl);have ea:=Br (n:=n.toNat) (ps:=m.ps) b0 ⋯;rw[hv,XR,XQ]at ea;have eh:=rm (v:=v) h h4 g0 g1;have h2:=h.setI (m.hs.set g.toNat v) m.ps (pt ds q A B);have e2:=h2.ei;have eg:=yy h2 ho hd;unfold dO at e e2 eh eg ⊢;rw[XY]at eg;unfold k7.u at ed;simp only[step,LK,hv,XQ,Option.isSome_some,if_true];simp only[lv]at eg;rwa[br,e,ed,ea,eh,e2,eg,SNX]
 |put b g=>
  obtain⟨g0,g1,b0,b1⟩:=od;have hw:=zt (us:=xA n.toNat m.ps) (v:=.int (m.hs.getD g.toNat 0)) (S:=S) b0 (by rw[kR];omega) (by rw[kR];omega);rw[Eo b0 ⋯]at hw;have h2:=h.setI m.hs (gB m.ps b (m.hs.getD g.toNat 0)) (pt ds q A B);have e2:=h2.ei;have eg:=yy h2 ho hd;unfold dO at e e2 eg ⊢;rw[XY]at eg;unfold k7.u at ed;simp only[lv]at eg;simp only[step];rwa[br,e,ed,at4 h4 g0 g1,hw,e2,eg,SNX]
 |set g v=>
  obtain⟨g0,g1,b0,b1⟩:=od;have eh:=rm (v:=v) h h4 g0 g1;have h2:=h.setI (m.hs.set g.toNat v) m.ps (pt ds q A B);have e2:=h2.ei;have eg:=yy h2 ho hd;unfold dO at e e2 eh eg ⊢;rw[XY]at eg;unfold k7.u at ed;simp only[lv]at eg;simp only[step];rwa[br,e,ed,eh,e2,eg,SNX]
 |plus g k=>
  obtain⟨g0,g1,b0,b1⟩:=od;have eh:=rm (v:=(m.hs.getD g.toNat 0+m.hs.getD k.toNat 0) % w) h h4 g0 g1;have h2:=h.setI (m.hs.set g.toNat ((m.hs.getD g.toNat 0+m.hs.getD k.toNat 0) % w)) m.ps (pt ds q A B);have e2:=h2.ei;have eg:=yy h2 ho hd;unfold dO at e e2 eh eg ⊢;rw[XY]at eg;unfold k7.u at ed;simp only[lv]at eg;simp only[step];rwa[br,e,ed,at4 h4 g0 g1,at4 h4 b0 b1,xZ (show 0<w by omega),eh,e2,eg,SNX]
 |leap g k=>
  obtain⟨g0,g1,b0,b1⟩:=od;have eg:=yy h ho hd;unfold dO at e eg ⊢;unfold k7.u at ed;simp only[step];simp only[lv]at eg;by_cases z:m.hs.getD g.toNat 0=0;rw[Xd z]at eg;rwa[br,e,ed,at4 h4 g0 g1,z,eg,SNX];rw[Xf z]at eg;rwa[br,e,ed,at4 h4 g0 g1,z,eg,SNX]
def Ka(d:k7):∃x r,d.u=.tup (.str x::r):=by cases d<;>exact⟨_,_,rfl⟩
end
def prs:List (Option Int)->Nat->List (Int×Int)
 |[],_=>[]
 |none::r,k=>prs r (k+1)
 |some v::r,k=>((k:Int),v)::prs r (k+1)
def oq(n:Nat)(ps:List (Int×Int)):List (Option Int):=(ZF n).map fun b:Nat=>bF ps (b:Int)
def ou:Option Int->U
 |none=>.non
 |some v=>.int v
def IP{n:Nat}{ps:List (Int×Int)}:xA n ps=(oq n ps).map ou:=by
 unfold xA oq;rw[Zc];refine XD fun b _=>?_;simp only[Function.comp];cases bF ps (b:Int)<;>rfl
def pU(p:Int×Int):U:=.tup [.int p.1,.int p.2]
def qD{ok:Sto->Prop}{g:CG}{ct:CT}{ce:CE}{l:Nat}{ρ:Rho}{S:Sto}(h:ok S):dr ok g ct ce l [] ρ S=some S:=by rw[dr,Xd h]
def uL{ok:Sto->Prop}{g:CG}{ct:CT}{ce:CE}{l:Nat}{ρ ρ0:Rho}{S S0 S1:Sto}{u:U}{us:List U}(h:ok S)(hg:g u ρ S=some (ρ0,S0))(ht:ct ρ0 S0=some (false,S1)):dr ok g ct ce l (u::us) ρ S=dr ok g ct ce l us ρ0 S1:=by
 rw[dr,Xd h,hg,Z0,ht,Z0,Xf Z8]
def qC{ok:Sto->Prop}{g:CG}{ct:CT}{ce:CE}{l:Nat}{ρ ρ0:Rho}{S S0 S1 S2:Sto}{u x:U}{us ys:List U}(h:ok S)(hg:g u ρ S=some (ρ0,S0))(ht:ct ρ0 S0=some (true,S1))(he:ce ρ0 S1=some (x,S2))(hl:S2[l]?=some (.lst ys))(hn:ys.length<LIM) :
  dr ok g ct ce l (u::us) ρ S=dr ok g ct ce l us ρ0 (S2.set l (.lst (ys++[x]))):=by
 rw[dr,Xd h,hg,Z0,ht,Z0,Xd rfl,he,Z0];simp only[hl,hn,if_true]
def vv(S:Sto):∀(qs:List (Option Int)) (k:Nat) (ys:List (Int×Int)) (r0 r1:Option U),ys.length+qs.length<=1000->
  dr (fun _=>True) (gTp [0,1]) (aR (cOp uA (ak 1) (cC .non))) (iU (ag (ak 0) (ag (ak 1) ay))) S.length (((qs.map ou).zipIdx k).map fun p=>.tup [.int p.2,p.1]) [r0,r1] (S++[.lst (ys.map pU)])
   = some (S++[.lst ((ys++prs qs k).map pU)])
 |[],k,ys,r0,r1,hl=>by
  simp only[XU,List.zipIdx_nil,prs,Zj];exact qD trivial
 |none::qs,k,ys,r0,r1,hl=>by
  have ih:=vv S qs (k+1) ys (some (.int k)) (some .non) (by simp at hl ⊢;omega);simp only[ZK,List.zipIdx_cons,prs,ou];refine(uL (ρ0:=[some (.int k),some .non]) (S0:=S++[.lst (ys.map pU)]) (S1:=S++[.lst (ys.map pU)]) trivial rfl ?_).trans ih;rwa[yV,qy]
 |some v::qs,k,ys,r0,r1,hl=>by
  have ih:=vv S qs (k+1) (ys++[((k:Int),v)]) (some (.int k)) (some (.int v)) (by simp at hl ⊢;omega);simp only[ZK,List.zipIdx_cons,prs,ou];refine(qC (ρ0:=[some (.int k),some (.int v)]) (S0:=S++[.lst (ys.map pU)]) (S1:=S++[.lst (ys.map pU)]) (S2:=S++[.lst (ys.map pU)]) (x:=pU (k,v)) (ys:=ys.map pU) trivial rfl ?_ ?_ ?_ (by simp at hl ⊢;unfold LIM;omega)).trans ?_;rwa[yV,A5];rwa[pU];rwa[];have e5:(S++[O.lst (ys.map pU)]).set S.length (.lst (ys.map pU++[pU ((k:Int),v)]))=S++[.lst ((ys++[((k:Int),v)]).map pU)]:=by
   rwa[Zo,ZK,XU]
  rw[e5,ih];simp
section
variable{w n:Int}
def Nt(cD:Cl):Fn:=fnU 1 1 (eW cD)
def ppL(n:Int)(m:M):List (Int×Int):=prs (oq n.toNat m.ps) 0
def OO(h:Cf cD w n.toNat i ll m x S)(n1:n<=6):Nt cD [.ref i] S=some (.ref S.length,S++[.lst ((ppL n m).map pU)]):=by
 unfold Nt;rw[pI];have e:=h.ei;unfold dO at e;have hb:=vv S (oq n.toNat m.ps) 0 [] none none (by simp[oq];omega);simp only[Zf,XU]at hb;rw[IP]at e;unfold ppL;rwa[eW,iV,vK,Jj,yB,sM,e,hb,ZQ]
def qY:∀(qs:List (Option Int)) (k:Nat) (p:Int×Int),p∈prs qs k->∃j:Nat,p.1=((k+j:Nat):Int)/\qs[j]?=some (some p.2)
 |[],k,p,h=>by simp[prs]at h
 |none::r,k,p,h=>by
  obtain⟨j,e1,e2⟩:=qY r (k+1) p (by simpa [prs] using h);exact⟨j+1,by rw[e1];omega,by simpa using e2⟩
 |some v::r,k,p,h=>by
  simp only[prs,ZD]at h;rcases h with rfl|h;exact⟨0,nofun,nofun⟩;obtain⟨j,e1,e2⟩:=qY r (k+1) p h;exact⟨j+1,by rw[e1];omega,by simpa using e2⟩
def Af:∀(qs:List (Option Int)) (k j:Nat) (v:Int),qs[j]?=some (some v)->(((k+j:Nat):Int),v)∈prs qs k
 |[],k,j,v,h=>by simp at h
 |o::r,k,0,v,h=>by
  simp at h;subst h;simp[prs]
 |o::r,k,j+1,v,h=>by
  have:=Af r (k+1) j v (by simpa using h);rw[show k+1+j=k+(j+1)by omega]at this;cases o with
  |none=>simpa [prs] using this
  |some z=>simp only[prs,ZD];exact .inr this
def mW:∀(qs:List (Option Int)) (k:Nat),((prs qs k).map (·.1)).Pairwise (· < ·)
 |[],k=>by simp[prs]
 |none::r,k=>by simpa [prs] using mW r (k+1)
 |some v::r,k=>by
  simp only[prs,ZK,List.pairwise_cons];refine⟨fun a ha=>?_,mW r (k+1)⟩;obtain⟨p,hp,rfl⟩:=Zr.mp ha;obtain⟨j,e1,_⟩:=qY r (k+1) p hp;rw[e1];omega
def Fv{ps:List (Int×Int)}{j:Nat}{v:Int}:(oq n.toNat ps)[j]?=some (some v)↔(j<n.toNat/\bF ps (j:Int)=some v):=by
 unfold oq;rw[ZP];by_cases c:j<n.toNat;rw[XS c];simp[c];rw[XW (by simpa using c)];simp[c]
def vw{p:Int×Int}(h:p∈ppL n m):0<=p.1/\p.1<n/\bF m.ps p.1=some p.2:=by
 obtain⟨j,e1,e2⟩:=qY _ _ _ h;obtain⟨e3,e4⟩:=Fv.mp e2;rw[YT]at e1;rw[e1];exact⟨⋯,⋯,e4⟩
def Hx{b v:Int}(b0:0<=b)(b1:b<n)(h:bF m.ps b=some v):(b,v)∈ppL n m:=by
 have e:((0+b.toNat:Nat):Int)=b:=by omega
 have:=Af (oq n.toNat m.ps) 0 b.toNat v (Fv.mpr ⟨⋯,by rw[show((b.toNat:Nat):Int)=b by omega];exact h⟩);rw[e]at this;exact this
def Dk(wf:Wf n m):(ppL n m).map (·.1)=bL (m.ps.map (·.1)):=by
 have nd:((ppL n m).map (·.1)).Nodup:=(mW _ _).imp fun h=>Int.ne_of_lt h;refine qU ((List.perm_ext_iff_of_nodup nd wf.pk).mpr fun b=>⟨fun h=>?_,fun h=>?_⟩) ((mW _ _).imp fun h=>Int.le_of_lt h);obtain⟨p,hp,rfl⟩:=Zr.mp h;obtain⟨_,_,e⟩:=vw hp;have:=O3 p.1 m.ps;rw[e]at this;simpa using this;have:=O3 b m.ps;rw[Xc h]at this;obtain⟨v,e⟩:=Zl.mp this.symm;obtain⟨b0,b1⟩:=wf.pb b h;exact Zr.mpr ⟨_,Hx b0 b1 e,rfl⟩
def Ag(wf:Wf n m)(n0:0<=n)(n1:n<=6):(ppL n m).length<=6:=by
 have:=(wf.few n0 n1).1;have e:=congrArg List.length (Dk wf);rw[(ib _).length_eq,Q7,Q7]at e;omega
end
def B3(cD:Cl):Fn:=fnU 3 3 (jo yK cD)
def Lay(k:Nat)(S:Sto)(u:U):Prop:=∃d,Dt S u d/\d.canLay0=true/\d.depth<=k
def iX(k:Nat)(S:Sto)(u v:U):Prop:=∃d,Dt S u d/\Dt S v d/\d.canLay0=true/\d.depth<=k
def gz(k:Nat)(S:Sto)(us vs:List U):Prop:=∃ds,DtL S us ds/\DtL S vs ds/\Ya ds=true/\Yb ds<=k
variable{j:Nat}{us:List U}
section
variable{k:Nat}{u v:U}{vs:List U}
def Lay.mono(h:Lay k S u)(l:k<=j):Lay j S u:=by obtain⟨d,a,b,c⟩:=h;exact⟨d,a,b,Zw c l⟩
def Lay.int{i:Int}:Lay k S (.int i):=⟨_,.int i,rfl,Zp _⟩
def Lay.str{x:Str}(h:PyData.strOk x=true):Lay k S (.str x):=⟨_,.str x,h,Zp _⟩
def iX.refl(h:Lay k S u):iX k S u u:=by obtain⟨d,a,b,c⟩:=h;exact⟨d,a,a,b,c⟩
def gz.nil:gz k S [] []:=⟨[],.nil,.nil,rfl,Zp _⟩
def gz.cons(h:iX k S u v)(t:gz k S us vs):gz k S (u::us) (v::vs):=by
 obtain⟨d,a,b,c,e⟩:=h;obtain⟨ds,a',b',c',e'⟩:=t;refine⟨d::ds,.cons a a',.cons b b',by unfold Ya;rw[c,c'];rfl,?_⟩;unfold Yb;exact Nat.max_le.mpr ⟨e,e'⟩
def gz.all:∀{us:List U},(∀u∈us,Lay k S u)->gz k S us us
 |[],_=>.nil
 |u::us,h=>.cons (.refl (h u ZG)) (gz.all fun x hx=>h x (ZJ _ hx))
def iX.tup(h:gz k S us vs):iX (k+1) S (.tup us) (.tup vs):=by
 obtain⟨ds,a,b,c,e⟩:=h;refine⟨.tuple ds,.tup a,.tup b,by unfold Yc;exact c,?_⟩;unfold PyData.depth;omega
def iX.lst{l l':Nat}(h1:S[l]?=some (.lst us))(h2:S[l']?=some (.lst vs))(h:gz k S us vs):iX (k+1) S (.ref l) (.ref l'):=by
 obtain⟨ds,a,b,c,e⟩:=h;refine⟨.list ds,.lst h1 a,.lst h2 b,by unfold Yc;exact c,?_⟩;unfold PyData.depth;omega
def Lay.tup(h:∀u∈us,Lay k S u):Lay (k+1) S (.tup us):=by
 obtain⟨d,a,_,b,c⟩:=iX.tup (gz.all h);exact⟨d,a,b,c⟩
def iX.ne(h:iX k S u v)(hk:k<=60):xv true u v S=some (.bl false,S):=by
 obtain⟨d,a,b,c,e⟩:=h;exact Bn true (.inl ⟨d,d,a,b,⟨c,Zw e hk⟩,⟨c,Zw e hk⟩,(SeqAt.eqv_refl d c).symm⟩)
def Lay.ints{ns:List Int}:Lay 1 S (.tup (ns.map U.int)):=.tup fun u hu=>by
 obtain⟨i,_,rfl⟩:=Zr.mp hu;exact .int
def Lay.deed(d:k7):Lay 1 S d.u:=by
  cases d;all_goals
    refine .tup fun u hu=>?_;simp only[ZD,XB,or_false]at hu;first
    | (rcases hu with rfl | rfl | rfl
       · exact .str ∅
       · exact .int
       · exact .int)
    |(subst hu;exact .str ∅)
end
variable{l:Nat}
section
variable{u:U}{i:Int}
def xi(l:Nat)(i:Int)(S:Sto):Option O->Option (U×Sto)
 |some (.lst us)=>if 0<=i/\i<us.length/\us.length<=LIM then(us[i.toNat]?).bind fun u=>some (u,S.set l (.lst (us.eraseIdx i.toNat)))else none
 |_=>none
def Gh:qA (.ref l) [.int i] S=xi l i S S[l]?:=by
 unfold qA xi;rfl
def Ck(h0:0<=i)(h1:i<us.length)(hL:us.length<=LIM)(hu:us[i.toNat]?=some u):xi l i S (some (.lst us))=some (u,S.set l (.lst (us.eraseIdx i.toNat))):=by
 simp only[xi];rw[Xd ⟨h0,h1,hL⟩,hu,Z0]
end
def tK(n:Nat):jJ 0 n=((ZF n).map fun i:Nat=>(i:Int)).map U.int:=by
 unfold jJ;rw[Zc];refine XD fun i _=>?_;simp
inductive Ev where
 |beg (a:Int)|look (a b x:Int)|put (a b x:Int)|fin (d:Bool) (a:Int)
def zB{κ α:Type}[DecidableEq κ]{ps:List (κ×α)}{k:κ}:bF ps k=none↔k∉ps.map (·.1):=by
 unfold bF;rw[Option.map_eq_none_iff,List.find?_eq_none];simp only[decide_eq_true_eq,Zr,not_exists,not_and]
def C9{κ α:Type}[DecidableEq κ]{ps:List (κ×α)}{k:κ}{v:α}(h:k∉ps.map (·.1)):gB ps k v=ps++[(k,v)]:=by
 unfold gB;rw[Xf];simp only[List.any_eq_true,decide_eq_true_eq,not_exists,not_and];intro p hp e;exact h (Zr.mpr ⟨p,hp,e⟩)
section
variable{c:Cl}
def EX{i:Nat}{u:U}{fus:List (Option U)}{Z:Sto}{l:Nat}(h:Z[l]?=some (.ins c fus))(hu:fus[i]?=some (some u)):Jl c i (.ref l,Z)=some (u,Z):=by
 rw[wz,h,wy,hu];rfl
end
def lG{α:Type}{ok:Sto->Prop}{gg:CG}{ct:CT}{ce:CE}{S:Sto}{f:α->U}{p:α->Bool}{v:α->U}{Rel:Rho->Prop}(hok:∀ys G,ok (S++(.lst ys::G))) :
  ∀(xs:List α) (ys:List U) (G:Sto) (ρ:Rho),Rel ρ->ys.length+xs.length<=9999->
  (∀x∈xs,∀ys G ρ,Rel ρ->∃ρ0 G1,Rel ρ0/\gg (f x) ρ (S++(.lst ys::G))=some (ρ0,S++(.lst ys::G))/\ct ρ0 (S++(.lst ys::G))=some (p x,S++(.lst ys::(G++G1)))/\
   (p x=true->∃G2,ce ρ0 (S++(.lst ys::(G++G1)))=some (v x,S++(.lst ys::(G++G1++G2)))))->
  ∃G',dr ok gg ct ce S.length (xs.map f) ρ (S++(.lst ys::G))=some (S++(.lst (ys++(xs.filter p).map v)::(G++G')))
 |[],ys,G,ρ,_,_,_=>⟨[],by simp only[XU,List.filter_nil,Zj];exact qD (hok ys G)⟩
 |x::xs,ys,G,ρ,hr,hl,hb=>by
  rw[ZZ]at hl;obtain⟨ρ0,G1,r0,h1,h2,h3⟩:=hb x ZG ys G ρ hr;have hb':=fun x (hx:x∈xs)=>hb x (ZJ _ hx);cases hp:p x with
  |false=>
   rw[hp]at h2;obtain⟨G',h⟩:=lG hok xs ys (G++G1) ρ0 r0 ⋯ hb';refine⟨G1++G',?_⟩;rw[ZK,List.filter_cons_of_neg (by simp[hp])];refine(uL (hok ys G) h1 h2).trans ?_;rw[h,ZO]
  |true=>
   rw[hp]at h2;obtain⟨G2,h4⟩:=h3 hp;obtain⟨G',h⟩:=lG hok xs (ys++[v x]) (G++G1++G2) ρ0 r0 (by simp;omega) hb';refine⟨G1++(G2++G'),?_⟩;rw[ZK,List.filter_cons_of_pos hp];refine(qC (hok ys G) h1 h2 h4 (by rw[ga0];rfl) (by unfold LIM;omega)).trans ?_;rw[gs0];simp only[YO];rw[h];simp only[ZK,ZO,XZ,Zf]
def xD{α:Type}{ok:Sto->Prop}{gg:CG}{ce:CE}{S:Sto}{f:α->U}{v:α->U}{Rel:Rho->Prop}(hok:∀ys G,ok (S++(.lst ys::G))) :
  ∀(xs:List α) (ys:List U) (G:Sto) (ρ:Rho),Rel ρ->ys.length+xs.length<=9999->
  (∀x∈xs,∀ys G ρ,Rel ρ->∃ρ0 G1,Rel ρ0/\gg (f x) ρ (S++(.lst ys::G))=some (ρ0,S++(.lst ys::G))/\ce ρ0 (S++(.lst ys::G))=some (v x,S++(.lst ys::(G++G1))))->
  ∃G',gC ok gg ce S.length (xs.map f) ρ (S++(.lst ys::G))=some (S++(.lst (ys++xs.map v)::(G++G')))
 |[],ys,G,ρ,_,_,_=>⟨[],by simp only[XU,Zj];exact gR (hok ys G)⟩
 |x::xs,ys,G,ρ,hr,hl,hb=>by
  rw[ZZ]at hl;obtain⟨ρ0,G1,r0,h1,h2⟩:=hb x ZG ys G ρ hr;obtain⟨G',h⟩:=xD hok xs (ys++[v x]) (G++G1) ρ0 r0 (by simp;omega) (fun x hx=>hb x (ZJ _ hx));refine⟨G1++G',?_⟩;rw[ZK];refine(dR (hok ys G) h1 h2 (by rw[ga0];rfl) (by unfold LIM;omega)).trans ?_;rw[gs0];simp only[YO];rw[h];simp only[ZK,ZO,XZ,Zf]
def CW{Z:Sto}{r:Nat}{o o':O}(h:Z[r]?=some o):(Z.set r o').set r o=Z:=by
 rw[XY];refine YW fun i=>?_;rw[Zt];split;subst i;obtain⟨h1,h2⟩:=Q6.mp h;simp[h1,h2];rfl
def xy:∀ns ms:List Int,PyData.eqv (.list (ns.map PyData.int)) (.list (ms.map PyData.int))=decide (ns=ms)
 |[],[]=>rfl
 |[],_::_=>rfl
 |_::_,[]=>rfl
 |n::ns,m::ms=>by
  have e:PyData.eqv (.list ((n::ns).map PyData.int)) (.list ((m::ms).map PyData.int))=((n == m)&&PyData.eqv (.list (ns.map PyData.int)) (.list (ms.map PyData.int))):=rfl;rw[e,xy ns ms,XI];simp
def rO{S:Sto}:∀ns:List Int,DtL S (ns.map U.int) (ns.map PyData.int)
 |[]=>.nil
 |n::ns=>.cons (.int n) (rO ns)
def xf(ns:List Int):B6 (.list (ns.map PyData.int)):=by
 have h:∀ns:List Int,Ya (ns.map PyData.int)=true/\Yb (ns.map PyData.int)<=0:=fun ns=>by
  induction ns with
  |nil=>exact⟨rfl,Z6 _⟩
  |cons n r ih=>
   refine⟨by unfold Ya;rw[ZK];exact ih.1,?_⟩;rw[ZK];unfold Yb;exact Nat.max_le.mpr ⟨Z6 _,ih.2⟩
 refine⟨by unfold Yc;exact(h ns).1,?_⟩;unfold PyData.depth;have:=(h ns).2;omega
def Ef(neg:Bool){S:Sto}{l l':Nat}{ns ms:List Int}(h:S[l]?=some (.lst (ns.map U.int)))(h':S[l']?=some (.lst (ms.map U.int))):xv neg (.ref l) (.ref l') S=some (.bl (if neg then !decide (ns=ms)else decide (ns=ms)),S):=
 Bn neg (.inl ⟨_,_,.lst h (rO ns),.lst h' (rO ms),xf ns,xf ms,(xy ns ms).symm⟩)
def i9:Fn:=fnU 3 2 lH
def uV:Fn:=fnU 6 2 iM
def sV{r0 r1 r2:Option U}:∀(ts:List Int) (a f:Int) (r5:Option U),0<=a->a<2147483563->∃a' f' r5',fu (fun _=>True) (gNm 5) fZ (ts.map U.int) [r0,r1,r2,some (.int a),some (.int f),r5] S=some (.nx,[r0,r1,r2,some (.int a'),some (.int f'),r5'],S)
 |[],a,f,r5,_,_=>⟨a,f,r5,iH trivial⟩
 |t::ts,a,f,r5,h0,h1=>by
  obtain⟨a',f',r5',ih⟩:=sV (r0:=r0) (r1:=r1) (r2:=r2) ts ((a*a+50021*a+19*t+7) % 2147483563) (f*2147483563+(a*a+50021*a+19*t+7) % 2147483563) (some (.int t)) (Int.emod_nonneg _ ∅) (Int.emod_lt_of_pos _ ∅);refine⟨a',f',r5',(jg trivial rfl ?_).trans ih⟩;have m1:pH (.int a) (.int a) S=some (.int (a*a),S):=sQ (.inl ⟨⋯,⋯⟩);have m2:pH (.int 50021) (.int a) S=some (.int (50021*a),S):=sQ (.inl ∅);have m3:pH (.int 19) (.int t) S=some (.int (19*t),S):=sQ (.inl ∅);have m4:pH (.int f) (.int 2147483563) S=some (.int (f*2147483563),S):=sQ (.inr ∅);have m5:∀j:Int,uC (.int j) (.int 2147483563) S=some (.int (j % 2147483563),S):=fun j=>xZ ∅;rwa[fZ,m1,m2,m3,m4,m5]
def GX(ns:List Int){k:Int}(k0:0<=k):∃z,uV [.kl ns,.int k] S=some (.ref S.length,S++[.lst [.int z]]):=by
 unfold uV;rw[Mx];have m1:pH (.int 5) (.int k) S=some (.int (5*k),S):=sQ (.inl ∅);have m2:∀j:Int,uC (.int j) (.int 2) S=some (.int (j % 2),S):=fun j=>xZ ∅;have m3:∀j:Int,FQ (.int j) (.int 2) S=some (.int (j / 2),S):=fun j=>JR ⟨∅,∅⟩;have m4:∀j:Int,pH (.int j) (.int 30011) S=some (.int (j*30011),S):=fun j=>sQ (.inr ∅);have m5:pH (.int 977) (.int k) S=some (.int (977*k),S):=sQ (.inl ∅);have m6:∀j:Int,uC (.int j) (.int 2147483563) S=some (.int (j % 2147483563),S):=fun j=>xZ ∅;have r60:bA (ag (cC (.int 60)) ay)=fun ρ S=>some (jJ 0 60,fun _=>True,S):=rfl;have er:jJ 0 60=((ZF 60).map fun i:Nat=>(i:Int)).map U.int:=by rw[tK,Zc]
 have key:∀num:Int,∃z,((aS (dY (aR (cOp fEq (cOp uC (ak 2) (cC (.int 2))) (cC (.int 0)))) (b7 (hX (ag (cOp FQ (ak 2) (cC (.int 2))) ay))) bW)
  (aS (cQ 3 (cOp uC (cOp i8 (cOp i8 (cOp pH (ak 2) (cC (.int 30011))) (cOp pH (cC (.int 977)) (ak 1))) (cC (.int 41))) (cC (.int 2147483563))))
  (aS (cQ 4 (cC (.int 0)))
  (aS (oP (bA (ag (cC (.int 60)) ay)) (gNm 5) fZ)
  (b7 (hX (ag (ak 4) ay))))))) [some (.kl ns),some (.int k),some (.int num),none,none,none] S).bind kFn=some (.ref S.length,S++[.lst [.int z]]):=fun num=>by
  by_cases e:num % 2=0;refine⟨num / 2,?_⟩;have e':decide (num % 2=0)=true:=Xc e;rwa[m2,m3,e'];have e':decide (num % 2=0)=false:=Xa e;obtain⟨a',f',r5',h⟩:=sV (S:=S) (r0:=some (.kl ns)) (r1:=some (.int k)) (r2:=some (.int num)) ((ZF 60).map fun i:Nat=>(i:Int)) ((num*30011+977*k+41) % 2147483563) 0 none (Int.emod_nonneg _ ∅) (Int.emod_lt_of_pos _ ∅);rw[<-er]at h;refine⟨f',?_⟩;rwa[m2,e',m4,m5,m6,oP,r60,h]
 by_cases hk:k<(ns.length:Int);have hk':decide (k<(ns.length:Int))=true:=Xc hk;have hi:k.toNat<ns.length:=by omega
 have ha:atI (ns.map U.int) k=some (.int ns[k.toNat]):=by
  have:=iW (xs:=ns.map U.int) (j:=k.toNat) (v:=.int ns[k.toNat]) (by rw[ZP,Z7 hi];rfl);rw[show((k.toNat:Nat):Int)=k from by omega]at this;exact this
 obtain⟨z,h⟩:=key ns[k.toNat];refine⟨z,?_⟩;rw[<-h];simp only[iM,m1,EW,NX,hk',ha,xW,wo,yU,yT,Jh,xY,xX,sO,lR,x_c,Gv,x3,wx,wt,wm,qL,NU,Gr,x4,lS,jR,jQ,sP,Z0,X8,X9,YO,List.set_cons_succ,YN];have hk':decide (k<(ns.length:Int))=false:=Xa hk;obtain⟨z,h⟩:=key (5*k+3);refine⟨z,?_⟩;rw[<-h];simp only[iM,m1,EW,hk',xW,wo,yU,yT,Jh,xY,xX,sO,lR,x_c,Gv,x3,wx,wt,wm,qL,NU,Gr,x4,lS,jR,jQ,sP,EU,Z0,X8,X9,YO,List.set_cons_succ,YN]
section
variable{G:Sto}{x:List Int}
def uH{α:Type}{ok:Sto->Prop}{gg:CG}{ce:CE}{S:Sto}{f:α->U}{v:α->U}{Rel:Rho->Prop}(hok:∀ys G,ok (S++(.lst ys::G))) :
  ∀(xs:List α) (ys:List U) (G:Sto) (ρ:Rho),Rel ρ->ys.length+xs.length<=9999->
  (∀x∈xs,∀ys G ρ,Rel ρ->∃ρ0,Rel ρ0/\gg (f x) ρ (S++(.lst ys::G))=some (ρ0,S++(.lst ys::G))/\ce ρ0 (S++(.lst ys::G))=some (v x,S++(.lst ys::G)))->
  gC ok gg ce S.length (xs.map f) ρ (S++(.lst ys::G))=some (S++(.lst (ys++xs.map v)::G))
 |[],ys,G,ρ,_,_,_=>by simp only[XU,Zj];exact gR (hok ys G)
 |x::xs,ys,G,ρ,hr,hl,hb=>by
  rw[ZZ]at hl;obtain⟨ρ0,r0,h1,h2⟩:=hb x ZG ys G ρ hr;have h:=uH hok xs (ys++[v x]) G ρ0 r0 (by simp;omega) (fun x hx=>hb x (ZJ _ hx));rw[ZK];refine(dR (hok ys G) h1 h2 (by rw[ga0];rfl) (by unfold LIM;omega)).trans ?_;rw[gs0];simp only[YO];rw[h];simp only[ZK,ZO,XZ,Zf]
end
variable{α:Type}
section
variable{κ κ' β:Type}[DecidableEq κ][DecidableEq κ']
def De(kf:κ->κ')(vf:α->β)(inj:∀a b,kf a=kf b->a=b)(ps:List (κ×α))(k:κ)(v:α):gB (ps.map fun p=>(kf p.1,vf p.2)) (kf k) (vf v)=(gB ps k v).map fun p=>(kf p.1,vf p.2):=by
 have hd:∀a,decide (kf a=kf k)=decide (a=k):=fun a=>by
  rw[XI,decide_eq_true_eq,decide_eq_true_eq];exact⟨inj a k,fun h=>by rw[h]⟩
 have ha:((ps.map fun p=>(kf p.1,vf p.2)).any fun kv=>decide (kv.1=kf k))=ps.any fun kv=>decide (kv.1=k):=by
  rw[List.any_map];congr 1;funext p;exact hd p.1
 unfold gB;rw[ha];by_cases h:(ps.any fun kv=>decide (kv.1=k))=true;rw[Xd h,Xd h,Zc,Zc];refine XD fun p _=>?_;show(if kf p.1=kf k then(kf p.1,vf v)else(kf p.1,vf p.2))=_;by_cases e:p.1=k;simp[e];have e':¬kf p.1=kf k:=fun z=>e (inj _ _ z);simp[e,e'];rw[Xf h,Xf h,Zo];rfl
def Hq{ps:List (κ×α)}{k:κ}{v:α}(h:(ps.map (·.1)).Nodup):((gB ps k v).map (·.1)).Nodup:=by
 unfold gB;by_cases e:(ps.any fun kv=>decide (kv.1=k))=true
 ·rw[Xd e,Zc];have:((fun x:κ×α=>x.1) ∘ fun kv=>if kv.1=k then(kv.1,v)else kv)=fun x=>x.1:=by
   funext p;show(if p.1=k then(p.1,v)else p).1=p.1;split<;>rfl
  rw[this];exact h
 rw[Xf e,Zo,Xr];refine⟨h,nofun,fun a ha b hb z=>?_⟩;rw[List.map_singleton,ZN]at hb;obtain⟨p,hp,hp2⟩:=Zr.mp ha;exact e (List.any_eq_true.mpr ⟨p,hp,Xc (by rw[hp2,z,hb])⟩)
def Dd{ps:List (κ×α)}{k:κ}{v:α}{q:κ×α}(h:q∈gB ps k v):q.1=k\/∃p∈ps,p.1=q.1:=by
 unfold gB at h;split at h;obtain⟨p,hp,e⟩:=Zr.mp h;by_cases z:p.1=k;rw[Xd z]at e;rw[<-e];exact .inl z;rw[Xf z]at e;rw[<-e];exact .inr ⟨p,hp,rfl⟩;rcases Zz.mp h with z|z;exact .inr ⟨q,z,rfl⟩;rw[ZN.mp z];exact .inl rfl
end
def eL{ca cb:CS}{ρ ρ':Rho}{S S':Sto}(h:ca ρ S=some (.nx,ρ',S')):aS ca cb ρ S=cb ρ' S':=by rw[xW,h,Z0,wo]
def Wp{α:Type}(x:Option α)(Q:α->Prop):Prop:=∃r,x=some r/\Q r
section
variable{x:Option α}{Q P:α->Prop}
def Wp.mono(h:Wp x P)(i:∀r,P r->Q r):Wp x Q:=let ⟨r,e,p⟩:=h;⟨r,e,i r p⟩
def Wp.of{r:α}(h:x=some r)(q:Q r):Wp x Q:=⟨r,h,q⟩
end
section
variable{ci:CI}{ca:CE}{gg:CG}{ct t:CT}{ce:CE}{cb:CS}{caps:List Nat}{ρ:Rho}{cs:Rho}{S1:Sto}{ok:Sto->Prop}{xs:List α}{f v:α->U}{p:α->Bool}{Q:U×Sto->Prop}{R:Out×Rho×Sto->Prop}
def o9(h:ca ρ S=some (.ref l,S1))(hl:S1[l]?=some (.lst us)):iTp ca ρ S=some (us,fun S=>S[l]?=some (.lst us),S1):=by
 unfold iTp;rw[h,Z0];simp only[hl]
def iI{cr:CA}{n:Int}(h:cr ρ S=some ([.int n],S1))(n0:0<=n)(n1:n<=1000):bA cr ρ S=some (jJ 0 n.toNat,fun _=>True,S1):=by
 have hb:-(2^62)<=n/\n<2^62:=by omega
 unfold bA;rw[h,Z0];simp only[hb,and_self,if_true]
def nZ(n:Nat):jJ 0 n=(ZF n).map fun i:Nat=>U.int (i:Int):=by rw[tK,Zc];rfl
def zy(hi:ci ρ S=some (xs.map f,ok,S1))(hok:∀G,ok (S1++G))(hn:xs.length<=9000)(hr:sM 1 caps ρ=none::cs)
  (hb:∀x∈xs,∀G,Wp (ct (some (f x)::cs) (S1++G)) fun s=>s.1=p x/\∃G1,s.2=S1++G++G1/\(p x=true->Wp (ce (some (f x)::cs) (S1++G++G1)) fun t=>t.1=v x/\∃G2,t.2=S1++G++G1++G2))
  (hQ:∀G,Q (.ref S1.length,S1++(.lst ((xs.filter p).map v)::G))):Wp (iV ci (gNm 0) ct ce 1 caps ρ S) Q:=by
 obtain⟨G,e⟩:=lG (S:=S1) (ok:=ok) (gg:=gNm 0) (ct:=ct) (ce:=ce) (f:=f) (p:=p) (v:=v) (Rel:=fun ρ=>∃r0,ρ=r0::cs) (fun ys G=>hok _) xs [] [] (none::cs) ⟨_,rfl⟩ (by simp;omega) (fun x hx ys G ρ hρ=>by
  obtain⟨r0,rfl⟩:=hρ;obtain⟨⟨b,S2⟩,e1,e2,G1,e3,h⟩:=hb x hx (.lst ys::G);dsimp only at e2 e3;subst e2 e3;refine⟨some (f x)::cs,G1,⟨_,rfl⟩,rfl,by rw[e1,ZO,XZ],fun hp=>?_⟩;obtain⟨⟨b,S2⟩,e4,e5,G2,e6⟩:=h hp;dsimp only at e5 e6;subst e5 e6;refine⟨G2,?_⟩;simp only[ZO,XZ]at e4 ⊢;exact e4)
 refine⟨_,?_,hQ G⟩;unfold iV;rw[hi,Z0,hr];dsimp only;rw[e];rfl
def CJ(hi:ci ρ S=some (xs.map f,ok,S1))(hok:∀G,ok (S1++G))(hn:xs.length<=9000)(hr:sM 1 caps ρ=none::cs)
  (hb:∀x∈xs,∀G,Wp (ce (some (f x)::cs) (S1++G)) fun t=>t.1=v x/\∃G2,t.2=S1++G++G2)
  (hQ:∀G,Q (.ref S1.length,S1++(.lst (xs.map v)::G))):Wp (bX ci (gNm 0) ce 1 caps ρ S) Q:=by
 obtain⟨G,e⟩:=xD (S:=S1) (ok:=ok) (gg:=gNm 0) (ce:=ce) (f:=f) (v:=v) (Rel:=fun ρ=>∃r0,ρ=r0::cs) (fun ys G=>hok _) xs [] [] (none::cs) ⟨_,rfl⟩ (by simp;omega) (fun x hx ys G ρ hρ=>by
  obtain⟨r0,rfl⟩:=hρ;obtain⟨⟨b,S2⟩,e1,e2,G1,e3⟩:=hb x hx (.lst ys::G);dsimp only at e2 e3;subst e2 e3;exact⟨some (f x)::cs,G1,⟨_,rfl⟩,rfl,by rw[e1,ZO,XZ]⟩)
 refine⟨_,?_,hQ G⟩;unfold bX;rw[hi,Z0,hr];dsimp only;rw[e];rfl
def QF{F:Fn}(h:Wp (ce ρ S) fun r=>Wp (F [r.1] r.2) Q):Wp (cCB F (ag ce ay) ρ S) Q:=by
 obtain⟨⟨u,S2⟩,e,r,e2,q⟩:=h;refine⟨r,?_,q⟩;rw[Gr,lS,e];exact e2
def QH{bs:List Bool}(hl:S[l]?=some (.lst (bs.map U.bl)))(q:Q (.bl (bs.all id),S)):Wp (Mr [.ref l] S) Q:=
 .of (by simp only[Mr,hl,rX,Z0]) q
def MV(hi:ci ρ S=some (us,ok,S1))(h:Wp (fu ok gg cb us ρ S1) R):Wp (oP ci gg cb ρ S) R:=by
 unfold oP;rw[hi];exact h
def CH(I:List α->Rho->Sto->Prop)(h0:∀ρ S,I [] ρ S->ok S/\R (.nx,ρ,S))
  (h1:∀x xs ρ S,I (x::xs) ρ S->ok S/\Wp (gg (f x) ρ S) fun r=>Wp (cb r.1 r.2) fun s=>(s.1=.nx/\I xs s.2.1 s.2.2)\/∃v,s.1=.rt v/\R s) :
  ∀(xs:List α) (ρ:Rho) (S:Sto),I xs ρ S->Wp (fu ok gg cb (xs.map f) ρ S) R
 |[],ρ,S,h=>by
  obtain⟨a,b⟩:=h0 ρ S h;exact .of (iH a) b
 |x::xs,ρ,S,h=>by
  obtain⟨a,⟨ρ0,S0⟩,e1,⟨o,ρ1,S1⟩,e2,c⟩:=h1 x xs ρ S h;rcases c with⟨c,i⟩|⟨v,c,q⟩;cases c;obtain⟨r,e3,q⟩:=CH I h0 h1 xs ρ1 S1 i;exact⟨r,(jg a e1 e2).trans e3,q⟩;cases c;exact⟨_,HY a e1 e2,q⟩
end
abbrev uR(l:Nat):Option U:=some (.ref l)
abbrev uI(i:Int):Option U:=some (.int i)
inductive Pl where
 |k (j f:Nat)|a (j:Nat) (a:Int) (f:Nat)|x (n i:Nat)
deriving DecidableEq
noncomputable def aD(c:Pl->O)(s:Pl)(o:O):Pl->O:=fun s'=>if s'=s then o else c s'
def bZ(pos:Pl->Option Nat)(s:Pl)(p:Nat):Pl->Option Nat:=fun s'=>if s'=s then some p else pos s'
structure Mm(pos:Pl->Option Nat)(c:Pl->O)(T:Sto):Prop where
 at_:∀s p,pos s=some p->T[p]?=some (c s)
 inj:∀s s' p,pos s=some p->pos s'=some p->s=s'
variable{pos:Pl->Option Nat}{c:Pl->O}{T:Sto}{s:Pl}{o:O}
section
variable{s':Pl}{p:Nat}
def aG:aD c s o s=o:=Xd rfl
def ah(h:s'≠s):aD c s o s'=c s':=Xf h
def cI:bZ pos s p s=some p:=Xd rfl
def aw(h:s'≠s):bZ pos s p s'=pos s':=Xf h
def Mm.lt(M:Mm pos c T)(h:pos s=some p):p<T.length:=(Q6.mp (M.at_ s p h)).1
def Mm.get(M:Mm pos c T)(h:pos s=some p)(e:c s=o):T[p]?=some o:=by rw[M.at_ s p h,e]
def Mm.set(M:Mm pos c T)(h:pos s=some p)(o:O):Mm pos (aD c s o) (T.set p o):=by
 refine⟨fun s' q hq=>?_,M.inj⟩;by_cases e:s'=s;subst e;rw[h]at hq;cases hq;rw[aG,Zt,Xd rfl,Xd (M.lt h)];rw[ah e,ZS (fun z=>by subst z;exact e (M.inj _ _ _ hq h))];exact M.at_ s' q hq
def Mm.app(M:Mm pos c T)(X:Sto):Mm pos c (T++X):=⟨fun s p h=>aF (M.at_ s p h),M.inj⟩
def Mm.newP(M:Mm pos c T)(h:T[p]?=some o)(hp:∀s',pos s'≠some p)(s:Pl):Mm (bZ pos s p) (aD c s o) T:=by
 refine⟨fun s' q hq=>?_,fun s1 s2 q h1 h2=>?_⟩;by_cases e:s'=s;subst e;rw[cI]at hq;cases hq;rw[aG];exact h;rw[aw e]at hq;rw[ah e];exact M.at_ s' q hq;by_cases e1:s1=s;by_cases e2:s2=s;rw[e1,e2];rw[e1,cI]at h1;rw[aw e2]at h2;cases h1;exact absurd h2 (hp s2);rw[aw e1]at h1;by_cases e2:s2=s;rw[e2,cI]at h2;cases h2;exact absurd h1 (hp s1);rw[aw e2]at h2;exact M.inj s1 s2 q h1 h2
def Mm.new(M:Mm pos c T)(s:Pl)(o:O)(X:Sto):Mm (bZ pos s T.length) (aD c s o) (T++(o::X)):=
 (M.app (o::X)).newP (by rw[ga0];rfl) (fun s' e=>absurd (M.lt e) (XM _)) s
end
structure Ac where
 g:Int
 lk:List Int
 pu:List (Int×Int)
 st:Option Int
 un:List Int
 op:Bool
structure Kc where
 bx:List Int
 ma:List Int
 ho:List (Int×Int)
 tk:Int
 ev:List U
 ids:List Int
 A:Int->Ac
def dI(l:List (Int×Int)):List (Key×U):=l.map fun p=>(.inl p.1,.int p.2)
def dT(l:List Int):List (Key×U):=l.map fun b=>(.inl b,.bl true)
def stU:Option Int->U
 |none=>.non
 |some t=>.int t
def Kc.up(K:Kc)(a:Int)(v:Ac):Kc:={ K with A:=fun x=>if x=a then v else K.A x }
abbrev kO(cK:Cl)(p:Nat->Nat)(tk:Int):O:=.ins cK [uR (p 1),uR (p 2),uR (p 3),uI tk,uR (p 4),uR (p 5)]
abbrev aO(cA:Cl)(r:Nat->Nat)(g:Int)(s:U)(u:Nat)(o:Bool):O:=.ins cA [uI g,uR (r 1),uR (r 2),some s,uR u,some (.bl o)]
structure Kr(cK cA:Cl)(j:Nat)(pos:Pl->Option Nat)(c:Pl->O)(K:Kc)(p:Nat->Nat)(q:Int->Nat->Nat):Prop where
 pk:∀f,f<6->pos (.k j f)=some (p f)
 c0:c (.k j 0)=kO cK p K.tk
 c1:c (.k j 1)=.lst (K.bx.map U.int)
 c2:c (.k j 2)=.lst (K.ma.map U.int)
 c3:c (.k j 3)=.dic (dI K.ho)
 c4:c (.k j 4)=.lst K.ev
 c5:c (.k j 5)=.dic (K.ids.map fun a=>(.inl a,.ref (q a 0)))
 pa:∀a∈K.ids,∀f,f<4->pos (.a j a f)=some (q a f)
 a0:∀a∈K.ids,c (.a j a 0)=aO cA (q a) ((K.A a).g) (stU (K.A a).st) (q a 3) ((K.A a).op)
 a1:∀a∈K.ids,c (.a j a 1)=.dic (dT (K.A a).lk)
 a2:∀a∈K.ids,c (.a j a 2)=.dic (dI (K.A a).pu)
 a3:∀a∈K.ids,c (.a j a 3)=.lst ((K.A a).un.map U.int)
def own(j:Nat):Pl->Prop
 |.k i _=>i=j
 |.a i _ _=>i=j
 |.x _ _=>False
def Fm(j:Nat)(pos:Pl->Option Nat)(c:Pl->O)(pos':Pl->Option Nat)(c':Pl->O):Prop:=∀s,¬own j s->pos' s=pos s/\c' s=c s
variable{cK cA:Cl}{pos' pos'':Pl->Option Nat}{c' c'':Pl->O}{K:Kc}{p:Nat->Nat}{a b:Int}
section
variable{q:Int->Nat->Nat}
def Fm.refl:Fm j pos c pos c:=fun _ _=>⟨rfl,rfl⟩
def Fm.trans(h:Fm j pos c pos' c')(h':Fm j pos' c' pos'' c''):Fm j pos c pos'' c'':=fun s n=>⟨(h' s n).1.trans (h s n).1,(h' s n).2.trans (h s n).2⟩
def Fm.upd(h:Fm j pos c pos' c')(hs:own j s):Fm j pos c pos' (aD c' s o):=fun s' n'=>⟨(h s' n').1,by rw[ah (fun e=>n' (by rw[e];exact hs))];exact(h s' n').2⟩
def Fm.pn(h:Fm j pos c pos' c')(hs:own j s):Fm j pos c (bZ pos' s n) c':=fun s' n'=>⟨by rw[aw (fun e=>n' (by rw[e];exact hs))];exact(h s' n').1,(h s' n').2⟩
def Fm.uk(h:Fm j pos c pos' c')(f:Nat):Fm j pos c pos' (aD c' (.k j f) o):=h.upd rfl
def Fm.ua(h:Fm j pos c pos' c')(a:Int)(f:Nat):Fm j pos c pos' (aD c' (.a j a f) o):=h.upd rfl
def Kr.ev(R:Kr cK cA j pos c K p q)(ev:List U):Kr cK cA j pos (aD c (.k j 4) (.lst ev)) { K with ev:=ev } p q:=
 ⟨R.pk,by simpa [aD,Kc.up] using R.c0,by simpa [aD,Kc.up] using R.c1,by simpa [aD,Kc.up] using R.c2,by simpa [aD,Kc.up] using R.c3,by simp[aD],by simpa [aD,Kc.up] using R.c5,R.pa,fun a h=>by simpa [aD] using R.a0 a h,fun a h=>by simpa [aD] using R.a1 a h,fun a h=>by simpa [aD] using R.a2 a h,fun a h=>by simpa [aD] using R.a3 a h⟩
def Kr.bx(R:Kr cK cA j pos c K p q)(bx:List Int):Kr cK cA j pos (aD c (.k j 1) (.lst (bx.map U.int))) { K with bx:=bx } p q:=
 ⟨R.pk,by simpa [aD,Kc.up] using R.c0,by simp[aD],by simpa [aD,Kc.up] using R.c2,by simpa [aD,Kc.up] using R.c3,by simpa [aD,Kc.up] using R.c4,by simpa [aD,Kc.up] using R.c5,R.pa,fun a h=>by simpa [aD] using R.a0 a h,fun a h=>by simpa [aD] using R.a1 a h,fun a h=>by simpa [aD] using R.a2 a h,fun a h=>by simpa [aD] using R.a3 a h⟩
def Kr.ma(R:Kr cK cA j pos c K p q)(ma:List Int):Kr cK cA j pos (aD c (.k j 2) (.lst (ma.map U.int))) { K with ma:=ma } p q:=
 ⟨R.pk,by simpa [aD,Kc.up] using R.c0,by simpa [aD,Kc.up] using R.c1,by simp[aD],by simpa [aD,Kc.up] using R.c3,by simpa [aD,Kc.up] using R.c4,by simpa [aD,Kc.up] using R.c5,R.pa,fun a h=>by simpa [aD] using R.a0 a h,fun a h=>by simpa [aD] using R.a1 a h,fun a h=>by simpa [aD] using R.a2 a h,fun a h=>by simpa [aD] using R.a3 a h⟩
def Kr.ho(R:Kr cK cA j pos c K p q)(ho:List (Int×Int)):Kr cK cA j pos (aD c (.k j 3) (.dic (dI ho))) { K with ho:=ho } p q:=
 ⟨R.pk,by simpa [aD,Kc.up] using R.c0,by simpa [aD,Kc.up] using R.c1,by simpa [aD,Kc.up] using R.c2,by simp[aD],by simpa [aD,Kc.up] using R.c4,by simpa [aD,Kc.up] using R.c5,R.pa,fun a h=>by simpa [aD] using R.a0 a h,fun a h=>by simpa [aD] using R.a1 a h,fun a h=>by simpa [aD] using R.a2 a h,fun a h=>by simpa [aD] using R.a3 a h⟩
def Kr.tk(R:Kr cK cA j pos c K p q)(tk:Int):Kr cK cA j pos (aD c (.k j 0) (kO cK p tk)) { K with tk:=tk } p q:=
 ⟨R.pk,by simp[aD],by simpa [aD,Kc.up] using R.c1,by simpa [aD,Kc.up] using R.c2,by simpa [aD,Kc.up] using R.c3,by simpa [aD,Kc.up] using R.c4,by simpa [aD,Kc.up] using R.c5,R.pa,fun a h=>by simpa [aD] using R.a0 a h,fun a h=>by simpa [aD] using R.a1 a h,fun a h=>by simpa [aD] using R.a2 a h,fun a h=>by simpa [aD] using R.a3 a h⟩
def Kr.ao(R:Kr cK cA j pos c K p q)(g:Int)(st:Option Int)(op:Bool) :
  Kr cK cA j pos (aD c (.a j a 0) (aO cA (q a) g (stU st) (q a 3) op)) (K.up a { K.A a with g:=g,st:=st,op:=op }) p q:=by
 refine⟨R.pk,by simpa [aD,Kc.up] using R.c0,by simpa [aD,Kc.up] using R.c1,by simpa [aD,Kc.up] using R.c2,by simpa [aD,Kc.up] using R.c3,by simpa [aD,Kc.up] using R.c4,by simpa [aD,Kc.up] using R.c5,R.pa,fun b h=>?_,fun b h=>?_,fun b h=>?_,fun b h=>?_⟩;by_cases e:b=a;subst e;simp[aD,Kc.up];have:=R.a0 b h;simpa [aD,Kc.up,e] using this;have:=R.a1 b h;by_cases e:b=a;subst e;simpa [aD,Kc.up] using this;simpa [aD,Kc.up,e] using this;have:=R.a2 b h;by_cases e:b=a;subst e;simpa [aD,Kc.up] using this;simpa [aD,Kc.up,e] using this;have:=R.a3 b h;by_cases e:b=a;subst e;simpa [aD,Kc.up] using this;simpa [aD,Kc.up,e] using this
def Kr.al(R:Kr cK cA j pos c K p q)(lk:List Int):Kr cK cA j pos (aD c (.a j a 1) (.dic (dT lk))) (K.up a { K.A a with lk:=lk }) p q:=by
 refine⟨R.pk,by simpa [aD,Kc.up] using R.c0,by simpa [aD,Kc.up] using R.c1,by simpa [aD,Kc.up] using R.c2,by simpa [aD,Kc.up] using R.c3,by simpa [aD,Kc.up] using R.c4,by simpa [aD,Kc.up] using R.c5,R.pa,fun b h=>?_,fun b h=>?_,fun b h=>?_,fun b h=>?_⟩;have:=R.a0 b h;by_cases e:b=a;subst e;simpa [aD,Kc.up] using this;simpa [aD,Kc.up,e] using this;have:=R.a1 b h;by_cases e:b=a;subst e;simp[aD,Kc.up];simpa [aD,Kc.up,e] using this;have:=R.a2 b h;by_cases e:b=a;subst e;simpa [aD,Kc.up] using this;simpa [aD,Kc.up,e] using this;have:=R.a3 b h;by_cases e:b=a;subst e;simpa [aD,Kc.up] using this;simpa [aD,Kc.up,e] using this
def Kr.ap(R:Kr cK cA j pos c K p q)(pu:List (Int×Int)):Kr cK cA j pos (aD c (.a j a 2) (.dic (dI pu))) (K.up a { K.A a with pu:=pu }) p q:=by
 refine⟨R.pk,by simpa [aD,Kc.up] using R.c0,by simpa [aD,Kc.up] using R.c1,by simpa [aD,Kc.up] using R.c2,by simpa [aD,Kc.up] using R.c3,by simpa [aD,Kc.up] using R.c4,by simpa [aD,Kc.up] using R.c5,R.pa,fun b h=>?_,fun b h=>?_,fun b h=>?_,fun b h=>?_⟩;have:=R.a0 b h;by_cases e:b=a;subst e;simpa [aD,Kc.up] using this;simpa [aD,Kc.up,e] using this;have:=R.a1 b h;by_cases e:b=a;subst e;simpa [aD,Kc.up] using this;simpa [aD,Kc.up,e] using this;have:=R.a2 b h;by_cases e:b=a;subst e;simp[aD,Kc.up];simpa [aD,Kc.up,e] using this;have:=R.a3 b h;by_cases e:b=a;subst e;simpa [aD,Kc.up] using this;simpa [aD,Kc.up,e] using this
def Kr.au(R:Kr cK cA j pos c K p q)(un:List Int):Kr cK cA j pos (aD c (.a j a 3) (.lst (un.map U.int))) (K.up a { K.A a with un:=un }) p q:=by
 refine⟨R.pk,by simpa [aD,Kc.up] using R.c0,by simpa [aD,Kc.up] using R.c1,by simpa [aD,Kc.up] using R.c2,by simpa [aD,Kc.up] using R.c3,by simpa [aD,Kc.up] using R.c4,by simpa [aD,Kc.up] using R.c5,R.pa,fun b h=>?_,fun b h=>?_,fun b h=>?_,fun b h=>?_⟩;have:=R.a0 b h;by_cases e:b=a;subst e;simpa [aD,Kc.up] using this;simpa [aD,Kc.up,e] using this;have:=R.a1 b h;by_cases e:b=a;subst e;simpa [aD,Kc.up] using this;simpa [aD,Kc.up,e] using this;have:=R.a2 b h;by_cases e:b=a;subst e;simpa [aD,Kc.up] using this;simpa [aD,Kc.up,e] using this;have:=R.a3 b h;by_cases e:b=a;subst e;simp[aD,Kc.up];simpa [aD,Kc.up,e] using this
end
def xG{S:Sto}{ci:CE}{el:CE}{n:Nat}{caps:List Nat}{ρ:Rho}{ld:Nat}{kus:List (Key×U)}{v:Key×U->U}{r:Rho}(hi:ci ρ S=some (.ref ld,S))(hd:S[ld]?=some (.dic kus))(hr:sM 1 caps ρ=none::r)(hl:kus.length<=900)
  (he:∀ep ys,∀p∈kus,el (some (kU p.1)::r) (S.set ld (.fdc ep kus)++[.lst ys])=some (v p,S.set ld (.fdc ep kus)++[.lst ys])) :
  jM ci (gNm 0) el 1 caps ρ S=some (.ref S.length,S++[.lst (kus.map v)]):=by
 have lk:ld<S.length:=(Q6.mp hd).1;unfold jM BI;rw[hi,Z0];simp only[hd];refine E3 fun ep=>?_;have ek:∀X:Sto,(S.set ld (.fdc ep kus)++X)[ld]?=some (.fdc ep kus):=fun X=>aF (by rw[Zt,Xd rfl,Xd lk]);have key:∀(ks:List (Key×U)) (ys:List U) (r0:Option U),(∀p∈ks,p∈kus)->ys.length+ks.length<=9999->gC (fun S'=>S'[ld]?=some (.fdc ep kus)) (gNm 0) el S.length (ks.map fun p=>kU p.1) (r0::r) (S.set ld (.fdc ep kus)++[.lst ys])=some (S.set ld (.fdc ep kus)++[.lst (ys++ks.map v)]):=by
  intro ks;induction ks with
  |nil=>intro ys r0 _ _;rw[XU,XU,Zj];exact gR (ek _)
  |cons p ks ih=>
   intro ys r0 hm hn;rw[ZZ]at hn;rw[ZK,ZK];refine(dR (ρ0:=some (kU p.1)::r) (S0:=S.set ld (.fdc ep kus)++[.lst ys]) (S1:=S.set ld (.fdc ep kus)++[.lst ys]) (x:=v p) (ys:=ys) (ek _) rfl (he ep ys p (hm p ZG)) ?_ (by unfold LIM;omega)).trans ?_;have:=ga0 (S:=S.set ld (.fdc ep kus)) (X:=[.lst ys]);rw[Zx]at this;rw[this];rfl;have:=gs0 (S:=S.set ld (.fdc ep kus)) (X:=[.lst ys]) (o:=.lst (ys++[v p]));rw[Zx]at this;rw[this];show gC _ _ _ _ _ _ (S.set ld (.fdc ep kus)++[.lst (ys++[v p])])=_;rw[ih (ys++[v p]) _ (fun q hq=>hm q (ZJ _ hq)) (by simp;omega),ZO];rfl
 rw[hr,key kus [] none (fun p h=>h) (by simp;omega),Z0];have e2:(S.set ld (.fdc ep kus)++[O.lst ([]++kus.map v)]).set ld (.dic kus)=S++[.lst (kus.map v)]:=by
  rw[List.set_append_left _ _ (by rw[Zx];exact lk),CW hd,Zf]
 simp only[ek,e2]
section
variable{q:Int->Nat->Nat}{ids:List Int}{l:List (Int×Int)}{xs:List Int}
def jS:∀{ids:List Int},a∈ids->bF (ids.map fun a=>((.inl a:Key),U.ref (q a 0))) (.inl a)=uR (q a 0)
 |x::r,h=>by
  unfold bF;rw[ZK,Zg];by_cases e:x=a;subst e;simp;have hd:decide ((.inl x:Key)=.inl a)=false:=Xa fun z=>e (Sum.inl.inj z);rw[hd];exact jS (ids:=r) ((ZD.mp h).resolve_left fun z=>e z.symm)
def pM:∀{ids:List Int},a∉ids->bF (ids.map fun a=>((.inl a:Key),U.ref (q a 0))) (.inl a)=none
 |[],_=>rfl
 |x::r,h=>by
  unfold bF;rw[ZK,Zg];have hd:decide ((.inl x:Key)=.inl a)=false:=Xa fun z=>h (by rw[<-Sum.inl.inj z];exact ZG);rw[hd];exact pM (ids:=r) fun z=>h (ZJ _ z)
def j8(b:Int):∀(l:List (Int×Int)),bF (dI l) (.inl b)=(bF l b).map U.int
 |[]=>rfl
 |(x,v)::r=>by
  have ih:=j8 b r;unfold bF dI at *;rw[ZK,Zg,Zg];by_cases e:x=b
  ·subst e;simp
  ·have hd:decide ((.inl x:Key)=.inl b)=false:=Xa fun z=>e (Sum.inl.inj z);have hd':decide (x=b)=false:=Xa e;dsimp only;rw[hd,hd'];exact ih
def Ae(l:List (Int×Int))(b v:Int):gB (dI l) (.inl b) (.int v)=dI (gB l b v):=De (κ':=Key) Sum.inl U.int (fun _ _ h=>Sum.inl.inj h) l b v
def Fs(l:List Int)(b:Int):gB (dT l) (.inl b) (.bl true)=dT (pL l b):=C8 b l
def IS(l:List (Int×Int))(b:Int):jZ (dI l) (.inl b)=dI (jZ l b):=by
 unfold jZ dI;rw[List.filter_map];congr 1;refine List.filter_congr fun p _=>?_;simp
def Np(b0:0<=b)(b1:b<xs.length):atI (xs.map U.int) b=uI (xs.getD b.toNat 0):=by
 have hi:b.toNat<xs.length:=by omega
 have:=iW (xs:=xs.map U.int) (j:=b.toNat) (v:=.int xs[b.toNat]) (by rw[ZP,Z7 hi];rfl);rw[show((b.toNat:Nat):Int)=b from by omega]at this;rw[this,Xh,Z7 hi];rfl
def Ql(b0:0<=b)(b1:b<xs.length):ixN (xs.map U.int).length b=some b.toNat:=by
 unfold ixN;rw[Xd b0,Xd (by rw[Q7];exact b1)]
end
def brd(K:Kc)(a:Int)(bs:List Int):Bool:=bs.any fun b=>!decide ((bF K.ho b).getD a=a)
def Io(K:Kc)(a:Int):Bool:=(K.A a).lk.any fun b=>decide ((K.A a).g<K.ma.getD b.toNat 0)
def MU(K:Kc)(a b:Int):Bool:=brd K a [b]||(!decide (K.ma.getD b.toNat 0<=(K.A a).g)&&(brd K a (K.A a).lk||Io K a))
structure Kw(K:Kc)(n:Nat):Prop where
 lb:K.bx.length=n
 lm:K.ma.length=n
 few:n<=900
 ids:K.ids.Nodup
 lk:∀a∈K.ids,(K.A a).lk.length<=900/\∀b∈(K.A a).lk,0<=b/\b<n
 pu:∀a∈K.ids,(K.A a).pu.length<64/\((K.A a).pu.map (·.1)).Nodup/\∀e∈(K.A a).pu,0<=e.1/\e.1<n
def Nx(cK cA:Cl)(j:Nat)(pos:Pl->Option Nat)(c:Pl->O)(p:Nat->Nat)(K':Kc)(T':Sto):Prop:=∃pos' c' q',Mm pos' c' T'/\Kr cK cA j pos' c' K' p q'/\Fm j pos c pos' c'
section
variable{q:Int->Nat->Nat}
def Kc.end(K:Kc)(a:Int)(w:Str):Kc:={ K.up a { K.A a with op:=false } with ev:=K.ev++[.tup [.str w,.int a]] }
def jO(cK cA:Cl):Fn:=fnU 4 3 (jn cK cA)
def oy{w:Str}(M:Mm pos c T)(R:Kr cK cA j pos c K p q)(ha:a∈K.ids)(hl:K.ev.length<=9000):Wp (jO cK cA [.ref (p 0),.int a,.str w] T) fun r=>r.1=.non/\Nx cK cA j pos c p (K.end a w) r.2:=by
 have t0:=M.get (R.pk 0 ∅) R.c0;have t5:=M.get (R.pk 5 ∅) R.c5;have tr:=M.get (R.pa a ha 0 ∅) (R.a0 a ha);have v:=jS (q:=q) ha;have M1:=M.set (R.pa a ha 0 ∅) (aO cA (q a) ((K.A a).g) (stU (K.A a).st) (q a 3) false);have R1:=R.ao (a:=a) (K.A a).g (K.A a).st false;have s0:=M1.get (R1.pk 0 ∅) R1.c0;have s4:=M1.get (R1.pk 4 ∅) R1.c4;have hL:K.ev.length<LIM:=by unfold LIM;omega
 refine⟨(.non,_),?_,rfl,pos,_,q,M1.set (R1.pk 4 ∅) (.lst (K.ev++[.tup [.str w,.int a]])),R1.ev _,(Fm.refl.ua a 0).uk 4⟩;unfold jO;rw[MA];rwa[jn,t0,t5,v,tr,s0,s4,Kc.up,dZ hL]
def lO(cK cA:Cl):Fn:=fnU 2 2 (hJ cK cA)
def xt(M:Mm pos c T)(R:Kr cK cA j pos c K p q)(ha:a∈K.ids)(op:(K.A a).op=true):lO cK cA [.ref (p 0),.int a] T=some (.ref (q a 0),T):=by
 have t0:=M.get (R.pk 0 ∅) R.c0;have t5:=M.get (R.pk 5 ∅) R.c5;have tr:=M.get (R.pa a ha 0 ∅) (R.a0 a ha);have v:=jS (q:=q) ha;rw[op]at tr;unfold lO;rw[kW];rwa[hJ,t0,t5,v,tr,Option.isSome_some,if_true]
def iY(cK cA:Cl):Fn:=fnU 3 2 (fB (lO cK cA) cK cA)
def mQ(M:Mm pos c T)(R:Kr cK cA j pos c K p q)(ha:a∈K.ids)(op:(K.A a).op=true)(st:(K.A a).st=none):iY cK cA [.ref (p 0),.int a] T=some (.ref (q a 0),T):=by
 have t0:=M.get (R.pk 0 ∅) R.c0;have tr:=M.get (R.pa a ha 0 ∅) (R.a0 a ha);have f:=xt M R ha op;rw[st]at tr;unfold iY;rw[oI];rwa[fB,t0,f,tr,stU,yV,qy]
def xN(cK:Cl):CE:=cOp fNe (yF (aT cK 2 (ak 2)) (ak 0) (ak 1)) (ak 1)
def BM{S:Sto}{k0 k3:Nat}{fs:List (Option U)}{ho:List (Int×Int)}(h0:S[k0]?=some (.ins cK fs))(hf:fs[2]?=some (uR k3))(h3:S[k3]?=some (.dic (dI ho))):xN cK [uI b,uI a,uR k0] S=some (.bl (!decide ((bF ho b).getD a=a)),S):=by
 have F:Jl cK 2 (.ref k0,S)=some (.ref k3,S):=EX h0 hf;have g:((bF ho b).map U.int).getD (.int a)=.int ((bF ho b).getD a):=by cases bF ho b<;>rfl
 unfold xN;rwa[F,h3,j8,g]
def cN(cK:Cl):Fn:=fnU 3 3 (gS cK)
def any_map{α:Type}{l:Nat}{S:Sto}{xs:List α}{f:α->Bool}(h:S[l]?=some (.lst (xs.map fun x=>U.bl (f x)))):El [.ref l] S=some (.bl (xs.any f),S):=by
 have em:(xs.map fun x=>U.bl (f x))=(xs.map f).map U.bl:=by rw[Zc];rfl
 simp only[El,h,em,rX,Z0,List.any_map];rfl
def vX{lb:Nat}{bs:List Int}(M:Mm pos c T)(R:Kr cK cA j pos c K p q)(hb:T[lb]?=some (.lst (bs.map U.int)))(hl:bs.length<=900):∃X,cN cK [.ref (p 0),.int a,.ref lb] T=some (.bl (brd K a bs),T++X):=by
 have t0:=M.get (R.pk 0 ∅) R.c0;have t3:=M.get (R.pk 3 ∅) R.c3;have key:=uH (S:=T) (ok:=fun S=>S[lb]?=some (.lst (bs.map U.int))) (gg:=gNm 0) (ce:=xN cK) (f:=U.int) (v:=fun b=>.bl (!decide ((bF K.ho b).getD a=a))) (Rel:=fun ρ=>∃r0,ρ=[r0,uI a,uR (p 0)]) (fun ys G=>aF hb) bs [] [] [none,uI a,uR (p 0)] ⟨_,rfl⟩ (by simp;omega) (fun b hb' ys G ρ hρ=>by
  obtain⟨r0,rfl⟩:=hρ;exact⟨[uI b,uI a,uR (p 0)],⟨_,rfl⟩,rfl,BM (aF t0) rfl (aF t3)⟩)
 simp only[Zf]at key;have hc:bX (iTp (ak 2)) (gNm 0) (xN cK) 1 [1,0] [uR (p 0),uI a,uR lb] T=some (.ref T.length,T++[.lst (bs.map fun b=>.bl (!decide ((bF K.ho b).getD a=a)))]):=by
  have hv:ak 2 [uR (p 0),uI a,uR lb] T=some (.ref lb,T):=rfl;unfold bX iTp;rw[hv,Z0];simp only[hb,Z0,sM,ZQ,ZK,XU,X8,X9,XQ,XZ,Zf,key]
 have he:rW (bX (iTp (ak 2)) (gNm 0) (xN cK) 1 [1,0]) (jM (ak 2) (gNm 0) (xN cK) 1 [1,0]) [uR (p 0),uI a,uR lb] T=some (.ref T.length,T++[.lst (bs.map fun b=>.bl (!decide ((bF K.ho b).getD a=a)))]):=by
  unfold rW;rw[hc]
 have ha:=any_map (S:=T++[.lst (bs.map fun b=>.bl (!decide ((bF K.ho b).getD a=a)))]) (l:=T.length) (xs:=bs) (by rw[ga0];rfl);refine⟨[.lst (bs.map fun b=>.bl (!decide ((bF K.ho b).getD a=a)))],?_⟩;unfold cN;rw[uE];show((b7 (cCB El (ag (rW (bX (iTp (ak 2)) (gNm 0) (xN cK) 1 [1,0]) (jM (ak 2) (gNm 0) (xN cK) 1 [1,0])) ay))) _ T).bind kFn=_;rwa[he,ha];rfl
def vY{s:Pl}{ld:Nat}{α:Type}{xs:List α}{kf:α->Int}{vf:α->U}(M:Mm pos c T)(R:Kr cK cA j pos c K p q)(hs:pos s=some ld)(hc:c s=.dic (xs.map fun x=>(.inl (kf x),vf x)))(s1:s≠.k j 0)(s2:s≠.k j 3)(hl:xs.length<=900):∃X,cN cK [.ref (p 0),.int a,.ref ld] T=some (.bl (brd K a (xs.map kf)),T++X):=by
 have td:=M.get hs hc;have hcd:=xG (S:=T) (ci:=ak 2) (el:=xN cK) (n:=1) (caps:=[1,0]) (ρ:=[uR (p 0),uI a,uR ld]) (r:=[uI a,uR (p 0)]) (v:=fun e=>match e.1 with|.inl b=>.bl (!decide ((bF K.ho b).getD a=a))|.inr _=>.non) rfl td rfl (by simpa using hl) (fun ep ys e he=>by
  obtain⟨x,hx,rfl⟩:=Zr.mp he;have M1:=M.set hs (.fdc ep (xs.map fun x=>(.inl (kf x),vf x)));have t0:=M1.get (R.pk 0 ∅) ((ah (Ne.symm s1)).trans R.c0);have t3:=M1.get (R.pk 3 ∅) ((ah (Ne.symm s2)).trans R.c3);exact BM (aF t0) rfl (aF t3))
 rw[Zc]at hcd;have he:rW (bX (iTp (ak 2)) (gNm 0) (xN cK) 1 [1,0]) (jM (ak 2) (gNm 0) (xN cK) 1 [1,0]) [uR (p 0),uI a,uR ld] T=some (.ref T.length,T++[.lst (xs.map fun x=>.bl (!decide ((bF K.ho (kf x)).getD a=a)))]):=by
  have h1:bX (iTp (ak 2)) (gNm 0) (xN cK) 1 [1,0] [uR (p 0),uI a,uR ld] T=none:=by
   have hv:ak 2 [uR (p 0),uI a,uR ld] T=some (.ref ld,T):=rfl;unfold bX iTp;rw[hv,Z0];simp only[td];rfl
  unfold rW;rw[h1];exact hcd
 have ha:=any_map (S:=T++[.lst (xs.map fun x=>.bl (!decide ((bF K.ho (kf x)).getD a=a)))]) (l:=T.length) (xs:=xs) (by rw[ga0];rfl);refine⟨[.lst (xs.map fun x=>.bl (!decide ((bF K.ho (kf x)).getD a=a)))],?_⟩;have eb:brd K a (xs.map kf)=xs.any fun x=>!decide ((bF K.ho (kf x)).getD a=a):=by unfold brd;rw[List.any_map];rfl
 rw[eb];unfold cN;rw[uE];show((b7 (cCB El (ag (rW (bX (iTp (ak 2)) (gNm 0) (xN cK) 1 [1,0]) (jM (ak 2) (gNm 0) (xN cK) 1 [1,0])) ay))) _ T).bind kFn=_;rwa[he,ha]
def Nn(cK cA:Cl):CE:=cOp fGt (cOp fIx (aT cK 1 (ak 2)) (ak 0)) (aT cA 0 (ak 1))
def sJ(cK cA:Cl):Fn:=fnU 3 2 (dN cK cA)
def BD(M:Mm pos c T)(R:Kr cK cA j pos c K p q)(W:Kw K n)(ha:a∈K.ids):∃X,sJ cK cA [.ref (p 0),.int a] T=some (.bl (Io K a),T++X):=by
 have t0:=M.get (R.pk 0 ∅) R.c0;have t5:=M.get (R.pk 5 ∅) R.c5;have tr:=M.get (R.pa a ha 0 ∅) (R.a0 a ha);have tl:=M.get (R.pa a ha 1 ∅) (R.a1 a ha);have v:=jS (q:=q) ha;obtain⟨l1,l2⟩:=W.lk a ha;have hi:aT cA 1 (ak 2) [uR (p 0),uI a,uR (q a 0)] T=some (.ref (q a 1),T):=by
  rwa[tr]
 have hcd:=xG (S:=T) (ci:=aT cA 1 (ak 2)) (el:=Nn cK cA) (n:=1) (caps:=[2,0]) (ρ:=[uR (p 0),uI a,uR (q a 0)]) (r:=[uR (q a 0),uR (p 0)]) (v:=fun e=>match e.1 with|.inl b=>.bl (decide ((K.A a).g<K.ma.getD b.toNat 0))|.inr _=>.non) hi tl rfl (by unfold dT;simpa using l1) (fun ep ys e he=>by
  obtain⟨b,hb,rfl⟩:=Zr.mp he;obtain⟨b0,b1⟩:=l2 b hb;have M1:=M.set (R.pa a ha 1 ∅) (.fdc ep (dT (K.A a).lk));have s0:=aF (r:=[O.lst ys]) (M1.get (R.pk 0 ∅) ((ah nofun).trans R.c0));have s2:=aF (r:=[O.lst ys]) (M1.get (R.pk 2 ∅) ((ah nofun).trans R.c2));have sr:=aF (r:=[O.lst ys]) (M1.get (R.pa a ha 0 ∅) ((ah nofun).trans (R.a0 a ha)));have am:=Np (xs:=K.ma) b0 (by rw[W.lm];exact b1);show Nn cK cA [uI b,uR (q a 0),uR (p 0)] _=_;unfold Nn;rwa[s0,s2,sr,am])
 have em:((dT (K.A a).lk).map fun e=>match e.1 with|.inl b=>U.bl (decide ((K.A a).g<K.ma.getD b.toNat 0))|.inr _=>.non)=(K.A a).lk.map fun b=>U.bl (decide ((K.A a).g<K.ma.getD b.toNat 0)):=by unfold dT;rw[Zc];rfl
 rw[em]at hcd;have hn:=any_map (S:=T++[.lst ((K.A a).lk.map fun b=>U.bl (decide ((K.A a).g<K.ma.getD b.toNat 0)))]) (l:=T.length) (xs:=(K.A a).lk) (by rw[ga0];rfl);refine⟨[.lst ((K.A a).lk.map fun b=>U.bl (decide ((K.A a).g<K.ma.getD b.toNat 0)))],?_⟩;unfold sJ;rw[oI];unfold dN;rw[eL (ρ':=[uR (p 0),uI a,uR (q a 0)]) (S':=T) (by rwa[t0,t5,v])];show((b7 (cCB El (ag (jM (aT cA 1 (ak 2)) (gNm 0) (Nn cK cA) 1 [2,0]) ay))) _ T).bind kFn=_;rwa[hcd,hn];rfl
def PH(cK cA:Cl):Fn:=fnU 3 3 (bB (cN cK) (sJ cK cA) cK cA)
def Ou(M:Mm pos c T)(R:Kr cK cA j pos c K p q)(W:Kw K n)(ha:a∈K.ids)(b0:0<=b)(b1:b<n):∃X,PH cK cA [.ref (p 0),.int a,.int b] T=some (.bl (MU K a b),T++X):=by
 have t0:=M.get (R.pk 0 ∅) R.c0;have t2:=M.get (R.pk 2 ∅) R.c2;have t5:=M.get (R.pk 5 ∅) R.c5;have tr:=M.get (R.pa a ha 0 ∅) (R.a0 a ha);have v:=jS (q:=q) ha;have am:=Np (xs:=K.ma) b0 (by rw[W.lm];exact b1);have g0:∀Y,(T++Y)[p 0]?=_:=fun Y=>aF t0;have g2:∀Y,(T++Y)[p 2]?=_:=fun Y=>aF t2;have g5:∀Y,(T++Y)[p 5]?=_:=fun Y=>aF t5;have gr:∀Y,(T++Y)[q a 0]?=_:=fun Y=>aF tr;obtain⟨X1,e1⟩:=vX (a:=a) (lb:=T.length) (bs:=[b]) (M.app [.lst [.int b]]) R (by rw[ga0];rfl) nofun;rw[ZO]at e1;have M1:=M.app ([.lst [.int b]]++X1);obtain⟨X2,e2⟩:=vY (a:=a) (xs:=(K.A a).lk) (kf:=fun b=>b) (vf:=fun _=>.bl true) M1 R (R.pa a ha 1 ∅) (R.a1 a ha) nofun nofun (W.lk a ha).1;obtain⟨X3,e3⟩:=BD (M1.app X2) R W ha;rw[List.map_id']at e2;simp only[ZO,XZ,Zf]at e1 e2 e3;unfold PH MU;rw[uE];cases h1:brd K a [b]with
 |true=>
  rw[h1]at e1;exact⟨.lst [.int b]::X1,by rwa[bB,t0,e1,Bool.true_or]⟩
 |false=>
  rw[h1]at e1;cases h2:decide (K.ma.getD b.toNat 0<=(K.A a).g)with
  |true=>exact⟨.lst [.int b]::X1,by rwa[bB,t0,e1,g0,g2,g5,v,gr,am,h2,Bool.not_true,YR,Bool.or_false]⟩
  |false=>
   cases h3:brd K a (K.A a).lk with
   |true=>
    rw[h3]at e2;exact⟨.lst [.int b]::(X1++X2),by rwa[bB,t0,e1,g0,g2,g5,v,gr,am,h2,e2,Bool.not_false,YQ,Bool.true_or,YS]⟩
   |false=>
    rw[h3]at e2;exact⟨.lst [.int b]::(X1++(X2++X3)),by rwa[bB,t0,e1,g0,g2,g5,v,gr,am,h2,e2,e3,Bool.not_false,YQ,YS]⟩
def Kc.anew(K:Kc)(a b:Int):Kc:=K.up a { K.A a with g:=if (K.A a).g<K.ma.getD b.toNat 0 then K.tk else(K.A a).g,lk:=pL (K.A a).lk b }
def Kc.say(K:Kc)(e:U):Kc:={ K with ev:=K.ev++[e] }
def up2{v w:Ac}:(K.up a v).up a w=K.up a w:=by
 unfold Kc.up;congr 1;funext x;by_cases h:x=a<;>simp[h]
def k8{v:Ac}:(K.up a v).A a=v:=Xd rfl
def B5(cK cA:Cl):Fn:=fnU 3 3 (dh cK cA)
def Jc(M:Mm pos c T)(R:Kr cK cA j pos c K p q)(W:Kw K n)(ha:a∈K.ids)(b0:0<=b)(b1:b<n):Wp (B5 cK cA [.ref (p 0),.ref (q a 0),.int b] T) fun r=>r.1=.int (K.bx.getD b.toNat 0)/\∃c',Mm pos c' r.2/\Kr cK cA j pos c' (K.anew a b) p q/\Fm j pos c pos c':=by
 have t0:=M.get (R.pk 0 ∅) R.c0;have t1:=M.get (R.pk 1 ∅) R.c1;have t2:=M.get (R.pk 2 ∅) R.c2;have tr:=M.get (R.pa a ha 0 ∅) (R.a0 a ha);have tl:=M.get (R.pa a ha 1 ∅) (R.a1 a ha);have am:=Np (xs:=K.ma) b0 (by rw[W.lm];exact b1);have ab:=Np (xs:=K.bx) b0 (by rw[W.lb];exact b1);have hL:(dT (K.A a).lk).length<LIM:=by unfold LIM dT;rw[Q7];have:=(W.lk a ha).1;omega
 unfold B5 Kc.anew;rw[uE];by_cases h:(K.A a).g<K.ma.getD b.toNat 0;have hd:decide ((K.A a).g<K.ma.getD b.toNat 0)=true:=Xc h;rw[Xd h];have M1:=M.set (R.pa a ha 0 ∅) (aO cA (q a) K.tk (stU (K.A a).st) (q a 3) ((K.A a).op));have R1:=R.ao (a:=a) K.tk (K.A a).st (K.A a).op;have s0:=M1.get (R1.pk 0 ∅) R1.c0;have sr:=M1.get (R1.pa a ha 0 ∅) (R1.a0 a ha);have sl:=M1.get (R1.pa a ha 1 ∅) (R1.a1 a ha);rw[k8]at sr sl;have M2:=M1.set (R1.pa a ha 1 ∅) (.dic (dT (pL (K.A a).lk b)));have R2:=R1.al (a:=a) (pL (K.A a).lk b);have w0:=M2.get (R2.pk 0 ∅) R2.c0;have w1:=M2.get (R2.pk 1 ∅) R2.c1;rw[k8,up2]at R2;refine⟨(_,_),?_,rfl,_,M2,R2,(Fm.refl.ua a 0).ua a 1⟩;rwa[dh,t0,t2,am,tr,hd,s0,sr,sl,hL,if_true,Fs,w0,w1,Kc.up,ab];have hd:decide ((K.A a).g<K.ma.getD b.toNat 0)=false:=Xa h;rw[Xf h];have M2:=M.set (R.pa a ha 1 ∅) (.dic (dT (pL (K.A a).lk b)));have R2:=R.al (a:=a) (pL (K.A a).lk b);have w0:=M2.get (R2.pk 0 ∅) R2.c0;have w1:=M2.get (R2.pk 1 ∅) R2.c1;refine⟨(_,_),?_,rfl,_,M2,R2,Fm.refl.ua a 1⟩;rwa[dh,t0,t2,am,tr,hd,tl,hL,if_true,Fs,w0,w1,Kc.up,ab]
def dJ(K:Kc)(a b:Int):U×Kc:=match bF (K.A a).pu b with
 |some v=>(.tup [.str "number",.int v],K.say (.tup [.str "look",.int a,.int b,.int v]))
 |none=>if MU K a b=true then(.tup [.str "falls"],K.end a "fall")else(.tup [.str "number",.int (K.bx.getD b.toNat 0)],(K.anew a b).say (.tup [.str "look",.int a,.int b,.int (K.bx.getD b.toNat 0)]))
def B0(cK cA:Cl):Fn:=fnU 5 3 (eG (iY cK cA) (PH cK cA) (jO cK cA) (B5 cK cA) cK cA)
def HZ(M:Mm pos c T)(R:Kr cK cA j pos c K p q)(W:Kw K n)(ha:a∈K.ids)(op:(K.A a).op=true)(st:(K.A a).st=none)(b0:0<=b)(b1:b<n)(hl:K.ev.length<=9000):Wp (B0 cK cA [.ref (p 0),.int a,.int b] T) fun r=>r.1=(dJ K a b).1/\Nx cK cA j pos c p (dJ K a b).2 r.2:=by
 have t0:=M.get (R.pk 0 ∅) R.c0;have t4:=M.get (R.pk 4 ∅) R.c4;have tr:=M.get (R.pa a ha 0 ∅) (R.a0 a ha);have tp:=M.get (R.pa a ha 2 ∅) (R.a2 a ha);have u:=mQ M R ha op st;have hL:K.ev.length<LIM:=by unfold LIM;omega
 unfold B0 dJ;rw[My];cases hv:bF (K.A a).pu b with
 |some v=>
  refine⟨(_,_),?_,rfl,pos,_,q,M.set (R.pk 4 ∅) (.lst (K.ev++[.tup [.str "look",.int a,.int b,.int v]])),R.ev _,Fm.refl.uk 4⟩;rwa[eG,t0,u,tr,tp,j8,hv,XR,Option.isSome_some,Xq,if_false,t4,dZ hL]
 |none=>
  obtain⟨X,e1⟩:=Ou M R W ha b0 b1;have M1:=M.app X;have g0:=M1.get (R.pk 0 ∅) R.c0;dsimp only;cases hw:MU K a b with
  |true=>
   rw[hw]at e1;rw[Xd rfl];obtain⟨⟨u1,T1⟩,e2,rfl,pos',c',q',M2,R2,F2⟩:=oy (w:="fall") M1 R ha hl;refine⟨(_,_),?_,rfl,pos',c',q',M2,R2,F2⟩;rwa[eG,t0,u,tr,tp,j8,hv,Option.map_none,Option.isSome_none,Xq,if_false,e1,g0,e2]
  |false=>
   rw[hw]at e1;rw[Xf Z8];obtain⟨⟨u1,T1⟩,e2,rfl,c',M2,R2,F2⟩:=Jc M1 R W ha b0 b1;have s0:=M2.get (R2.pk 0 ∅) R2.c0;have s4:=M2.get (R2.pk 4 ∅) R2.c4;refine⟨(_,_),?_,rfl,pos,_,q,M2.set (R2.pk 4 ∅) (.lst (K.ev++[.tup [.str "look",.int a,.int b,.int (K.bx.getD b.toNat 0)]])),R2.ev _,F2.uk 4⟩;rwa[eG,t0,u,tr,tp,j8,hv,Option.map_none,Option.isSome_none,Xq,if_false,e1,g0,e2,s0,s4,Kc.anew,Kc.up,dZ hL]
def vI(K:Kc)(a b v:Int):Kc:=(K.up a { K.A a with pu:=gB (K.A a).pu b v }).say (.tup [.str "put",.int a,.int b,.int v])
def uX(cK cA:Cl):Fn:=fnU 5 4 (jk (iY cK cA) cK cA)
def Ie{v:Int}(M:Mm pos c T)(R:Kr cK cA j pos c K p q)(W:Kw K n)(ha:a∈K.ids)(op:(K.A a).op=true)(st:(K.A a).st=none)(hl:K.ev.length<=9000):Wp (uX cK cA [.ref (p 0),.int a,.int b,.int v] T) fun r=>r.1=.non/\Nx cK cA j pos c p (vI K a b v) r.2:=by
 have t0:=M.get (R.pk 0 ∅) R.c0;have tr:=M.get (R.pa a ha 0 ∅) (R.a0 a ha);have tp:=M.get (R.pa a ha 2 ∅) (R.a2 a ha);have u:=mQ M R ha op st;have hL:K.ev.length<LIM:=by unfold LIM;omega
 have hP:(dI (K.A a).pu).length<LIM:=by unfold LIM dI;rw[Q7];have:=(W.pu a ha).1;omega
 have M1:=M.set (R.pa a ha 2 ∅) (.dic (dI (gB (K.A a).pu b v)));have R1:=R.ap (a:=a) (gB (K.A a).pu b v);have s0:=M1.get (R1.pk 0 ∅) R1.c0;have s4:=M1.get (R1.pk 4 ∅) R1.c4;refine⟨(_,_),?_,rfl,pos,_,q,M1.set (R1.pk 4 ∅) (.lst (K.ev++[.tup [.str "put",.int a,.int b,.int v]])),R1.ev _,(Fm.refl.ua a 2).uk 4⟩;unfold uX;rw[Po];rwa[jk,t0,u,tr,tp,hP,if_true,Ae,s0,s4,Kc.up,dZ hL]
end
def AM:∀l:List (Int×Int),ox (dI l)=some (l.map (·.1))
 |[]=>rfl
 |e::r=>by
  show(ox (dI r)).map (e.1::·)=_;rw[AM r];rfl
def wD{l:List (Int×Int)}{b d:Int}(h:d≠b):bF (jZ l b) d=bF l d:=by
 unfold bF jZ;induction l with
 |nil=>rfl
 |cons e r ih=>
  rw[List.filter_cons];by_cases z:e.1=b;rw[Xf (by simpa using z),Zg,show decide (e.1=d)=false from Xa (by rw[z];exact Ne.symm h)];exact ih;rw[Xd (by simpa using z),Zg,Zg];cases decide (e.1=d);exact ih;rfl
section
variable{q:Int->Nat->Nat}
def sC(cA:Cl):Fn:=fnU 2 2 (hU cA)
def DT{S:Sto}{tk:Int}(hns:cA.ns.length=6):iD cA (sC cA) [.int tk] S=some (.ref S.length,S++[.ins cA [uI tk,some (.ref (S.length+1)),some (.ref (S.length+2)),some .non,some (.ref (S.length+3)),some (.bl true)],.dic [],.dic [],.lst []]):=by
 rw[sR,hns];unfold sC;rw[kW];have l1:∀o:O,(S++[o]).length=S.length+1:=fun o=>by rw[ZY];rfl
 have l2:∀o o':O,(S++[o,o']).length=S.length+2:=fun o o'=>by rw[ZY];rfl
 have l3:∀o o' o2:O,(S++[o,o',o2]).length=S.length+3:=fun o o' o2=>by rw[ZY];rfl
 rwa[hU,ZQ,l1,l2,l3]
def a0(g:Int):Ac:=⟨g,[],[],none,[],true⟩
def cW(K:Kc)(a:Int):Kc:={ K with ids:=K.ids++[a],A:=fun x=>if x=a then a0 K.tk else K.A x,ev:=K.ev++[.tup [.str "begin",.int a]] }
def we(cK cA:Cl):Fn:=fnU 2 2 (hR (sC cA) cK cA)
def EH(hns:cA.ns.length=6)(M:Mm pos c T)(R:Kr cK cA j pos c K p q)(ha:a∉K.ids)(hi:K.ids.length<=9000)(hl:K.ev.length<=9000):Wp (we cK cA [.ref (p 0),.int a] T) fun r=>r.1=.non/\Nx cK cA j pos c p (cW K a) r.2:=by
 have t0:=M.get (R.pk 0 ∅) R.c0;have t5:=M.get (R.pk 5 ∅) R.c5;have v:=pM (q:=q) ha;have mk:=DT (cA:=cA) (S:=T) (tk:=K.tk) hns;generalize ho0:O.ins cA [uI K.tk,uR (T.length+1),uR (T.length+2),some .non,uR (T.length+3),some (.bl true)]=o0 at mk;have N1:=M.new (.a j a 0) o0 [];have N2:=N1.new (.a j a 1) (.dic []) [];have N3:=N2.new (.a j a 2) (.dic []) [];have N4:=N3.new (.a j a 3) (.lst []) [];have z1:(T++[o0]).length=T.length+1:=by simp
 have z2:(T++[o0]++[O.dic []]).length=T.length+2:=by simp
 have z3:(T++[o0]++[O.dic []]++[O.dic []]).length=T.length+3:=by simp
 rw[z1,z2,z3]at N4;have eT:T++[o0]++[O.dic []]++[O.dic []]++[O.lst []]=T++[o0,.dic [],.dic [],.lst []]:=by simp
 rw[eT]at N4;generalize hpos:bZ (bZ (bZ (bZ pos (.a j a 0) T.length) (.a j a 1) (T.length+1)) (.a j a 2) (T.length+2)) (.a j a 3) (T.length+3)=pos4 at N4;generalize hcc:aD (aD (aD (aD c (.a j a 0) o0) (.a j a 1) (.dic [])) (.a j a 2) (.dic [])) (.a j a 3) (.lst [])=c4 at N4;have pk:∀f,pos4 (.k j f)=pos (.k j f):=fun f=>by rw[<-hpos];simp[bZ]
 have pb:∀x,x≠a->∀f,pos4 (.a j x f)=pos (.a j x f):=fun x hx f=>by rw[<-hpos];simp[bZ,hx]
 have ck:∀f,c4 (.k j f)=c (.k j f):=fun f=>by rw[<-hcc];simp[aD]
 have cb:∀x,x≠a->∀f,c4 (.a j x f)=c (.a j x f):=fun x hx f=>by rw[<-hcc];simp[aD,hx]
 have ne:∀x∈K.ids,x≠a:=fun x hx e=>ha (by rw[<-e];exact hx);have N5:=N4.set (s:=.k j 5) (p:=p 5) (by rw[pk];exact R.pk 5 ∅) (.dic (gB (K.ids.map fun a=>((.inl a:Key),U.ref (q a 0))) (.inl a) (.ref T.length)));have N6:=N5.set (s:=.k j 4) (p:=p 4) (by rw[pk];exact R.pk 4 ∅) (.lst (K.ev++[.tup [.str "begin",.int a]]));have ep:gB (K.ids.map fun a=>((.inl a:Key),U.ref (q a 0))) (.inl a) (.ref T.length)=K.ids.map (fun a=>((.inl a:Key),U.ref (q a 0)))++[(.inl a,.ref T.length)]:=C9 fun h=>by
  rw[Zc]at h;obtain⟨x,hx,e⟩:=Zr.mp h;exact ne x hx (Sum.inl.inj e)
 have s0:=N4.get (s:=.k j 0) (p:=p 0) (by rw[pk];exact R.pk 0 ∅) ((ck 0).trans R.c0);have s5:=N4.get (s:=.k j 5) (p:=p 5) (by rw[pk];exact R.pk 5 ∅) ((ck 5).trans R.c5);have w0:=N5.get (s:=.k j 0) (p:=p 0) (by rw[pk];exact R.pk 0 ∅) (((ah nofun).trans (ck 0)).trans R.c0);have w4:=N5.get (s:=.k j 4) (p:=p 4) (by rw[pk];exact R.pk 4 ∅) (((ah nofun).trans (ck 4)).trans R.c4);have hL:K.ev.length<LIM:=by unfold LIM;omega
 have hK:(K.ids.map fun a=>((.inl a:Key),U.ref (q a 0))).length<LIM:=by unfold LIM;rw[Q7];omega
 refine⟨(.non,_),?_,rfl,pos4,_,fun x f=>if x=a then T.length+f else q x f,N6,⟨fun f hf=>by rw[pk];exact R.pk f hf,?_,?_,?_,?_,?_,?_,fun x hx f hf=>?_,fun x hx=>?_,fun x hx=>?_,fun x hx=>?_,fun x hx=>?_⟩,fun s hs=>?_⟩;unfold we;rw[kW];rwa[hR,t0,t5,v,Option.isSome_none,Xq,if_false,mk,s0,s5,hK,if_true,w0,w4,dZ hL];rw[ah nofun,ah nofun,ck];exact R.c0;rw[ah nofun,ah nofun,ck];exact R.c1;rw[ah nofun,ah nofun,ck];exact R.c2;rw[ah nofun,ah nofun,ck];exact R.c3;rw[aG];rfl;rw[ah nofun,aG,ep];show _=O.dic ((K.ids++[a]).map _);rw[Zo];congr 2;exact XD fun x hx=>by rw[Xf (ne x hx)]
 simp;rcases Zz.mp hx with hx|hx;rw[pb x (ne x hx),Xf (ne x hx)];exact R.pa x hx f hf;rw[ZN.mp hx,Xd rfl,<-hpos];match f,hf with
 |0,_=>simp[bZ]
 |1,_=>simp[bZ]
 |2,_=>simp[bZ]
 |3,_=>simp[bZ]
 rw[ah nofun,ah nofun];rcases Zz.mp hx with hx|hx;have:=R.a0 x hx;rw[cb x (ne x hx)];simpa [cW,ne x hx] using this;rw[ZN.mp hx,<-hcc];simp[aD,cW,a0,stU,<-ho0];rw[ah nofun,ah nofun];rcases Zz.mp hx with hx|hx;have:=R.a1 x hx;rw[cb x (ne x hx)];simpa [cW,ne x hx] using this;rw[ZN.mp hx,<-hcc];simp[aD,cW,a0,dT];rw[ah nofun,ah nofun];rcases Zz.mp hx with hx|hx;have:=R.a2 x hx;rw[cb x (ne x hx)];simpa [cW,ne x hx] using this;rw[ZN.mp hx,<-hcc];simp[aD,cW,a0,dI];rw[ah nofun,ah nofun];rcases Zz.mp hx with hx|hx;have:=R.a3 x hx;rw[cb x (ne x hx)];simpa [cW,ne x hx] using this;rw[ZN.mp hx,<-hcc];simp[aD,cW,a0];rw[<-hpos,<-hcc];cases s with
 |k i f=>have:i≠j:=hs;simp[bZ,aD,this]
 |a i x f=>have:i≠j:=hs;simp[bZ,aD,this]
 |x m i=>simp[bZ,aD]
end
def qX{κ α:Type}[DecidableEq κ](l:List (κ×α))(k:κ)(v:α):(gB l k v).length<=l.length+1:=by
 unfold gB;split;rw[Q7];omega;simp
def hold(a:Int)(bs:List Int)(ho:List (Int×Int)):List (Int×Int):=bs.foldl (fun h b=>gB h b a) ho
def eQ(bs:List Int)(ho:List (Int×Int)):List (Int×Int):=bs.foldl (fun h b=>jZ h b) ho
section
variable{q:Int->Nat->Nat}
def sj(cK cA:Cl):Fn:=fnU 4 2 (iR (iY cK cA) (jO cK cA) (cN cK) (sJ cK cA) cK cA)
def tkB(cK cA:Cl):CS:=eJ (iY cK cA) (jO cK cA) (cN cK) (sJ cK cA) cK cA
def uh(ha:a∈K.ids){r2:Option U}:∀(bs:List Int) (ho:List (Int×Int)) (c:Pl->O) (T:Sto) (r3:Option U),Mm pos c T->Kr cK cA j pos c { K with ho:=ho } p q->ho.length+bs.length<=90000->
  ∃r3' c' T',fu (fun S=>S[q a 3]?=some (.lst ((K.A a).un.map U.int))) (gNm 3) (tkB cK cA) (bs.map U.int) [uR (p 0),uI a,r2,r3] T=some (.nx,[uR (p 0),uI a,r2,r3'],T')/\Mm pos c' T'/\Kr cK cA j pos c' { K with ho:=hold a bs ho } p q/\Fm j pos c pos c'
 |[],ho,c,T,r3,M,R,_=>⟨r3,c,T,iH (M.get (R.pa a ha 3 ∅) (R.a3 a ha)),M,R,Fm.refl⟩
 |b::bs,ho,c,T,r3,M,R,hn=>by
  rw[ZZ]at hn;have t0:=M.get (R.pk 0 ∅) R.c0;have t3:=M.get (R.pk 3 ∅) R.c3;have hL:(dI ho).length<LIM:=by unfold LIM dI;rw[Q7];omega
  have M1:=M.set (R.pk 3 ∅) (.dic (dI (gB ho b a)));have R1:=R.ho (gB ho b a);have:=qX ho b a;obtain⟨r3',c',T',e,M2,R2,F2⟩:=uh ha bs (gB ho b a) _ _ (uI b) M1 R1 ⋯;refine⟨r3',c',T',(jg (M.get (R.pa a ha 3 ∅) (R.a3 a ha)) rfl ?_).trans e,M2,R2,(Fm.refl.uk 3).trans F2⟩;rwa[tkB,eJ,t0,t3,hL,if_true,Ae]
def cE(K:Kc)(a:Int):Str×Kc:=
 if (K.A a).pu=[]then("done",K.end a "done")else
 if (brd K a (K.A a).lk||(brd K a ((K.A a).pu.map (·.1))||Io K a))=true then("falls",K.end a "fall")else
 ("taken",{ K.up a { K.A a with st:=some (K.tk+1),un:=bL ((K.A a).pu.map (·.1)) } with tk:=K.tk+1,ho:=hold a (bL ((K.A a).pu.map (·.1))) K.ho })
def D0(M:Mm pos c T)(R:Kr cK cA j pos c K p q)(W:Kw K n)(ha:a∈K.ids)(op:(K.A a).op=true)(st:(K.A a).st=none)(hl:K.ev.length<=9000)(hh:K.ho.length<=80000):Wp (sj cK cA [.ref (p 0),.int a] T) fun r=>r.1=.str (cE K a).1/\Nx cK cA j pos c p (cE K a).2 r.2:=by
 have t0:=M.get (R.pk 0 ∅) R.c0;have tr:=M.get (R.pa a ha 0 ∅) (R.a0 a ha);have tp:=M.get (R.pa a ha 2 ∅) (R.a2 a ha);have u:=mQ M R ha op st;have pl:=(W.pu a ha).1;have ln:(dI (K.A a).pu).length=(K.A a).pu.length:=by unfold dI;rw[Q7]
 rw[st]at tr;have h1:∀{d:CS},aS (cQ 2 (aL cK (iY cK cA) (ak 0) (ag (ak 1) ay))) d [uR (p 0),uI a,none,none] T=d [uR (p 0),uI a,uR (q a 0),none] T:=fun{d}=>eL (by rwa[t0,u]);unfold sj cE;rw[Pp];unfold iR;rw[h1];by_cases hp:(K.A a).pu=[];rw[Xd hp];obtain⟨⟨u1,T1⟩,e2,rfl,N⟩:=oy (w:="done") M R ha hl;refine⟨(_,_),?_,rfl,N⟩;have z:decide ((((dI (K.A a).pu).length:Nat):Int)=0)=true:=by rw[ln,hp];rfl
 rwa[tr,tp,z,t0,e2];rw[Xf hp];have z:decide ((((dI (K.A a).pu).length:Nat):Int)=0)=false:=Xa (by rw[ln];have:=Yf.mpr hp;omega);rw[eL (ρ':=[uR (p 0),uI a,uR (q a 0),none]) (S':=T) (by rwa[tr,tp,z])];obtain⟨X1,e1⟩:=vY (a:=a) (xs:=(K.A a).lk) (kf:=fun b=>b) (vf:=fun _=>.bl true) M R (R.pa a ha 1 ∅) (R.a1 a ha) nofun nofun (W.lk a ha).1;rw[List.map_id']at e1;obtain⟨X2,e2⟩:=vY (a:=a) (xs:=(K.A a).pu) (kf:=fun e=>e.1) (vf:=fun e=>.int e.2) (M.app X1) R (R.pa a ha 2 ∅) (R.a2 a ha) nofun nofun ⋯;obtain⟨X3,e3⟩:=BD ((M.app X1).app X2) R W ha;simp only[ZO]at e2 e3;have g0:∀Y,(T++Y)[p 0]?=_:=fun Y=>aF t0;have gr:∀Y,(T++Y)[q a 0]?=_:=fun Y=>aF tr;have tst:∃Y,(cOr (aR (aL cK (cN cK) (ak 0) (ag (ak 1) (ag (aT cA 1 (ak 2)) ay)))) (cOr (aR (aL cK (cN cK) (ak 0) (ag (ak 1) (ag (aT cA 2 (ak 2)) ay)))) (aR (aL cK (sJ cK cA) (ak 0) (ag (ak 1) ay))))) [uR (p 0),uI a,uR (q a 0),none] T=some ((brd K a (K.A a).lk||(brd K a ((K.A a).pu.map (·.1))||Io K a)),T++Y):=by
  cases b1:brd K a (K.A a).lk with
  |true=>rw[b1]at e1;exact⟨X1,by rwa[t0,tr,e1,Bool.true_or]⟩
  |false=>
   rw[b1]at e1;cases b2:brd K a ((K.A a).pu.map (·.1))with
   |true=>rw[b2]at e2;exact⟨X1++X2,by rwa[t0,tr,e1,g0,gr,e2,YS,Bool.true_or]⟩
   |false=>rw[b2]at e2;exact⟨X1++(X2++X3),by rwa[t0,tr,e1,g0,gr,e2,e3,YS]⟩
 obtain⟨Y,et⟩:=tst;have M1:=M.app Y;have s0:=M1.get (R.pk 0 ∅) R.c0;cases hb:(brd K a (K.A a).lk||(brd K a ((K.A a).pu.map (·.1))||Io K a))with
 |true=>
  rw[Xd rfl];rw[hb]at et;obtain⟨⟨u1,T1⟩,e4,rfl,N⟩:=oy (w:="fall") M1 R ha hl;refine⟨(_,_),?_,rfl,N⟩;have ei:∀{c1 c2:CS},dY (cOr (aR (aL cK (cN cK) (ak 0) (ag (ak 1) (ag (aT cA 1 (ak 2)) ay)))) (cOr (aR (aL cK (cN cK) (ak 0) (ag (ak 1) (ag (aT cA 2 (ak 2)) ay)))) (aR (aL cK (sJ cK cA) (ak 0) (ag (ak 1) ay))))) c1 c2 [uR (p 0),uI a,uR (q a 0),none] T=c1 [uR (p 0),uI a,uR (q a 0),none] (T++Y):=fun{c1 c2}=>by rw[x3,et];rfl
  rw[xW,ei];rwa[s0,e4]
 |false=>
  rw[Xf Z8];rw[hb]at et;rw[eL (ρ':=[uR (p 0),uI a,uR (q a 0),none]) (S':=T++Y) (by rw[x3,et];rfl)];have M2:=M1.set (R.pk 0 ∅) (kO cK p (K.tk+1));have R2:=R.tk (K.tk+1);have s1:=M2.get (R2.pk 0 ∅) R2.c0;have s2:=M2.get (R2.pa a ha 0 ∅) (R2.a0 a ha);have M3:=M2.set (R2.pa a ha 0 ∅) (aO cA (q a) ((K.A a).g) (stU (some (K.tk+1))) (q a 3) ((K.A a).op));have R3:=R2.ao (a:=a) (K.A a).g (some (K.tk+1)) (K.A a).op;have w2:=M3.get (R3.pa a ha 0 ∅) (R3.a0 a ha);have wp:=M3.get (R3.pa a ha 2 ∅) (R3.a2 a ha);rw[k8]at w2 wp;generalize hT3:((T++Y).set (p 0) (kO cK p (K.tk+1))).set (q a 0) (aO cA (q a) ((K.A a).g) (stU (some (K.tk+1))) (q a 3) ((K.A a).op))=T3 at M3 w2 wp;have st':stU (K.A a).st=.non:=by rw[st];rfl
  rw[eL (ρ':=[uR (p 0),uI a,uR (q a 0),none]) (S':=(T++Y).set (p 0) (kO cK p (K.tk+1))) (by rwa[s0])];rw[eL (ρ':=[uR (p 0),uI a,uR (q a 0),none]) (S':=T3) (by rw[<-hT3];rwa[s1,s2,stU])];have es:jh [.ref (q a 2)] T3=some (.ref T3.length,T3++[.lst ((bL ((K.A a).pu.map (·.1))).map U.int)]):=by
   have hlt:((K.A a).pu.map (·.1)).length<64:=by rw[Q7];exact pl
   simp only[jh,wp,AM,Z0,hlt,if_true]
  have M4:=M3.new (.a j a 3) (.lst ((bL ((K.A a).pu.map (·.1))).map U.int)) [];have R4:Kr cK cA j (bZ pos (.a j a 3) T3.length) (aD (aD (aD c (.k j 0) (kO cK p (K.tk+1))) (.a j a 3) (.lst ((bL ((K.A a).pu.map (·.1))).map U.int))) (.a j a 0) (aO cA (q a) ((K.A a).g) (stU (some (K.tk+1))) T3.length ((K.A a).op))) { K.up a { K.A a with st:=some (K.tk+1),un:=bL ((K.A a).pu.map (·.1)) } with tk:=K.tk+1 } p (fun x f=>if x=a/\f=3 then T3.length else q x f):=by
   refine⟨fun f hf=>by simpa [bZ] using R.pk f hf,by simp[aD,Kc.up],by simpa [aD,Kc.up] using R.c1,by simpa [aD,Kc.up] using R.c2,by simpa [aD,Kc.up] using R.c3,by simpa [aD,Kc.up] using R.c4,by simpa [aD,Kc.up] using R.c5,fun x hx f hf=>?_,fun x hx=>?_,fun x hx=>?_,fun x hx=>?_,fun x hx=>?_⟩;by_cases e:x=a/\f=3;obtain⟨rfl,rfl⟩:=e;simp[bZ];have:=R.pa x hx f hf;rw[aw (fun z=>by cases z;exact e ⟨rfl,rfl⟩),Xf e];exact this;by_cases e:x=a;subst e;simp[aD,Kc.up];have:=R.a0 x hx;simpa [aD,Kc.up,e] using this;have:=R.a1 x hx;by_cases e:x=a;subst e;simpa [aD,Kc.up] using this;simpa [aD,Kc.up,e] using this;have:=R.a2 x hx;by_cases e:x=a;subst e;simpa [aD,Kc.up] using this;simpa [aD,Kc.up,e] using this;have:=R.a3 x hx;by_cases e:x=a;subst e;simp[aD,Kc.up];simpa [aD,Kc.up,e] using this
  have w4:=M4.get (s:=.a j a 0) (p:=q a 0) (by rw[aw nofun];exact R.pa a ha 0 ∅) ((ah nofun).trans aG);have M5:=M4.set (s:=.a j a 0) (p:=q a 0) (by rw[aw nofun];exact R.pa a ha 0 ∅) (aO cA (q a) ((K.A a).g) (stU (some (K.tk+1))) T3.length ((K.A a).op));have ec:aD (aD (aD (aD c (.k j 0) (kO cK p (K.tk+1))) (.a j a 0) (aO cA (q a) ((K.A a).g) (stU (some (K.tk+1))) (q a 3) ((K.A a).op))) (.a j a 3) (.lst ((bL ((K.A a).pu.map (·.1))).map U.int))) (.a j a 0) (aO cA (q a) ((K.A a).g) (stU (some (K.tk+1))) T3.length ((K.A a).op))=aD (aD (aD c (.k j 0) (kO cK p (K.tk+1))) (.a j a 3) (.lst ((bL ((K.A a).pu.map (·.1))).map U.int))) (.a j a 0) (aO cA (q a) ((K.A a).g) (stU (some (K.tk+1))) T3.length ((K.A a).op)):=by
   funext s;by_cases e:s=.a j a 0;subst e;rw[aG,aG];rw[ah e,ah e];by_cases e2:s=.a j a 3;subst e2;rw[aG,aG];rw[ah e2,ah e2,ah e]
  rw[ec]at M5;rw[eL (ρ':=[uR (p 0),uI a,uR (q a 0),none]) (S':=(T3++[O.lst ((bL ((K.A a).pu.map (·.1))).map U.int)]).set (q a 0) (aO cA (q a) ((K.A a).g) (stU (some (K.tk+1))) T3.length ((K.A a).op))) (by rwa[w2,es,w4])];generalize hT5:(T3++[O.lst ((bL ((K.A a).pu.map (·.1))).map U.int)]).set (q a 0) (aO cA (q a) ((K.A a).g) (stU (some (K.tk+1))) T3.length ((K.A a).op))=T5 at M5;obtain⟨r3',c',T',el,M6,R6,F6⟩:=uh (K:={ K.up a { K.A a with st:=some (K.tk+1),un:=bL ((K.A a).pu.map (·.1)) } with tk:=K.tk+1 }) (a:=a) (r2:=(uR (q a 0))) ha (bL ((K.A a).pu.map (·.1))) K.ho _ T5 none M5 R4 (by rw[(ib _).length_eq,Q7];omega);have v0:=M5.get (R4.pa a ha 0 ∅) (R4.a0 a ha);have v3:=M5.get (R4.pa a ha 3 ∅) (R4.a3 a ha);have eA:({ K.up a { K.A a with st:=some (K.tk+1),un:=bL ((K.A a).pu.map (·.1)) } with tk:=K.tk+1 }:Kc).A a={ K.A a with st:=some (K.tk+1),un:=bL ((K.A a).pu.map (·.1)) }:=Xd rfl;rw[eA]at v0 v3 el;have q3:(if a=a/\3=3 then T3.length else q a 3)=T3.length:=Xd ⟨rfl,rfl⟩;have q0:(if a=a/\0=3 then T3.length else q a 0)=q a 0:=Xf nofun;have q1:(if a=a/\1=3 then T3.length else q a 1)=q a 1:=Xf nofun;have q2:(if a=a/\2=3 then T3.length else q a 2)=q a 2:=Xf nofun;dsimp only[aO]at v0 v3 el;rw[q3]at v0 v3 el;rw[q0,q1,q2]at v0;have hit:iTp (aT cA 4 (ak 2)) [uR (p 0),uI a,uR (q a 0),none] T5=some ((bL ((K.A a).pu.map (·.1))).map U.int,fun S=>S[T3.length]?=some (.lst ((bL ((K.A a).pu.map (·.1))).map U.int)),T5):=o9 (by rwa[v0]) v3;refine⟨(_,T'),?_,rfl,_,_,_,M6,R6,?_⟩;have ef:oP (iTp (aT cA 4 (ak 2))) (gNm 3) (eJ (iY cK cA) (jO cK cA) (cN cK) (sJ cK cA) cK cA) [uR (p 0),uI a,uR (q a 0),none] T5=some (.nx,[uR (p 0),uI a,uR (q a 0),r3'],T'):=by
   unfold oP;rw[hit];exact el
  rw[eL ef];rfl;exact(((((Fm.refl (j:=j) (pos:=pos) (c:=c)).uk 0).ua a 3).ua a 0).pn (s:=.a j a 3) rfl).trans F6
end
def nT{T:Sto}{p:Nat}{o:O}(h:T[p]?=some o):T.set p o=T:=by
 refine YW fun i=>?_;rw[Zt];split;rename_i e;subst e;rw[Xd (Q6.mp h).1,h];rfl
section
variable{q:Int->Nat->Nat}
def si(cK cA:Cl):Fn:=fnU 5 2 (gZ (lO cK cA) (jO cK cA) cK cA)
def wrB(cK cA:Cl):CS:=fC (lO cK cA) (jO cK cA) cK cA
def Gq{l:Nat}{S:Sto}{ho:List (Int×Int)}{v:Int}{co ck:CE}{ρ:Rho}(h1:co ρ S=some (.ref l,S))(h2:ck ρ S=some (.int b,S))(hl:S[l]?=some (.dic (dI ho)))(hv:bF ho b=some v):BK co ck ρ S=some (.int v,S.set l (.dic (dI (jZ ho b)))):=by
 unfold BK;rw[h1,Z0];simp only[hl,h2,Z0,IL,oY,j8,hv,XR,IS]
def Ia:List Int->Option U->Option U
 |[],r=>r
 |b::bs,_=>Ia bs (uI b)
def uF{k0 k3:Nat}{ok:Sto->Prop}{r1 r2 r3:Option U}{fs:List (Option U)}(hf:fs[2]?=some (uR k3))(n0:k0≠k3)(hok:∀Y x,ok Y->ok (Y.set k3 x)):∀(bs:List Int) (ho:List (Int×Int)) (Y:Sto) (r4:Option U),ok Y->Y[k0]?=some (.ins cK fs)->Y[k3]?=some (.dic (dI ho))->bs.Nodup->(∀b∈bs,(bF ho b).isSome=true)->
  fu ok (gNm 4) (wrB cK cA) (bs.map U.int) [uR k0,r1,r2,r3,r4] Y=some (.nx,[uR k0,r1,r2,r3,Ia bs r4],Y.set k3 (.dic (dI (eQ bs ho))))
 |[],ho,Y,r4,hy,h0,h3,_,_=>by rw[show eQ [] ho=ho from rfl,nT h3];exact iH hy
 |b::bs,ho,Y,r4,hy,h0,h3,nd,hv=>by
  obtain⟨v,ev⟩:=Zl.mp (hv b ZG);have lt:=(Q6.mp h3).1;obtain⟨nb,nd'⟩:=Xv.mp nd;have ih:=uF (r1:=r1) (r2:=r2) (r3:=r3) hf n0 hok bs (jZ ho b) (Y.set k3 (.dic (dI (jZ ho b)))) (uI b) (hok _ _ hy) (by rw[ZS n0.symm];exact h0) (by rw[Zt,Xd rfl,Xd lt]) nd' (fun d hd=>by rw[wD (fun e=>nb (by rw[<-e];exact hd))];exact hv d (ZJ _ hd));rw[XY]at ih;refine(jg hy rfl ?_).trans ih;have F:Jl cK 2 (.ref k0,Y)=some (.ref k3,Y):=EX h0 hf;have e1:=Gq (co:=aT cK 2 (ak 0)) (ck:=ak 4) (ρ:=[uR k0,r1,r2,r3,uI b]) (S:=Y) (by rwa[F]) rfl h3 ev;show(bR (BK (aT cK 2 (ak 0)) (ak 4))) [uR k0,r1,r2,r3,uI b] Y=_;rwa[e1]
def bO(K:Kc)(a:Int):Str×Kc:=match (K.A a).un with
 |[]=>("",K)
 |b::r=>
  let K':Kc:={ K.up a { K.A a with un:=r } with bx:=K.bx.set b.toNat ((bF (K.A a).pu b).getD 0),ma:=K.ma.set b.toNat ((K.A a).st.getD 0) }
  if r=[]then("done",Kc.end { K' with ho:=eQ ((K.A a).pu.map (·.1)) K.ho } a "done")else("written",K')
def Cm{st:Int}{r:List Int}(M:Mm pos c T)(R:Kr cK cA j pos c K p q)(W:Kw K n)(ha:a∈K.ids)(op:(K.A a).op=true)(hst:(K.A a).st=some st)(hun:(K.A a).un=b::r)(b0:0<=b)(b1:b<n)(hb:(bF (K.A a).pu b).isSome=true)(hr:r.length<=900)
  (hh:r=[]->∀d∈(K.A a).pu.map (·.1),(bF K.ho d).isSome=true) (hl:K.ev.length<=9000):Wp (si cK cA [.ref (p 0),.int a] T) fun s=>s.1=.str (bO K a).1/\Nx cK cA j pos c p (bO K a).2 s.2:=by
 obtain⟨v,hv⟩:=Zl.mp hb;have t0:=M.get (R.pk 0 ∅) R.c0;have tr:=M.get (R.pa a ha 0 ∅) (R.a0 a ha);have tu:=M.get (R.pa a ha 3 ∅) (R.a3 a ha);have f:=xt M R ha op;rw[hst]at tr;rw[hun,ZK]at tu;have M1:=M.set (R.pa a ha 3 ∅) (.lst (r.map U.int));have R1:=R.au (a:=a) r;have s0:=M1.get (R1.pk 0 ∅) R1.c0;have s1:=M1.get (R1.pk 1 ∅) R1.c1;have sr:=M1.get (R1.pa a ha 0 ∅) (R1.a0 a ha);have sp:=M1.get (R1.pa a ha 2 ∅) (R1.a2 a ha);rw[k8]at sr sp;dsimp only at sr;rw[hst]at sr;have M2:=M1.set (R1.pk 1 ∅) (.lst ((K.bx.set b.toNat v).map U.int));have R2:=R1.bx (K.bx.set b.toNat v);have u0:=M2.get (R2.pk 0 ∅) R2.c0;have u2:=M2.get (R2.pk 2 ∅) R2.c2;have ur:=M2.get (R2.pa a ha 0 ∅) (R2.a0 a ha);have e2:({ K.up a { K.A a with un:=r } with bx:=K.bx.set b.toNat v }:Kc).A a={ K.A a with un:=r }:=Xd rfl;rw[e2]at ur;dsimp only at ur;rw[hst]at ur;have M3:=M2.set (R2.pk 2 ∅) (.lst ((K.ma.set b.toNat st).map U.int));have R3:=R2.ma (K.ma.set b.toNat st);have w0:=M3.get (R3.pk 0 ∅) R3.c0;have wr:=M3.get (R3.pa a ha 0 ∅) (R3.a0 a ha);have wu:=M3.get (R3.pa a ha 3 ∅) (R3.a3 a ha);have wq:=M3.get (R3.pa a ha 2 ∅) (R3.a2 a ha);have w3:=M3.get (R3.pk 3 ∅) R3.c3;have e3:({ K.up a { K.A a with un:=r } with bx:=K.bx.set b.toNat v,ma:=K.ma.set b.toNat st }:Kc).A a={ K.A a with un:=r }:=Xd rfl;rw[e3]at wr wu wq;dsimp only at wr wu wq w3;have hL1:(U.int b::r.map U.int).length<=LIM:=by unfold LIM;simp;omega
 have er:(U.int b::r.map U.int).eraseIdx (Int.toNat 0)=r.map U.int:=rfl;have i1:=Ql (xs:=K.bx) b0 (by rw[W.lb];exact b1);have i2:=Ql (xs:=K.ma) b0 (by rw[W.lm];exact b1);have m1:∀(xs:List Int) (v:Int) (i:Nat),(xs.map U.int).set i (.int v)=(xs.set i v).map U.int:=fun xs v i=>by rw[List.map_set]
 have em:bO K a=if r=[]then(("done":Str),Kc.end { ({ K.up a { K.A a with un:=r } with bx:=K.bx.set b.toNat v,ma:=K.ma.set b.toNat st }:Kc)with ho:=eQ ((K.A a).pu.map (·.1)) K.ho } a "done")else(("written":Str),({ K.up a { K.A a with un:=r } with bx:=K.bx.set b.toNat v,ma:=K.ma.set b.toNat st }:Kc)):=by
  unfold bO;rw[hun];dsimp only;rw[hv,hst];rfl
 rw[em];unfold si;rw[Mz];unfold gZ;rw[eL (ρ':=[uR (p 0),uI a,uR (q a 0),none,none]) (S':=T) (by rwa[t0,f])];rw[eL (ρ':=[uR (p 0),uI a,uR (q a 0),none,none]) (S':=T) (by rwa[tr,stU,sS,A5])];rw[eL (ρ':=[uR (p 0),uI a,uR (q a 0),uI b,none]) (S':=T.set (q a 3) (.lst (r.map U.int))) (by rwa[tr,tu,Gh,Ck (Xe 0) nofun hL1 rfl,er])];rw[eL (ρ':=[uR (p 0),uI a,uR (q a 0),uI b,none]) (S':=(T.set (q a 3) (.lst (r.map U.int))).set (p 1) (.lst ((K.bx.set b.toNat v).map U.int))) (by rwa[sr,sp,j8,hv,XR,s0,s1,Kc.up,i1,m1])];rw[eL (ρ':=[uR (p 0),uI a,uR (q a 0),uI b,none]) (S':=((T.set (q a 3) (.lst (r.map U.int))).set (p 1) (.lst ((K.bx.set b.toNat v).map U.int))).set (p 2) (.lst ((K.ma.set b.toNat st).map U.int))) (by rwa[ur,u0,u2,stU,Kc.up,i2,m1])];generalize hT3:((T.set (q a 3) (.lst (r.map U.int))).set (p 1) (.lst ((K.bx.set b.toNat v).map U.int))).set (p 2) (.lst ((K.ma.set b.toNat st).map U.int))=T3 at *;by_cases h:r=[];rw[Xd h];subst h;have z:decide (0<((0:Nat):Int))=false:=rfl;rw[eL (ρ':=[uR (p 0),uI a,uR (q a 0),uI b,none]) (S':=T3) (by rwa[wr,wu,XU,XF,z])];have M4:=M3.set (R3.pk 3 ∅) (.dic (dI (eQ ((K.A a).pu.map (·.1)) K.ho)));have R4:=R3.ho (eQ ((K.A a).pu.map (·.1)) K.ho);have n3:p 0≠p 3:=fun e=>by have:=M3.inj (.k j 0) (.k j 3) (p 0) (R3.pk 0 ∅) (by rw[e];exact R3.pk 3 ∅);simp at this
 have n2:q a 2≠p 3:=fun e=>by have:=M3.inj (.a j a 2) (.k j 3) (q a 2) (R3.pa a ha 2 ∅) (by rw[e];exact R3.pk 3 ∅);simp at this
 have n02:q a 2≠p 0:=fun e=>by have:=M3.inj (.a j a 2) (.k j 0) (q a 2) (R3.pa a ha 2 ∅) (by rw[e];exact R3.pk 0 ∅);simp at this
 have lq:q a 2<T3.length:=(Q6.mp wq).1;have eh:BJ (aT cA 2 (ak 2)) (gNm 4) (fC (lO cK cA) (jO cK cA) cK cA) [uR (p 0),uI a,uR (q a 0),uI b,none] T3=some (.nx,[uR (p 0),uI a,uR (q a 0),uI b,Ia ((K.A a).pu.map (·.1)) none],T3.set (p 3) (.dic (dI (eQ ((K.A a).pu.map (·.1)) K.ho)))):=by
  have hi:aT cA 2 (ak 2) [uR (p 0),uI a,uR (q a 0),uI b,none] T3=some (.ref (q a 2),T3):=by rwa[wr]
  have ek:((dI (K.A a).pu).map fun e=>kU e.1)=((K.A a).pu.map (·.1)).map U.int:=by unfold dI;rw[Zc,Zc];rfl
  unfold BJ;rw[hi,Z0];simp only[wq];refine E3 fun ep=>?_;have key:=uF (cK:=cK) (cA:=cA) (k0:=p 0) (k3:=p 3) (r1:=(uI a)) (r2:=(uR (q a 0))) (r3:=(uI b)) (ok:=fun S'=>S'[q a 2]?=some (.fdc ep (dI (K.A a).pu))) (fs:=[uR (p 1),uR (p 2),uR (p 3),uI K.tk,uR (p 4),uR (p 5)]) rfl n3 (fun Y x hy=>by rw[ZS n2.symm];exact hy) ((K.A a).pu.map (·.1)) K.ho (T3.set (q a 2) (.fdc ep (dI (K.A a).pu))) none (by rw[Zt,Xd rfl,Xd lq]) (by rw[ZS n02];exact w0) (by rw[ZS n2];exact w3) (W.pu a ha).2.1 (hh rfl);rw[ek];show Option.bind (fu _ _ (wrB cK cA) _ _ _) _=_;rw[key,Z0];have e1:((T3.set (q a 2) (.fdc ep (dI (K.A a).pu))).set (p 3) (.dic (dI (eQ ((K.A a).pu.map (·.1)) K.ho))))[q a 2]?=some (.fdc ep (dI (K.A a).pu)):=by rw[ZS n2.symm,Zt,Xd rfl,Xd lq]
  have e2:((T3.set (q a 2) (.fdc ep (dI (K.A a).pu))).set (p 3) (.dic (dI (eQ ((K.A a).pu.map (·.1)) K.ho)))).set (q a 2) (.dic (dI (K.A a).pu))=T3.set (p 3) (.dic (dI (eQ ((K.A a).pu.map (·.1)) K.ho))):=by
   rw[List.set_comm _ _ n2,XY];exact nT (by rw[ZS n2.symm];exact wq)
  simp only[e1,e2]
 rw[eL eh];obtain⟨⟨u1,T4⟩,e4,rfl,pos',c',q',M5,R5,F5⟩:=oy (w:="done") M4 R4 ha hl;have x0:=M4.get (R4.pk 0 ∅) R4.c0;refine⟨(_,T4),?_,rfl,pos',c',q',M5,R5,(((((Fm.refl (j:=j) (pos:=pos) (c:=c)).ua a 3).uk 1).uk 2).uk 3).trans F5⟩;rwa[x0,e4];rw[Xf h];have z:decide (0<((r.length:Nat):Int))=true:=Xc (by have:=Yf.mpr h;omega);refine⟨(_,T3),?_,rfl,pos,_,q,M3,R3,((Fm.refl.ua a 3).uk 1).uk 2⟩;rwa[wr,wu,Q7,z]
end
section
variable{q:Int->Nat->Nat}{st:List Int}
def sE(cK:Cl):Fn:=fnU 3 3 (iS cK)
def A2(cK:Cl)(k1 k2 k3:Nat)(tk:Int)(k4 k5:Nat):O:=.ins cK [uR k1,uR k2,uR k3,uI tk,uR k4,uR k5]
def D3(cK:Cl)(N:Nat)(st:List Int):Sto:=[A2 cK (N+1) (N+3) (N+4) 0 (N+5) (N+6),.lst (st.map U.int),.lst [.int 0],.lst ((ZQ st.length (0:Int)).map U.int),.dic [],.lst [],.dic []]
def HW(hns:cK.ns.length=6)(hl:st.length<=900){x:U}:iD cK (sE cK) [x,.tup (st.map U.int)] T=some (.ref T.length,T++D3 cK T.length st):=by
 rw[sR,hns];unfold sE;rw[uE];obtain⟨us,hus⟩:∃us,us=st.map U.int:=⟨_,rfl⟩;have lus:us.length=st.length:=by rw[hus,Q7]
 obtain⟨rs,hrs⟩:∃rs,rs=(ZQ st.length (0:Int)).map U.int:=⟨_,rfl⟩;unfold D3;rw[<-hus,<-hrs];have mul:∀o1 o2:O,uB (.ref (T.length+2)) (.int us.length) (T++[o1,o2,.lst [.int 0]])=some (.ref (T.length+3),T++[o1,o2,.lst [.int 0],.lst rs]):=fun o1 o2=>by
  have g1:(T++[o1,o2,O.lst [U.int 0]])[T.length+2]?=some (.lst [.int 0]):=by rw[ga];rfl
  have g2:(0:Int)<=us.length/\(us.length:Int)<=100000/\[U.int 0].length*(us.length:Int).toNat<=LIM:=by
   refine⟨⋯,⋯,?_⟩;unfold LIM;rw[Xk];omega
  simp only[uB,g1];rw[Xd g2,hrs,List.map_replicate,lus];simp only[YV,List.flatten_replicate_singleton,ZY,ZZ,XF,ZO,XZ,Zf]
 have l1:∀o:O,(T++[o]).length=T.length+1:=fun o=>by rw[ZY];rfl
 have l2:∀o o':O,(T++[o,o']).length=T.length+2:=fun o o'=>by rw[ZY];rfl
 have l4:∀o1 o2 o3 o4:O,(T++[o1,o2,o3,o4]).length=T.length+4:=fun o1 o2 o3 o4=>by rw[ZY];rfl
 have l5:∀o1 o2 o3 o4 o5:O,(T++[o1,o2,o3,o4,o5]).length=T.length+5:=fun o1 o2 o3 o4 o5=>by rw[ZY];rfl
 have l6:∀o1 o2 o3 o4 o5 o6:O,(T++[o1,o2,o3,o4,o5,o6]).length=T.length+6:=fun o1 o2 o3 o4 o5 o6=>by rw[ZY];rfl
 rwa[iS,ZQ,l1,l2,l4,l5,l6,mul,A2]
def xj(st:List Int):Kc:=⟨st,ZQ st.length 0,[],0,[],[],fun _=>a0 0⟩
noncomputable def Cd(N f:Nat):Nat:=if f<2 then N+f else N+f+1
def LB(hns:cK.ns.length=6)(hl:st.length<=900){x:U}(M:Mm pos c T):Wp (iD cK (sE cK) [x,.tup (st.map U.int)] T) fun r=>r.1=.ref T.length/\∃pos' c',Mm pos' c' r.2/\Kr cK cA j pos' c' (xj st) (Cd T.length) (fun _ _=>0)/\Fm j pos c pos' c':=by
 refine⟨(_,_),HW hns hl,rfl,?_⟩;have M1:=M.new (.k j 0) (A2 cK (T.length+1) (T.length+3) (T.length+4) 0 (T.length+5) (T.length+6)) [];have M2:=M1.new (.k j 1) (.lst (st.map U.int)) [.lst [.int 0]];have M3:=M2.new (.k j 2) (.lst ((ZQ st.length (0:Int)).map U.int)) [];have M4:=M3.new (.k j 3) (.dic []) [];have M5:=M4.new (.k j 4) (.lst []) [];have M6:=M5.new (.k j 5) (.dic []) [];have eT:T++[A2 cK (T.length+1) (T.length+3) (T.length+4) 0 (T.length+5) (T.length+6)]++[O.lst (st.map U.int),O.lst [.int 0]]++[O.lst ((ZQ st.length (0:Int)).map U.int)]++[O.dic []]++[O.lst []]++[O.dic []]=T++D3 cK T.length st:=by simp[D3]
 rw[eT]at M6;refine⟨_,_,M6,⟨fun f hf=>?_,?_,?_,?_,?_,?_,?_,fun a h=>(nomatch h),fun a h=>(nomatch h),fun a h=>(nomatch h),fun a h=>(nomatch h),fun a h=>nomatch h⟩,fun s hs=>?_⟩;match f,hf with
 |0,_=>simp[bZ,Cd]
 |1,_=>simp[bZ,Cd]
 |2,_=>simp[bZ,Cd]
 |3,_=>simp[bZ,Cd]
 |4,_=>simp[bZ,Cd]
 |5,_=>simp[bZ,Cd]
 simp[aD,A2,Cd,xj];simp[aD,xj];simp[aD,xj];simp[aD,xj,dI];simp[aD,xj];simp[aD,xj];cases s with
 |k i f=>have:i≠j:=hs;simp[bZ,aD,this]
 |a i x f=>simp[bZ,aD]
 |x m i=>simp[bZ,aD]
def B2(cK:Cl):Fn:=fnU 1 1 (jm cK)
def Ih(M:Mm pos c T)(R:Kr cK cA j pos c K p q):B2 cK [.ref (p 0)] T=some (.ref T.length,T++[.lst K.ev]):=by
 have t0:=M.get (R.pk 0 ∅) R.c0;have t4:=M.get (R.pk 4 ∅) R.c4;unfold B2;rw[pI];rwa[jm,t0,t4]
def B1(cK:Cl):Fn:=fnU 1 1 (jl cK)
def Ig(M:Mm pos c T)(R:Kr cK cA j pos c K p q):B1 cK [.ref (p 0)] T=some (.tup (K.bx.map U.int),T):=by
 have t0:=M.get (R.pk 0 ∅) R.c0;have t1:=M.get (R.pk 1 ∅) R.c1;unfold B1;rw[pI];rwa[jl,t0,t1]
def FH(A:Ac):Int×Int:=match A.st with
 |none=>(A.g,1)
 |some t=>(t,0)
def qF(cA:Cl):Fn:=fnU 1 1 (dH cA)
def IB(M:Mm pos c T)(R:Kr cK cA j pos c K p q)(ha:a∈K.ids):qF cA [.ref (q a 0)] T=some (.tup [.int (FH (K.A a)).1,.int (FH (K.A a)).2],T):=by
 have tr:=M.get (R.pa a ha 0 ∅) (R.a0 a ha);unfold qF FH;rw[pI];cases h:(K.A a).st with
 |none=>
  rw[h]at tr;rwa[dH,tr,stU,sS,qy]
 |some t=>
  rw[h]at tr;rwa[dH,tr,stU,sS,A5]
def eP(K:Kc):List Int:=qT (K.ids.map fun a=>FH (K.A a)) K.ids
def kZ(cK cA:Cl)(z:O):Fn:=fnU 1 1 (g9 (qF cA) cK cA z)
def AJ{z:O}{l:Nat}(M:Mm pos c T)(R:Kr cK cA j pos c K p q)(hz:T[l]?=some z)(h64:K.ids.length<64):kZ cK cA z [.ref (p 0)] T=some (.ref T.length,T++[.lst ((eP K).map U.int)]):=by
 have t0:=M.get (R.pk 0 ∅) R.c0;have t5:=M.get (R.pk 5 ∅) R.c5;have run:∀ids:List Int,(∀a∈ids,a∈K.ids)->Cc (aL cA (qF cA) (cOp fIx (aT cK 5 (ak 1)) (ak 0)) ay) (.ref (p 0)) ids T=some (ids.map fun a=>FH (K.A a),T):=by
  intro ids;induction ids with
  |nil=>intro _;rfl
  |cons a r ih=>
   intro h;have ha:=h a ZG;have v:=jS (q:=q) ha;have tr:=M.get (R.pa a ha 0 ∅) (R.a0 a ha);have e:=IB M R ha;have ec:aL cA (qF cA) (cOp fIx (aT cK 5 (ak 1)) (ak 0)) ay [uI a,uR (p 0)] T=some (.tup [.int (FH (K.A a)).1,.int (FH (K.A a)).2],T):=by rwa[t0,t5,v,tr,e]
   unfold Cc;rw[ec,Z0];simp only[ih fun x hx=>h x (ZJ _ hx),Z0,ZK]
 have kk:∀ids:List Int,ox (ids.map fun a=>((.inl a:Key),U.ref (q a 0)))=some ids:=by
  intro ids;induction ids with
  |nil=>rfl
  |cons a r ih=>show(ox _).map (a::·)=_;rw[ih];rfl
 have ef:aT cK 5 (ak 0) [uR (p 0)] T=some (.ref (p 5),T):=by rwa[t0]
 have es:xJ z 0 (aT cK 5 (ak 0)) (aL cA (qF cA) (cOp fIx (aT cK 5 (ak 1)) (ak 0)) ay) [uR (p 0)] T=some (.ref T.length,T++[.lst ((eP K).map U.int)]):=by
  unfold xJ;rw[ef,Z0];simp only[t5,kk,Z0];rw[Xd ⟨h64,l,hz⟩];simp only[X8,YN,Z0,run K.ids fun _ h=>h];rfl
 unfold kZ;rw[pI];unfold g9;rwa[es]
end
def rM{l:List Int}{n:Nat}(nd:l.Nodup)(h:∀b∈l,0<=b/\b<n):l.length<=n:=by
 have:=List.Nodup.length_le_of_subset nd (l₂:=(ZF n).map fun i:Nat=>(i:Int)) fun b hb=>by
  obtain⟨h0,h1⟩:=h b hb;exact Zr.mpr ⟨b.toNat,Zs.mpr ⋯,⋯⟩
 simpa using this
def CK{l:List (Int×Int)}{b:Int}(h:b∈l.map (·.1)):(bF l b).isSome=true:=by
 cases e:bF l b with
 |some v=>rfl
 |none=>exact absurd h (zB.mp e)
def yj{l:List (Int×Int)}{b v d:Int}(h:d∈(gB l b v).map (·.1)):d=b\/d∈l.map (·.1):=by
 obtain⟨e,he,rfl⟩:=Zr.mp h;rcases Dd he with z|⟨p,hp,z⟩;exact .inl z;exact .inr (Zr.mpr ⟨p,hp,z⟩)
def qO(a:Int):∀(bs:List Int) (ho:List (Int×Int)) (d:Int),bF (hold a bs ho) d=if d∈bs then some a else bF ho d
 |[],ho,d=>by simp[hold]
 |b::bs,ho,d=>by
  show bF (hold a bs (gB ho b a)) d=_;rw[qO a bs,zA];by_cases h1:d∈bs;rw[Xd h1,Xd (ZJ _ h1)];rw[Xf h1];by_cases h2:d=b;rw[Xd h2,Xd (by rw[h2];exact ZG)];rw[Xf h2,Xf (fun z=>(ZD.mp z).elim h2 h1)]
def w9(a:Int):∀(bs:List Int) (ho:List (Int×Int)),(hold a bs ho).length<=ho.length+bs.length
 |[],ho=>Z6 _
 |b::bs,ho=>by
  show(hold a bs (gB ho b a)).length<=_;have:=w9 a bs (gB ho b a);have:=qX ho b a;rw[ZZ];omega
def sW:∀(bs:List Int) (ho:List (Int×Int)) (d:Int),d∉bs->bF (eQ bs ho) d=bF ho d
 |[],ho,d,_=>rfl
 |b::bs,ho,d,h=>by
  show bF (eQ bs (jZ ho b)) d=_;rw[sW bs _ d (fun z=>h (ZJ _ z)),wD (fun z=>h (by rw[z];exact ZG))]
def t9:∀(bs:List Int) (ho:List (Int×Int)),(eQ bs ho).length<=ho.length
 |[],ho=>Z6 _
 |b::bs,ho=>Zw (t9 bs (jZ ho b)) (Xy _ _)
structure Tkn(K:Kc)(a:Int):Prop where
 un:(K.A a).un≠[]
 few:(K.A a).un.length<64
 sub:∀b∈(K.A a).un,b∈(K.A a).pu.map (·.1)
 hld:∀d∈(K.A a).pu.map (·.1),bF K.ho d=some a
structure Ki(K:Kc)(n:Nat):Prop where
 lb:K.bx.length=n
 lm:K.ma.length=n
 few:n<64
 ids:K.ids.Nodup
 lkn:∀a∈K.ids,(K.A a).lk.Nodup
 lkb:∀a∈K.ids,∀b:Int,b∈(K.A a).lk->0<=b/\b<n
 pun:∀a∈K.ids,((K.A a).pu.map (·.1)).Nodup
 pub:∀a∈K.ids,∀b:Int,b∈(K.A a).pu.map (·.1)->0<=b/\b<n
 tak:∀a∈K.ids,(K.A a).op=true->(K.A a).st.isSome=true->Tkn K a
 hol:(K.ho.length:Int)<=64*K.tk
def LR{K K':Kc}(h1:K.bx=K'.bx)(h2:K.ma=K'.ma)(h3:K.ho=K'.ho)(h4:K.tk=K'.tk)(h5:K.ev=K'.ev)(h6:K.ids=K'.ids)(h7:∀x,K.A x=K'.A x):K=K':=by
 cases K;cases K';dsimp only at *;subst h1 h2 h3 h4 h5 h6;congr 1;exact funext h7
variable{v:Int}
def Ki.w(I:Ki K n):Kw K n where
 lb:=I.lb
 lm:=I.lm
 few:=by have:=I.few;omega
 ids:=I.ids
 lk:=fun a ha=>⟨by have:=rM (I.lkn a ha) (I.lkb a ha);have:=I.few;omega,I.lkb a ha⟩
 pu:=fun a ha=>⟨by have:=rM (I.pun a ha) (I.pub a ha);rw[Q7]at this;have:=I.few;omega,I.pun a ha,fun e he=>I.pub a ha e.1 (Zr.mpr ⟨e,he,rfl⟩)⟩
def Ki.ev(I:Ki K n)(ev:List U):Ki { K with ev:=ev } n:=⟨I.lb,I.lm,I.few,I.ids,I.lkn,I.lkb,I.pun,I.pub,fun a h1 h2 h3=>let t:=I.tak a h1 h2 h3;⟨t.un,t.few,t.sub,t.hld⟩,I.hol⟩
def Ki.up(I:Ki K n)(x:Ac)(h1:x.lk.Nodup)(h2:∀b:Int,b∈x.lk->0<=b/\b<n)(h3:(x.pu.map (·.1)).Nodup)(h4:∀b:Int,b∈x.pu.map (·.1)->0<=b/\b<n)
  (h5:x.op=true->x.st.isSome=true->x.un≠[]/\x.un.length<64/\(∀b∈x.un,b∈x.pu.map (·.1))/\∀d∈x.pu.map (·.1),bF K.ho d=some a):Ki (K.up a x) n:=by
 have at_:∀y,y≠a->(K.up a x).A y=K.A y:=fun y hy=>Xf hy;refine⟨I.lb,I.lm,I.few,I.ids,fun y hy=>?_,fun y hy=>?_,fun y hy=>?_,fun y hy=>?_,fun y hy o s=>?_,I.hol⟩;by_cases e:y=a;subst e;rw[k8];exact h1;rw[at_ y e];exact I.lkn y hy;by_cases e:y=a;subst e;rw[k8];exact h2;rw[at_ y e];exact I.lkb y hy;by_cases e:y=a;subst e;rw[k8];exact h3;rw[at_ y e];exact I.pun y hy;by_cases e:y=a;subst e;rw[k8];exact h4;rw[at_ y e];exact I.pub y hy;by_cases e:y=a;subst e;rw[k8]at o s;obtain⟨z1,z2,z3,z4⟩:=h5 o s;exact⟨by rw[k8];exact z1,by rw[k8];exact z2,by rw[k8];exact z3,by rw[k8];exact z4⟩;rw[at_ y e]at o s;have t:=I.tak y hy o s;exact⟨by rw[at_ y e];exact t.un,by rw[at_ y e];exact t.few,by rw[at_ y e];exact t.sub,by rw[at_ y e];exact t.hld⟩
def Ki.end(I:Ki K n)(ha:a∈K.ids)(w:Str):Ki (K.end a w) n:=(I.up { K.A a with op:=false } (I.lkn a ha) (I.lkb a ha) (I.pun a ha) (I.pub a ha) fun z=>nomatch z).ev _
def Ki.begin(I:Ki K n)(ha:a∉K.ids):Ki (cW K a) n:=by
 have ne:∀y∈K.ids,y≠a:=fun y hy e=>ha (by rw[<-e];exact hy);have at_:∀y,y≠a->(cW K a).A y=K.A y:=fun y hy=>Xf hy;have ata:(cW K a).A a=a0 K.tk:=Xd rfl;have sp:∀y∈(cW K a).ids,y∈K.ids\/y=a:=fun y hy=>(Zz.mp hy).imp id ZN.mp;refine⟨I.lb,I.lm,I.few,?_,fun y hy=>?_,fun y hy=>?_,fun y hy=>?_,fun y hy=>?_,fun y hy o s=>?_,I.hol⟩;show(K.ids++[a]).Nodup;rw[Xr];exact⟨I.ids,nofun,fun x hx y hy z=>by rw[ZN.mp hy]at z;exact ne x hx z⟩;rcases sp y hy with h|rfl;rw[at_ y (ne y h)];exact I.lkn y h;rw[ata];exact List.nodup_nil;rcases sp y hy with h|rfl;rw[at_ y (ne y h)];exact I.lkb y h;rw[ata];exact fun b hb=>nomatch hb;rcases sp y hy with h|rfl;rw[at_ y (ne y h)];exact I.pun y h;rw[ata];exact List.nodup_nil;rcases sp y hy with h|rfl;rw[at_ y (ne y h)];exact I.pub y h;rw[ata];exact fun b hb=>nomatch hb;rcases sp y hy with h|rfl;rw[at_ y (ne y h)]at o s;have t:=I.tak y h o s;exact⟨by rw[at_ y (ne y h)];exact t.un,by rw[at_ y (ne y h)];exact t.few,by rw[at_ y (ne y h)];exact t.sub,by rw[at_ y (ne y h)];exact t.hld⟩;rw[ata]at s;cases s
def EM{l:List Int}{b:Int}(h:l.Nodup):(pL l b).Nodup:=by
 unfold pL;split;exact h;rename_i hb;rw[Xr];exact⟨h,nofun,fun x hx y hy z=>by rw[ZN.mp hy]at z;exact hb (by rw[<-z];exact hx)⟩
def BW{l:List Int}{b x:Int}(h:x∈pL l b):x=b\/x∈l:=by
 unfold pL at h;split at h;exact .inr h;rcases Zz.mp h with z|z;exact .inr z;exact .inl (ZN.mp z)
def Ki.look(I:Ki K n)(ha:a∈K.ids)(st:(K.A a).st=none)(b0:0<=b)(b1:b<n):Ki (dJ K a b).2 n:=by
 unfold dJ;split;exact I.ev _;split;exact I.end ha _;refine(I.up { K.A a with g:=if (K.A a).g<K.ma.getD b.toNat 0 then K.tk else(K.A a).g,lk:=pL (K.A a).lk b } (EM (I.lkn a ha)) (fun x hx=>?_) (I.pun a ha) (I.pub a ha) fun _ s=>?_).ev _;rcases BW hx with z|z;subst z;exact⟨b0,b1⟩;exact I.lkb a ha x z;have s':(K.A a).st.isSome=true:=s;rw[st]at s';cases s'
def Ki.put(I:Ki K n)(ha:a∈K.ids)(st:(K.A a).st=none)(b0:0<=b)(b1:b<n):Ki (vI K a b v) n:=by
 refine(I.up { K.A a with pu:=gB (K.A a).pu b v } (I.lkn a ha) (I.lkb a ha) (Hq (I.pun a ha)) (fun x hx=>?_) fun _ s=>?_).ev _;rcases yj hx with z|z;subst z;exact⟨b0,b1⟩;exact I.pub a ha x z;have s':(K.A a).st.isSome=true:=s;rw[st]at s';cases s'
def Ki.take(I:Ki K n)(ha:a∈K.ids)(st:(K.A a).st=none):Ki (cE K a).2 n:=by
 unfold cE;split;exact I.end ha _;rename_i hp;split;exact I.end ha _;rename_i hb;have hb2:brd K a ((K.A a).pu.map (·.1))=false:=by
  cases z:brd K a ((K.A a).pu.map (·.1))with
  |false=>rfl
  |true=>rw[z]at hb;simp at hb
 have free:∀d∈(K.A a).pu.map (·.1),(bF K.ho d).getD a=a:=fun d hd=>by
  unfold brd at hb2;have:=List.any_eq_false.mp hb2 d hd;simpa using this
 have pm:=ib ((K.A a).pu.map (·.1));have pl:=(I.w.pu a ha).1;have at_:∀y,y≠a->({ K.up a { K.A a with st:=some (K.tk+1),un:=bL ((K.A a).pu.map (·.1)) } with tk:=K.tk+1,ho:=hold a (bL ((K.A a).pu.map (·.1))) K.ho }:Kc).A y=K.A y:=fun y hy=>Xf hy;have ata:({ K.up a { K.A a with st:=some (K.tk+1),un:=bL ((K.A a).pu.map (·.1)) } with tk:=K.tk+1,ho:=hold a (bL ((K.A a).pu.map (·.1))) K.ho }:Kc).A a={ K.A a with st:=some (K.tk+1),un:=bL ((K.A a).pu.map (·.1)) }:=Xd rfl;refine⟨I.lb,I.lm,I.few,I.ids,fun y hy=>?_,fun y hy=>?_,fun y hy=>?_,fun y hy=>?_,fun y hy o s=>?_,?_⟩;by_cases e:y=a;subst e;rw[ata];exact I.lkn y hy;rw[at_ y e];exact I.lkn y hy;by_cases e:y=a;subst e;rw[ata];exact I.lkb y hy;rw[at_ y e];exact I.lkb y hy;by_cases e:y=a;subst e;rw[ata];exact I.pun y hy;rw[at_ y e];exact I.pun y hy;by_cases e:y=a;subst e;rw[ata];exact I.pub y hy;rw[at_ y e];exact I.pub y hy;by_cases e:y=a;subst e;refine⟨?_,?_,?_,fun d hd=>?_⟩;rw[ata];intro z;have z':bL ((K.A y).pu.map (·.1))=[]:=z;rw[z']at pm;have:=pm.length_eq;rw[XF,Q7]at this;exact hp (Yg.mp this.symm);rw[ata];show(bL _).length<64;rw[pm.length_eq,Q7];exact pl;rw[ata];exact fun b hb=>pm.mem_iff.mp hb;rw[ata]at hd;show bF (hold y _ K.ho) d=some y;rw[qO,Xd (pm.mem_iff.mpr hd)];rw[at_ y e]at o s;have t:=I.tak y hy o s;refine⟨by rw[at_ y e];exact t.un,by rw[at_ y e];exact t.few,by rw[at_ y e];exact t.sub,fun d hd=>?_⟩;rw[at_ y e]at hd;show bF (hold a _ K.ho) d=some y;have hv:=t.hld d hd;rw[qO,Xf (fun z=>?_)];exact hv;have:=free d (pm.mem_iff.mp z);rw[hv]at this;exact e this;have l1:=w9 a (bL ((K.A a).pu.map (·.1))) K.ho;have l2:=pm.length_eq;rw[Q7]at l2;have:=I.hol;show((hold a _ K.ho).length:Int)<=64*(K.tk+1);omega
def Ki.write(I:Ki K n)(ha:a∈K.ids)(op:(K.A a).op=true)(st:(K.A a).st.isSome=true):Ki (bO K a).2 n:=by
 have t:=I.tak a ha op st;unfold bO;cases hu:(K.A a).un with
 |nil=>exact absurd hu t.un
 |cons b r=>
  dsimp only;have J:∀(x y:List Int),x.length=n->y.length=n->Ki { K with bx:=x,ma:=y } n:=fun x y hx hy=>⟨hx,hy,I.few,I.ids,I.lkn,I.lkb,I.pun,I.pub,fun a h1 h2 h3=>let t:=I.tak a h1 h2 h3;⟨t.un,t.few,t.sub,t.hld⟩,I.hol⟩;have J1:=J (K.bx.set b.toNat ((bF (K.A a).pu b).getD 0)) (K.ma.set b.toNat ((K.A a).st.getD 0)) (by rw[Zx];exact I.lb) (by rw[Zx];exact I.lm);by_cases hr:r=[]
  ·rw[Xd hr];have J2:=J1.up (a:=a) { K.A a with un:=r,op:=false } (I.lkn a ha) (I.lkb a ha) (I.pun a ha) (I.pub a ha) fun z=>nomatch z;have eq:Kc.end { ({ K.up a { K.A a with un:=r } with bx:=K.bx.set b.toNat ((bF (K.A a).pu b).getD 0),ma:=K.ma.set b.toNat ((K.A a).st.getD 0) }:Kc)with ho:=eQ ((K.A a).pu.map (·.1)) K.ho } a "done"={ ({ (Kc.up { K with bx:=K.bx.set b.toNat ((bF (K.A a).pu b).getD 0),ma:=K.ma.set b.toNat ((K.A a).st.getD 0) } a { K.A a with un:=r,op:=false })with ho:=eQ ((K.A a).pu.map (·.1)) K.ho }:Kc)with ev:=K.ev++[.tup [.str "done",.int a]] }:=by
    refine LR rfl rfl rfl rfl rfl rfl fun x=>?_;by_cases h:x=a<;>simp[Kc.end,Kc.up,h]
   rw[eq];refine Ki.ev (K:={ (Kc.up { K with bx:=K.bx.set b.toNat ((bF (K.A a).pu b).getD 0),ma:=K.ma.set b.toNat ((K.A a).st.getD 0) } a { K.A a with un:=r,op:=false })with ho:=eQ ((K.A a).pu.map (·.1)) K.ho }) ⟨J2.lb,J2.lm,J2.few,J2.ids,J2.lkn,J2.lkb,J2.pun,J2.pub,fun y hy o s=>?_,?_⟩ _;have ya:y≠a:=fun e=>by
    subst e;have:(({ (Kc.up { K with bx:=K.bx.set b.toNat ((bF (K.A y).pu b).getD 0),ma:=K.ma.set b.toNat ((K.A y).st.getD 0) } y { K.A y with un:=r,op:=false })with ho:=eQ ((K.A y).pu.map (·.1)) K.ho }:Kc).A y)={ K.A y with un:=r,op:=false }:=Xd rfl;rw[this]at o;cases o
   have at_:({ (Kc.up { K with bx:=K.bx.set b.toNat ((bF (K.A a).pu b).getD 0),ma:=K.ma.set b.toNat ((K.A a).st.getD 0) } a { K.A a with un:=r,op:=false })with ho:=eQ ((K.A a).pu.map (·.1)) K.ho }:Kc).A y=K.A y:=Xf ya;rw[at_]at o s;have t':=I.tak y hy o s;refine⟨by rw[at_];exact t'.un,by rw[at_];exact t'.few,by rw[at_];exact t'.sub,fun d hd=>?_⟩;rw[at_]at hd;have hv:=t'.hld d hd;show bF (eQ _ K.ho) d=some y;rw[sW _ _ _ fun z=>?_];exact hv;have:=t.hld d z;rw[hv]at this;exact ya (Yk this);have:=t9 ((K.A a).pu.map (·.1)) K.ho;have:=I.hol;show((eQ _ K.ho).length:Int)<=64*K.tk;omega
  rw[Xf hr];refine J1.up (a:=a) { K.A a with un:=r } (I.lkn a ha) (I.lkb a ha) (I.pun a ha) (I.pub a ha) fun _ _=>⟨hr,?_,fun x hx=>?_,t.hld⟩;have:=t.few;rw[hu,ZZ]at this;show r.length<64;omega
  exact t.sub x (by rw[hu];exact ZJ _ hx)
inductive Kl where
 |bg (a:Int)|lk (a b:Int)|pt (a b v:Int)|tk (a:Int)|wr (a:Int)
def Ir(K:Kc):Kl->U×Kc
 |.bg a=>(.non,cW K a)
 |.lk a b=>dJ K a b
 |.pt a b v=>(.non,vI K a b v)
 |.tk a=>(.str (cE K a).1,(cE K a).2)
 |.wr a=>(.str (bO K a).1,(bO K a).2)
structure Kb(K:Kc)(m:Nat):Prop where
 ev:K.ev.length<=m
 tk:K.tk<=m
 ids:K.ids.length<=m
section
variable{m:Nat}{k:Kl}
def Bq{w:Str}(B:Kb K m):Kb (K.end a w) (m+1):=⟨by show(K.ev++[_]).length<=_;have:=B.ev;simp;omega,by show K.tk<=_;have:=B.tk;omega,by show K.ids.length<=_;have:=B.ids;omega⟩
def Kb.call(B:Kb K m):Kb (Ir K k).2 (m+1):=by
 have h1:=B.ev;have h2:=B.tk;have h3:=B.ids;cases k with
 |bg a=>exact⟨by show(K.ev++[_]).length<=_;simp;omega,by show K.tk<=_;omega,by show(K.ids++[_]).length<=_;simp;omega⟩
 |lk a b=>
  show Kb (dJ K a b).2 _;unfold dJ;split;exact⟨by show(K.ev++[_]).length<=_;simp;omega,by show K.tk<=_;omega,by show K.ids.length<=_;omega⟩;split;exact Bq B;exact⟨by show(K.ev++[_]).length<=_;simp;omega,by show K.tk<=_;omega,by show K.ids.length<=_;omega⟩
 |pt a b v=>exact⟨by show(K.ev++[_]).length<=_;simp;omega,by show K.tk<=_;omega,by show K.ids.length<=_;omega⟩
 |tk a=>
  show Kb (cE K a).2 _;unfold cE;split;exact Bq B;split;exact Bq B;exact⟨by show K.ev.length<=_;omega,by show K.tk+1<=_;omega,by show K.ids.length<=_;omega⟩
 |wr a=>
  show Kb (bO K a).2 _;unfold bO;split;exact⟨by show K.ev.length<=_;omega,by show K.tk<=_;omega,by show K.ids.length<=_;omega⟩;dsimp only;split;exact Bq ⟨h1,h2,h3⟩;exact⟨by show K.ev.length<=_;omega,by show K.tk<=_;omega,by show K.ids.length<=_;omega⟩
end
section
variable{q:Int->Nat->Nat}
def Fx(pos:Pl->Option Nat)(c:Pl->O)(pos':Pl->Option Nat)(c':Pl->O):Prop:=∀s,(∀f i,s≠.x f i)->pos' s=pos s/\c' s=c s
def Kr.fx(R:Kr cK cA i pos c K p q)(F:Fx pos c pos' c'):Kr cK cA i pos' c' K p q:=by
 have k:∀f,pos' (.k i f)=pos (.k i f)/\c' (.k i f)=c (.k i f):=fun f=>F (.k i f) fun _ _=>by simp
 have a:∀x f,pos' (.a i x f)=pos (.a i x f)/\c' (.a i x f)=c (.a i x f):=fun x f=>F (.a i x f) fun _ _=>by simp
 exact⟨fun f hf=>by rw[(k f).1];exact R.pk f hf,by rw[(k 0).2];exact R.c0,by rw[(k 1).2];exact R.c1,by rw[(k 2).2];exact R.c2,by rw[(k 3).2];exact R.c3,by rw[(k 4).2];exact R.c4,by rw[(k 5).2];exact R.c5,fun x hx f hf=>by rw[(a x f).1];exact R.pa x hx f hf,fun x hx=>by rw[(a x 0).2];exact R.a0 x hx,fun x hx=>by rw[(a x 1).2];exact R.a1 x hx,fun x hx=>by rw[(a x 2).2];exact R.a2 x hx,fun x hx=>by rw[(a x 3).2];exact R.a3 x hx⟩
def Fx.upd{f i:Nat}{o:O}:Fx pos c pos (aD c (.x f i) o):=fun s hs=>⟨rfl,ah (hs f i)⟩
def Fx.new{f i p:Nat}{o:O}:Fx pos c (bZ pos (.x f i) p) (aD c (.x f i) o):=fun s hs=>⟨aw (hs f i),ah (hs f i)⟩
def Oy{f i lw:Nat}{z m:Int}(M:Mm pos c T)(hp:pos (.x f i)=some lw)(hc:c (.x f i)=.lst [.int z])(hm:0<m)(hb:m<2^60):∃d z',i9 [.ref lw,.int m] T=some (.int d,T.set lw (.lst [.int z']))/\Mm pos (aD c (.x f i) (.lst [.int z'])) (T.set lw (.lst [.int z']))/\0<=d/\d<m:=by
 have h:=M.get hp hc;refine⟨z % m,z / m,?_,M.set hp _,Int.emod_nonneg _ ⋯,Int.emod_lt_of_pos _ hm⟩;unfold i9;rw[oI];have dv:∀(j:Int) (S:Sto),FQ (.int j) (.int m) S=some (.int (j / m),S):=fun j S=>JR ⟨hm,l9 ⋯ hb⟩;have md:∀(j:Int) (S:Sto),uC (.int j) (.int m) S=some (.int (j % m),S):=fun j S=>xZ hm;rwa[lH,h,dv,md]
end
def ly{w:Str}(h:w∈(["done","falls","taken","written",""]:List Str)):(PyData.str w).canLay0=true:=by
 have:(["done","falls","taken","written",""]:List Str).all (fun w=>(PyData.str w).canLay0)=true:=by decide +kernel
 exact XC.mp this w h
section
variable{k:Kl}{u:U}
def evW:List Str:=["begin","look","put","done","fall"]
inductive EvL:U->Prop where
 |two (w:Str) (h:w∈evW) (a:Int):EvL (.tup [.str w,.int a])
 |four (w:Str) (h:w∈evW) (a b v:Int):EvL (.tup [.str w,.int a,.int b,.int v])
def FR{w:Str}(h:w∈evW):(PyData.str w).canLay0=true:=by
 have:evW.all (fun w=>(PyData.str w).canLay0)=true:=by decide +kernel
 exact XC.mp this w h
def EvL.lay(h:EvL u)(S:Sto):Lay 1 S u:=by
 cases h with
 |two w h a=>exact⟨.tuple [.str w,.int a],.tup (.cons (.str _) (.cons (.int _) .nil)),by have:=FR h;simp[Yc,Ya]at this ⊢;exact this,by simp[PyData.depth,Yb]⟩
 |four w h a b v=>exact⟨.tuple [.str w,.int a,.int b,.int v],.tup (.cons (.str _) (.cons (.int _) (.cons (.int _) (.cons (.int _) .nil)))),by have:=FR h;simp[Yc,Ya]at this ⊢;exact this,by simp[PyData.depth,Yb]⟩
def vm{S:Sto}{d:Nat}:∀{us:List U},(∀u∈us,Lay d S u)->gz d S us us
 |[],_=>gz.nil
 |u::us,h=>gz.cons (.refl (h u ZG)) (vm fun x hx=>h x (ZJ _ hx))
def kb{K:Kc}{e:U}(h:∀x∈K.ev,EvL x)(he:EvL e):∀x∈K.ev++[e],EvL x:=fun x hx=>by
 rcases Zz.mp hx with z|z;exact h x z;rw[ZN.mp z];exact he
def IM{K:Kc}(h:∀x∈K.ev,EvL x):∀x∈(Ir K k).2.ev,EvL x:=by
 cases k with
 |bg a=>exact kb h (.two _ ∅ _)
 |lk a b=>
  show ∀x∈(dJ K a b).2.ev,EvL x;unfold dJ;split;exact kb h (.four _ ∅ _ _ _);split;exact kb h (.two _ ∅ _);exact kb h (.four _ ∅ _ _ _)
 |pt a b v=>exact kb h (.four _ ∅ _ _ _)
 |tk a=>
  show ∀x∈(cE K a).2.ev,EvL x;unfold cE;split;exact kb h (.two _ ∅ _);split;exact kb h (.two _ ∅ _);exact h
 |wr a=>
  show ∀x∈(bO K a).2.ev,EvL x;unfold bO;split;exact h;dsimp only;split;exact kb (K:=K) h (.two _ ∅ _);exact h
end
def Ki.new{st:List Int}{n:Nat}(h:st.length=n)(hn:n<64):Ki (xj st) n:=
 ⟨h,by simp[xj,h],hn,List.nodup_nil,fun _ h=>(nomatch h),fun _ h=>(nomatch h),fun _ h=>(nomatch h),fun _ h=>(nomatch h),fun _ h=>(nomatch h),by simp[xj]⟩
def Kb.new{st:List Int}:Kb (xj st) 0:=⟨Z6 _,by simp[xj],Z6 _⟩
def Mm.setF(M:Mm pos c T)(h:∀s,pos s≠some l):Mm pos c (T.set l o):=⟨fun s p hp=>by rw[ZS (fun e=>h s (by rw[e];exact hp))];exact M.at_ s p hp,M.inj⟩
inductive DU(n w:Int):Nat->U->Prop
 |pl {e:Nat} {d:k7}:d.ok n w->DU n w e d.u
 |tr {e:Nat} {a b:List U}:(∀u∈a,DU n w e u)->(∀u∈b,DU n w e u)->DU n w (e+1) (.tup [.str "try",.tup a,.tup b])
structure Hw(n:Int)(hs:List Int)(ps:List (Int×Int)):Prop where
 h4:hs.length=4
 pk:(ps.map (·.1)).Nodup
 pb:∀k∈ps.map (·.1),0<=k/\k<n
def Hw.wf{n:Int}{hs:List Int}{ps:List (Int×Int)}(h:Hw n hs ps):Wf n ⟨hs,ps,[]⟩:=⟨h.h4,h.pk,h.pb,List.nodup_nil,fun k hk=>nomatch hk⟩
mutual
inductive PtW(n w:Int):Nat->U->Prop
 |top {e:Nat} {ds:List U} {q:Int} {B:U}:(∀u∈ds,DU n w e u)->e<=50->0<=q->BkW n w B->PtW n w 0 (pt ds q .non B)
 |up {d e:Nat} {ds:List U} {q:Int} {A B:U}:(∀u∈ds,DU n w e u)->d+1+e<=50->0<=q->PtW n w d A->BkW n w B->PtW n w (d+1) (pt ds q A B)
inductive BkW(n w:Int):U->Prop
 |no:BkW n w .non
 |go {hs:List Int} {ps:List (Int×Int)} {y:U} {d:Nat}:Hw n hs ps->PtW n w d y->BkW n w (bk n.toNat hs ps y)
end
section
variable{n w:Int}{d:Nat}{y:U}{ds:List U}{e:Nat}
def PtW.ex(h:PtW n w d x):∃ds q A B e,x=pt ds q A B/\(∀u∈ds,DU n w e u)/\d+e<=50/\0<=q/\BkW n w B/\((A=.non/\d=0)\/∃d',d=d'+1/\PtW n w d' A):=by
 cases h with
 |top h1 h2 h3 h4=>exact⟨_,_,_,_,_,rfl,h1,⋯,h3,h4,.inl ⟨rfl,rfl⟩⟩
 |up h1 h2 h3 h4 h5=>exact⟨_,_,_,_,_,rfl,h1,h2,h3,h5,.inr ⟨_,rfl,h4⟩⟩
def PtW.mk'(h1:∀u∈ds,DU n w e u)(h2:d+e<=50)(h3:0<=q)(h5:BkW n w B)(h4:(A=.non/\d=0)\/∃d',d=d'+1/\PtW n w d' A):PtW n w d (pt ds q A B):=by
 rcases h4 with⟨rfl,rfl⟩|⟨d',rfl,h4⟩;exact .top h1 ⋯ h3 h5;exact .up h1 h2 h3 h4 h5
def PtW.onw:∀{d:Nat} {x:U},PtW n w d x->∃y d',Onw d x y/\d'<=d/\PtW n w d' y
 |0,x,h=>by
  obtain⟨ds,q,A,B,e,rfl,h1,h2,h3,h5,h4⟩:=h.ex;rcases h4 with⟨rfl,_⟩|⟨d',z,_⟩;exact⟨_,0,.top,Z6 _,h⟩;cases z
 |d+1,x,h=>by
  obtain⟨ds,q,A,B,e,rfl,h1,h2,h3,h5,h4⟩:=h.ex;rcases h4 with⟨_,z⟩|⟨d',z,hA⟩;cases z;cases z;by_cases hq:q<ds.length;exact⟨_,d+1,.stop hq,Z6 _,h⟩;obtain⟨y,d',o,l,hy⟩:=hA.onw;obtain⟨ds',q',A',B',e',rfl,_⟩:=hA.ex;exact⟨y,d',.up ⋯ o,⋯,hy⟩
def yP(x:U):U:=((yK [x] []).map (·.1)).getD x
def Ly(h:Onw d x y)(hd:d<100):yP x=y:=by unfold yP;rw[t7 h hd];rfl
def PtW.le(h:PtW n w d x):d<=50:=by obtain⟨ds,q,A,B,e,rfl,h1,h2,_⟩:=h.ex;omega
def PtW.onw'(h:PtW n w d x):Onw d x (yP x)/\∃d',PtW n w d' (yP x):=by
 obtain⟨y,d',o,l,hy⟩:=h.onw;rw[Ly o (by have:=h.le;omega)];exact⟨o,d',hy⟩
end
structure Dc where
 hs:List Int
 ps:List (Int×Int)
 x:U
structure DgW(n w:Int)(D:Dc):Prop where
 hw:Hw n D.hs D.ps
 pw:∃d,PtW n w d D.x
def dOb(cD:Cl)(w n:Int)(D:Dc):O:=dO cD w n.toNat ⟨D.hs,D.ps,[]⟩ D.x
def pDs:U->List U
 |.tup (.tup ds::_)=>ds
 |_=>[]
def pQ:U->Int
 |.tup (_::.int q::_)=>q
 |_=>0
def pA:U->U
 |.tup (_::_::A::_)=>A
 |_=>.non
def pB:U->U
 |.tup (_::_::_::B::_)=>B
 |_=>.non
def iK(D:Dc):Option U:=(pDs D.x)[(pQ D.x).toNat]?
def lkG:U->Int
 |.tup (_::.int g::_)=>g
 |_=>0
def lkB:U->Int
 |.tup (_::_::.int b::_)=>b
 |_=>0
def Iy:U->Bool
 |.tup (.str s::_)=>decide (s="look")
 |_=>false
def pJ(D:Dc)(u:U):Bool:=Iy u&&!(bF D.ps (lkB u)).isSome
def mY(dl:List U):Dc:=⟨[0,0,0,0],[],yP (pt dl 0 .non .non)⟩
def rS(D:Dc)(v:Int):Dc:=⟨D.hs.set (lkG ((iK D).getD .non)).toNat v,D.ps,yP (pt (pDs D.x) (pQ D.x+1+0) (pA D.x) (pB D.x))⟩
def Lw(n:Int)(lk:List Int):Prop:=lk.Nodup/\∀k∈lk,0<=k/\k<n
def DoR(w n:Int)(D:Dc)(b:Bool)(D':Dc):Prop:=∀(cD:Cl) (S:Sto) (i ll:Nat) (lk:List Int),Lw n lk->S[i]?=some (dOb cD w n D)->S[ll]?=some (.dic (dT lk))->Ge cD [.ref i] S=some (.bl b,S.set i (dOb cD w n D'))
variable{D:Dc}
section
variable{n w:Int}{lk:List Int}{u:U}
def rV(h:S[i]?=some (dOb cD w n D))(hl:S[ll]?=some (.dic (dT lk))):Cf cD w n.toNat i ll ⟨D.hs,D.ps,lk⟩ D.x S:=⟨h,hl⟩
def DU.head{e:Nat}(h:DU n w e u):∃s r,u=.tup (.str s::r):=by
 cases h with
 |pl h=>exact Ka _
 |tr _ _=>exact⟨_,_,rfl⟩
def DgW.ex(h:DgW n w D):∃ds q A B d e,D.x=pt ds q A B/\(∀u∈ds,DU n w e u)/\d+e<=50/\0<=q/\BkW n w B/\((A=.non/\d=0)\/∃d',d=d'+1/\PtW n w d' A):=by
 obtain⟨d,hp⟩:=h.pw;obtain⟨ds,q,A,B,e,h1⟩:=hp.ex;exact⟨ds,q,A,B,d,e,h1⟩
def Ex(h:DgW n w D)(hi:S[i]?=some (dOb cD w n D))(hl:S[ll]?=some (.dic (dT lk)))(hd:iK D=none):ju cD [.ref i] S=some (.non,S):=by
 obtain⟨ds,q,A,B,d,e,ex,h1,h2,h3,h4⟩:=h.ex;have c:=rV hi hl;rw[ex]at c;unfold iK at hd;rw[ex]at hd;have:ds.length<=q.toNat:=List.getElem?_eq_none_iff.mp hd;exact Ew c ⋯
def xB(h:DgW n w D)(hi:S[i]?=some (dOb cD w n D))(hl:S[ll]?=some (.dic (dT lk)))(hd:iK D=some u):ju cD [.ref i] S=some (u,S):=by
 obtain⟨ds,q,A,B,d,e,ex,h1,h2,h3,h4⟩:=h.ex;have c:=rV hi hl;rw[ex]at c;unfold iK at hd;rw[ex]at hd;exact j0 c h3 hd
def DgW.du(h:DgW n w D)(hd:iK D=some u):∃e,DU n w e u:=by
 obtain⟨ds,q,A,B,d,e,ex,h1,h2,h3,h4⟩:=h.ex;unfold iK at hd;rw[ex]at hd;exact⟨e,h1 u (XJ hd)⟩
def DgW.ask(h:DgW n w D)(hd:iK D=some u)(ha:Iy u=true):∃g b,u=k7.u (.look g b)/\0<=g/\g<4/\0<=b/\b<n:=by
 obtain⟨e,hu⟩:=h.du hd;cases hu with
 |@pl e d od=>
  cases d with
  |look g b=>exact⟨g,b,rfl,od⟩
  |put g b=>exact absurd (show decide (("put":Str)="look")=true from ha) ∅
  |set g b=>exact absurd (show decide (("set":Str)="look")=true from ha) ∅
  |plus g b=>exact absurd (show decide (("plus":Str)="look")=true from ha) ∅
  |leap g b=>exact absurd (show decide (("leap":Str)="look")=true from ha) ∅
  |wait=>exact absurd ha ∅
 |tr _ _=>exact absurd (show decide (("try":Str)="look")=true from ha) ∅
def EJ(h:DgW n w D)(n0:0<=n)(hi:S[i]?=some (dOb cD w n D))(hl:S[ll]?=some (.dic (dT lk)))(hd:iK D=some u):qH cD [.ref i] S=some (.bl (pJ D u),S):=by
 have hd0:=hd;obtain⟨ds,q,A,B,d,e,ex,h1,h2,h3,h4⟩:=h.ex;have c:=rV hi hl;rw[ex]at c;unfold iK at hd;rw[ex]at hd
 replace hd:ds[q.toNat]?=some u:=hd
 unfold pJ;cases hk:Iy u with
 |true=>
  obtain⟨g,b,rfl,_,_,b0,b1⟩:=h.ask hd0 hk;exact BS c h3 hd b0 b1
 |false=>
  obtain⟨e,hu⟩:=h.du hd0;obtain⟨s,r,rfl⟩:=hu.head;exact Jb c h3 hd hk
def xq{v:Int}(h:DgW n w D)(hi:S[i]?=some (dOb cD w n D))(hl:S[ll]?=some (.dic (dT lk)))(hd:iK D=some u)(hk:Iy u=true):xS cD [.ref i,.int v] S=some (.non,S.set i (dOb cD w n (rS D v)))/\DgW n w (rS D v):=by
 have hd0:=hd;obtain⟨ds,q,A,B,d,e,ex,h1,h2,h3,h5,h4⟩:=h.ex;have c:=rV hi hl;rw[ex]at c;unfold iK at hd;rw[ex]at hd
 replace hd:ds[q.toNat]?=some u:=hd
 obtain⟨g,b,rfl,g0,g1,b0,b1⟩:=h.ask hd0 hk;have P:PtW n w d (pt ds (q+1+0) A B):=PtW.mk' h1 h2 ⋯ h5 h4;obtain⟨o,d',hy⟩:=P.onw';have E:rS D v=⟨D.hs.set g.toNat v,D.ps,yP (pt ds (q+1+0) A B)⟩:=by
  unfold rS;rw[hd0,ex];rfl
 rw[E];exact⟨ID c h.hw.h4 h3 hd g0 g1 o (by have:=P.le;omega),⟨⟨by rw[Zx];exact h.hw.h4,h.hw.pk,h.hw.pb⟩,d',hy⟩⟩
def Pt(h:DgW n w D)(w0:2<=w)(n1:n<=6)(hd:iK D=some u)(ha:pJ D u=false):∃b D',DoR w n D b D'/\DgW n w D':=by
 have hd0:=hd;obtain⟨ds,q,A,B,d,e,ex,h1,h2,h3,h5,h4⟩:=h.ex;unfold iK at hd;rw[ex]at hd
 replace hd:ds[q.toNat]?=some u:=hd
 have plain:∀(dd:k7),dd≠.wait->u=dd.u->dd.ok n w->(∀g b,dd=.look g b->(bF D.ps b).isSome=true)->∃b D',DoR w n D b D'/\DgW n w D':=by
  intro dd nw eu od hlk;subst eu;have lv0:0<=lv ⟨D.hs,D.ps,[]⟩ dd:=by
   cases dd with
   |leap g k=>obtain⟨_,_,k1,_⟩:=od;show 0<=(if _ then k else 0);split<;>omega
   |_=>exact Xe _
  have P:PtW n w d (pt ds (q+1+lv ⟨D.hs,D.ps,[]⟩ dd) A B):=PtW.mk' h1 h2 ⋯ h5 h4;obtain⟨o,d',hy⟩:=P.onw';have wf2:=Ha (first:=[]) h.hw.wf od;refine⟨true,⟨(step w [] ⟨D.hs,D.ps,[]⟩ dd).hs,(step w [] ⟨D.hs,D.ps,[]⟩ dd).ps,yP (pt ds (q+1+lv ⟨D.hs,D.ps,[]⟩ dd) A B)⟩,?_,⟨wf2.h4,wf2.pk,wf2.pb⟩,d',hy⟩;intro cD S i ll lk lw hi hl;have c:=rV hi hl;rw[ex]at c;have el:lv ⟨D.hs,D.ps,lk⟩ dd=lv ⟨D.hs,D.ps,[]⟩ dd:=by cases dd<;>rfl
  have e:=Et (first:=[]) nw c ⟨h.hw.h4,h.hw.pk,h.hw.pb,lw.1,lw.2⟩ w0 n1 od h3 hd hlk (by rw[el];exact o) (by have:=P.le;omega);rw[e];cases dd<;>rfl
 obtain⟨e',hu⟩:=h.du hd0;cases hu with
 |@pl e' dd od=>
  by_cases nw:dd=.wait;subst nw;cases h5 with
  |no=>
   refine⟨false,D,fun cD S i ll lk lw hi hl=>?_,h⟩;have c:=rV hi hl;rw[ex]at c;rw[Bu c h3 hd (BO c),nT hi]
  |@go hs ps y d' hw hp=>
   refine⟨true,⟨hs,ps,y⟩,fun cD S i ll lk lw hi hl=>?_,hw,d',hp⟩;have c:=rV hi hl;rw[ex]at c;exact Bu c h3 hd (BN c)
  refine plain dd nw rfl od fun g b e1=>?_;subst e1;have ha':(decide (("look":Str)="look")&&!(bF D.ps b).isSome)=false:=ha;rw[Xc rfl,YQ]at ha';simpa using ha'
 |@tr e' a b ha1 hb1=>
  obtain⟨e'',ee,hda,hdb⟩:∃e'',(e''+1<=e)/\(∀u∈a,DU n w e'' u)/\(∀u∈b,DU n w e'' u):=by
   have:=h1 _ (XJ hd);generalize hz:(U.tup [.str "try",.tup a,.tup b])=z at this;cases this with
   |@pl _ d _=>cases d<;>simp[k7.u]at hz
   |@tr e2 a2 b2 q1 q2=>cases hz;exact⟨e2,Z6 _,q1,q2⟩
  have P0:PtW n w d (pt ds (q+1+0) A B):=PtW.mk' h1 h2 ⋯ h5 h4;have P1:PtW n w (d+1) (pt b 0 (pt ds (q+1+0) A B) B):=.up hdb ⋯ (Xe _) P0 h5;obtain⟨o1,d1,hz⟩:=P1.onw';have P2:PtW n w (d+1) (pt a 0 (pt ds (q+1+0) A B) (bk n.toNat D.hs D.ps (yP (pt b 0 (pt ds (q+1+0) A B) B)))):=.up hda ⋯ (Xe _) P0 (.go h.hw hz);obtain⟨o2,d2,hy⟩:=P2.onw';refine⟨true,⟨D.hs,D.ps,yP (pt a 0 (pt ds (q+1+0) A B) (bk n.toNat D.hs D.ps (yP (pt b 0 (pt ds (q+1+0) A B) B))))⟩,fun cD S i ll lk lw hi hl=>?_,h.hw,d2,hy⟩;have c:=rV hi hl;rw[ex]at c;have l1:=P1.le;rw[MC c h3 hd o1 ⋯ o2 ⋯];rfl
def dDo(w n:Int)(D:Dc):Bool×Dc:=open Classical in if h:∃r:Bool×Dc,DoR w n D r.1 r.2/\DgW n w r.2 then h.choose else(false,D)
def FX(h:DgW n w D)(w0:2<=w)(n1:n<=6)(hd:iK D=some u)(ha:pJ D u=false):DoR w n D (dDo w n D).1 (dDo w n D).2/\DgW n w (dDo w n D).2:=by
 obtain⟨b,D',h1,h2⟩:=Pt h w0 n1 hd ha;have hx:∃r:Bool×Dc,DoR w n D r.1 r.2/\DgW n w r.2:=⟨(b,D'),h1,h2⟩;unfold dDo;rw[dif_pos hx];exact hx.choose_spec
def ME{dl:List U}{e:Nat}(h:∀u∈dl,DU n w e u)(he:e<=50):DgW n w (mY dl):=by
 have P:PtW n w 0 (pt dl 0 .non .non):=.top h he (Xe _) .no;obtain⟨o,d',hy⟩:=P.onw';exact⟨⟨rfl,List.nodup_nil,fun k hk=>nomatch hk⟩,d',hy⟩
end
structure Tyg where
 dl:List U
 att:Option Int
 d:Option Dc
 sg:Str
 fa:Int
 fl:Int
structure Tc where
 K:Kc
 pa:Option Int
 be:Int
 rw:List Int
 os:List Tyg
structure Cz where
 K:Cl
 A:Cl
 D:Cl
 Y:Cl
 T:Cl
structure CzO(z:Cz):Prop where
 K:z.K.ns.length=6
 A:z.A.ns.length=6
 D:z.D.ns.length=4
 Y:z.Y.ns.length=6
 T:z.T.ns.length=6
def tp(j f i:Nat):Pl:=.x (20+(4*j+f)) i
def duU:Option Dc->Nat->U
 |none,_=>.non
 |some _,l=>.ref l
def yO(cY:Cl)(y:Tyg)(ld:Nat):O:=.ins cY [some (.tup y.dl),some (stU y.att),some (duU y.d ld),some (.str y.sg),some (.int y.fa),some (.int y.fl)]
def tO'(cT:Cl)(n w:Int)(k0:Nat)(pa:Option Int)(lo:Nat)(be:Int)(lr:Nat):O:=.ins cT [some (.tup [.int n,.int w]),some (.ref k0),some (stU pa),some (.ref lo),some (.int be),some (.ref lr)]
structure Tr(z:Cz)(j:Nat)(n w:Int)(pos:Pl->Option Nat)(c:Pl->O)(X:Tc)(p:Nat->Nat)(q:Int->Nat->Nat)(t:Nat->Nat)(o:Nat->Nat)(lr:Nat)(ld:Nat->Nat):Prop where
 kr:Kr z.K z.A j pos c X.K p q
 pT:pos (tp j 0 0)=some (t 0)
 pO:pos (tp j 0 1)=some (t 1)
 pR:pos (tp j 0 2)=some lr
 cT:c (tp j 0 0)=tO' z.T n w (p 0) X.pa (t 1) X.be lr
 cO:c (tp j 0 1)=.lst ((ZF X.os.length).map fun i=>U.ref (o i))
 cR:c (tp j 0 2)=.lst (X.rw.map U.int)
 py:∀i y,X.os[i]?=some y->pos (tp j 1 i)=some (o i)
 cy:∀i y,X.os[i]?=some y->c (tp j 1 i)=yO z.Y y (ld i)
 pd:∀i y D,X.os[i]?=some y->y.d=some D->pos (tp j 2 i)=some (ld i)
 cd:∀i y D,X.os[i]?=some y->y.d=some D->c (tp j 2 i)=dOb z.D w n D
def wQ(j:Nat)(s:Pl):Prop:=own j s\/∃f i,f<4/\s=tp j f i
def FmT(j:Nat)(pos:Pl->Option Nat)(c:Pl->O)(pos':Pl->Option Nat)(c':Pl->O):Prop:=∀s,¬wQ j s->pos' s=pos s/\c' s=c s
def NT(z:Cz)(j:Nat)(n w:Int)(pos:Pl->Option Nat)(c:Pl->O)(p t o:Nat->Nat)(X':Tc)(T':Sto):Prop:=∃pos' c' q' lr' ld',Mm pos' c' T'/\Tr z j n w pos' c' X' p q' t o lr' ld'/\FmT j pos c pos' c'
def Tc.set(X:Tc)(i:Nat)(y:Tyg):Tc:={ X with os:=X.os.set i y }
variable{z:Cz}{X:Tc}{t ld:Nat->Nat}{lr:Nat}{y:Tyg}
section
variable{n w:Int}{o:Nat->Nat}{q q':Int->Nat->Nat}{K':Kc}
def FmT.refl:FmT j pos c pos c:=fun _ _=>⟨rfl,rfl⟩
def FmT.trans(h:FmT j pos c pos' c')(h':FmT j pos' c' pos'' c''):FmT j pos c pos'' c'':=fun s n=>⟨(h' s n).1.trans (h s n).1,(h' s n).2.trans (h s n).2⟩
def FmT.upd{o:O}(h:FmT j pos c pos' c')(hs:wQ j s):FmT j pos c pos' (aD c' s o):=fun s' n'=>⟨(h s' n').1,by rw[ah (fun e=>n' (by rw[e];exact hs))];exact(h s' n').2⟩
def FmT.pn{k:Nat}(h:FmT j pos c pos' c')(hs:wQ j s):FmT j pos c (bZ pos' s k) c':=fun s' n'=>⟨by rw[aw (fun e=>n' (by rw[e];exact hs))];exact(h s' n').1,(h s' n').2⟩
def FmT.fm(h:Fm j pos c pos' c'):FmT j pos c pos' c':=fun s n=>h s fun z=>n (.inl z)
def wQ.tp{f i:Nat}(h:f<4):wQ j (tp j f i):=.inr ⟨f,i,h,rfl⟩
def aX{f f' i i':Nat}(h:¬(f=f'/\i=i')):tp j f i≠tp j f' i':=fun e=>by
 unfold tp at e;injection e with e1 e2;exact h ⟨⋯,e2⟩
def G0{f i:Nat}:¬own j (tp j f i):=fun z=>z
def Tr.kp(R:Tr z j n w pos c X p q t o lr ld)(K':Kc)(kr:Kr z.K z.A j pos' c' K' p q')(F:Fm j pos c pos' c'):Tr z j n w pos' c' { X with K:=K' } p q' t o lr ld:=by
 have a:∀f i,pos' (tp j f i)=pos (tp j f i)/\c' (tp j f i)=c (tp j f i):=fun f i=>F _ G0;exact⟨kr,by rw[(a 0 0).1];exact R.pT,by rw[(a 0 1).1];exact R.pO,by rw[(a 0 2).1];exact R.pR,by rw[(a 0 0).2];exact R.cT,by rw[(a 0 1).2];exact R.cO,by rw[(a 0 2).2];exact R.cR,fun i y h=>by rw[(a 1 i).1];exact R.py i y h,fun i y h=>by rw[(a 1 i).2];exact R.cy i y h,fun i y D h h'=>by rw[(a 2 i).1];exact R.pd i y D h h',fun i y D h h'=>by rw[(a 2 i).2];exact R.cd i y D h h'⟩
def Tr.keep(R:Tr z j n w pos c X p q t o lr ld)(F:∀s,wQ j s->pos' s=pos s/\c' s=c s):Tr z j n w pos' c' X p q t o lr ld:=by
 have a:∀f i,f<3->pos' (tp j f i)=pos (tp j f i)/\c' (tp j f i)=c (tp j f i):=fun f i h=>F _ (.tp ⋯);have kk:∀f,pos' (.k j f)=pos (.k j f)/\c' (.k j f)=c (.k j f):=fun f=>F _ (.inl rfl);have aa:∀x f,pos' (.a j x f)=pos (.a j x f)/\c' (.a j x f)=c (.a j x f):=fun x f=>F _ (.inl rfl);have k:=R.kr;exact⟨⟨fun f hf=>by rw[(kk f).1];exact k.pk f hf,by rw[(kk 0).2];exact k.c0,by rw[(kk 1).2];exact k.c1,by rw[(kk 2).2];exact k.c2,by rw[(kk 3).2];exact k.c3,by rw[(kk 4).2];exact k.c4,by rw[(kk 5).2];exact k.c5,fun x hx f hf=>by rw[(aa x f).1];exact k.pa x hx f hf,fun x hx=>by rw[(aa x 0).2];exact k.a0 x hx,fun x hx=>by rw[(aa x 1).2];exact k.a1 x hx,fun x hx=>by rw[(aa x 2).2];exact k.a2 x hx,fun x hx=>by rw[(aa x 3).2];exact k.a3 x hx⟩,
  by rw[(a 0 0 ∅).1];exact R.pT,by rw[(a 0 1 ∅).1];exact R.pO,by rw[(a 0 2 ∅).1];exact R.pR,by rw[(a 0 0 ∅).2];exact R.cT,by rw[(a 0 1 ∅).2];exact R.cO,by rw[(a 0 2 ∅).2];exact R.cR,fun i y h=>by rw[(a 1 i ∅).1];exact R.py i y h,fun i y h=>by rw[(a 1 i ∅).2];exact R.cy i y h,fun i y D h h'=>by rw[(a 2 i ∅).1];exact R.pd i y D h h',fun i y D h h'=>by rw[(a 2 i ∅).2];exact R.cd i y D h h'⟩
def Kr.tp{f i k:Nat}{o:O}{K:Kc}(R:Kr z.K z.A j pos c K p q):Kr z.K z.A j pos (aD c (tp j f i) o) K p q:=R.fx Fx.upd
def Kr.tn{f i k:Nat}{o:O}{K:Kc}(R:Kr z.K z.A j pos c K p q):Kr z.K z.A j (bZ pos (OQ.tp j f i) k) (aD c (OQ.tp j f i) o) K p q:=R.fx Fx.new
def Tr.tmp{k l:Nat}{b:O}(R:Tr z j n w pos c X p q t o lr ld):Tr z j n w (bZ pos (tp j 3 k) l) (aD c (tp j 3 k) b) X p q t o lr ld:=
 ⟨R.kr.tn,by rw[aw (aX ⋯)];exact R.pT,by rw[aw (aX ⋯)];exact R.pO,by rw[aw (aX ⋯)];exact R.pR,by rw[ah (aX ⋯)];exact R.cT,by rw[ah (aX ⋯)];exact R.cO,by rw[ah (aX ⋯)];exact R.cR,fun i y h=>by rw[aw (aX ⋯)];exact R.py i y h,fun i y h=>by rw[ah (aX ⋯)];exact R.cy i y h,fun i y D h h'=>by rw[aw (aX ⋯)];exact R.pd i y D h h',fun i y D h h'=>by rw[ah (aX ⋯)];exact R.cd i y D h h'⟩
def oNe{k:Nat}{x y':Tyg}(e:¬k=i)(h:(X.set i y').os[k]?=some x):X.os[k]?=some x:=by
 unfold Tc.set at h;rw[ZS (Ne.symm e)]at h;exact h
def oEq{x y y':Tyg}(hi:X.os[i]?=some y)(h:(X.set i y').os[i]?=some x):x=y':=by
 unfold Tc.set at h;rw[Ze (Q6.mp hi).1]at h;exact(Yk h).symm
def Tr.sy(R:Tr z j n w pos c X p q t o lr ld)(hi:X.os[i]?=some y)(y':Tyg)(hd:y'.d=y.d):Tr z j n w pos (aD c (tp j 1 i) (yO z.Y y' (ld i))) (X.set i y') p q t o lr ld:=by
 refine⟨R.kr.tp (k:=0),R.pT,R.pO,R.pR,by rw[ah (aX ⋯)];exact R.cT,by rw[ah (aX ⋯)];unfold Tc.set;rw[Zx];exact R.cO,by rw[ah (aX ⋯)];exact R.cR,fun k x h=>?_,fun k x h=>?_,fun k x E h h'=>?_,fun k x E h h'=>?_⟩;by_cases e:k=i;subst e;exact R.py k y hi;exact R.py k x (oNe e h);by_cases e:k=i;subst e;cases oEq hi h;rw[aG];rw[ah (aX ⋯)];exact R.cy k x (oNe e h);by_cases e:k=i;subst e;cases oEq hi h;exact R.pd k y E hi (by rw[<-hd];exact h');exact R.pd k x E (oNe e h) h';rw[ah (aX ⋯)];by_cases e:k=i;subst e;cases oEq hi h;exact R.cd k y E hi (by rw[<-hd];exact h');exact R.cd k x E (oNe e h) h'
def Tr.sd(R:Tr z j n w pos c X p q t o lr ld)(hi:X.os[i]?=some y)(hd:y.d=some D)(D':Dc):Tr z j n w pos (aD c (tp j 2 i) (dOb z.D w n D')) (X.set i { y with d:=some D' }) p q t o lr ld:=by
 refine⟨R.kr.tp (k:=0),R.pT,R.pO,R.pR,by rw[ah (aX ⋯)];exact R.cT,by rw[ah (aX ⋯)];unfold Tc.set;rw[Zx];exact R.cO,by rw[ah (aX ⋯)];exact R.cR,fun k x h=>?_,fun k x h=>?_,fun k x E h h'=>?_,fun k x E h h'=>?_⟩;by_cases e:k=i;subst e;exact R.py k y hi;exact R.py k x (oNe e h);rw[ah (aX ⋯)];by_cases e:k=i;subst e;cases oEq hi h;rw[R.cy k y hi];unfold yO;rw[hd];rfl;exact R.cy k x (oNe e h);by_cases e:k=i;subst e;exact R.pd k y D hi hd;exact R.pd k x E (oNe e h) h';by_cases e:k=i;subst e;cases oEq hi h;cases h';rw[aG];rw[ah (aX ⋯)];exact R.cd k x E (oNe e h) h'
def Tr.sr(R:Tr z j n w pos c X p q t o lr ld)(rw':List Int):Tr z j n w pos (aD c (tp j 0 2) (.lst (rw'.map U.int))) { X with rw:=rw' } p q t o lr ld:=
 ⟨R.kr.tp (k:=0),R.pT,R.pO,R.pR,by rw[ah (aX ⋯)];exact R.cT,by rw[ah (aX ⋯)];exact R.cO,aG,R.py,fun k x h=>by rw[ah (aX ⋯)];exact R.cy k x h,R.pd,fun k x E h h'=>by rw[ah (aX ⋯)];exact R.cd k x E h h'⟩
def Tr.nr(R:Tr z j n w pos c X p q t o lr ld)(rw':List Int)(lr':Nat):Tr z j n w (bZ pos (tp j 0 2) lr') (aD (aD c (tp j 0 2) (.lst (rw'.map U.int))) (tp j 0 0) (tO' z.T n w (p 0) X.pa (t 1) X.be lr')) { X with rw:=rw' } p q t o lr' ld:=
 ⟨(R.kr.tn (f:=0) (i:=2) (k:=lr')).tp (k:=0),by rw[aw (aX ⋯)];exact R.pT,by rw[aw (aX ⋯)];exact R.pO,cI,aG,by rw[ah (aX ⋯),ah (aX ⋯)];exact R.cO,by rw[ah (aX ⋯),aG],
  fun k x h=>by rw[aw (aX ⋯)];exact R.py k x h,fun k x h=>by rw[ah (aX ⋯),ah (aX ⋯)];exact R.cy k x h,fun k x E h h'=>by rw[aw (aX ⋯)];exact R.pd k x E h h',fun k x E h h'=>by rw[ah (aX ⋯),ah (aX ⋯)];exact R.cd k x E h h'⟩
def Tr.sb(R:Tr z j n w pos c X p q t o lr ld)(be':Int):Tr z j n w pos (aD c (tp j 0 0) (tO' z.T n w (p 0) X.pa (t 1) be' lr)) { X with be:=be' } p q t o lr ld:=
 ⟨R.kr.tp (k:=0),R.pT,R.pO,R.pR,aG,by rw[ah (aX ⋯)];exact R.cO,by rw[ah (aX ⋯)];exact R.cR,R.py,fun k x h=>by rw[ah (aX ⋯)];exact R.cy k x h,R.pd,fun k x E h h'=>by rw[ah (aX ⋯)];exact R.cd k x E h h'⟩
def Tr.nd(R:Tr z j n w pos c X p q t o lr ld)(hi:X.os[i]?=some y)(y':Tyg)(D':Dc)(hd:y'.d=some D')(l:Nat):Tr z j n w (bZ pos (tp j 2 i) l) (aD (aD c (tp j 2 i) (dOb z.D w n D')) (tp j 1 i) (yO z.Y y' l)) (X.set i y') p q t o lr (fun k=>if k=i then l else ld k):=by
 refine⟨(R.kr.tn (f:=2) (i:=i) (k:=l)).tp (k:=0),by rw[aw (aX ⋯)];exact R.pT,by rw[aw (aX ⋯)];exact R.pO,by rw[aw (aX ⋯)];exact R.pR,by rw[ah (aX ⋯),ah (aX ⋯)];exact R.cT,by rw[ah (aX ⋯),ah (aX ⋯)];unfold Tc.set;rw[Zx];exact R.cO,by rw[ah (aX ⋯),ah (aX ⋯)];exact R.cR,fun k x h=>?_,fun k x h=>?_,fun k x E h h'=>?_,fun k x E h h'=>?_⟩;rw[aw (aX ⋯)];by_cases e:k=i;subst e;exact R.py k y hi;exact R.py k x (oNe e h);by_cases e:k=i;subst e;cases oEq hi h;rw[aG,Xd rfl];rw[ah (aX ⋯),ah (aX ⋯),Xf e];exact R.cy k x (oNe e h);by_cases e:k=i;subst e;rw[cI,Xd rfl];rw[aw (aX ⋯),Xf e];exact R.pd k x E (oNe e h) h';rw[ah (aX ⋯)];by_cases e:k=i;subst e;cases oEq hi h;rw[hd]at h';cases h';rw[aG];rw[ah (aX ⋯)];exact R.cd k x E (oNe e h) h'
end
def isF(X:Tc)(i:Nat):Bool:=decide (X.rw.take 1=[(i:Int)])
def slp(X:Tc)(y:Tyg):Bool:=decide (y.sg="asleep")&&!Io X.K (y.att.getD 0)
def zP(X:Tc)(i:Nat):Tc:={ X with rw:=X.rw.filter fun k=>!decide (k=(i:Int)) }
def Ed(K:Kc)(a:Int):Kc:=K.end a "fall"
section
variable{m:Nat}{q:Int->Nat->Nat}
def wa(cK cA:Cl):Fn:=fnU 2 2 (iT (iY cK cA) (jO cK cA) cK)
def D1(M:Mm pos c T)(R:Kr cK cA j pos c K p q)(ha:a∈K.ids)(op:(K.A a).op=true)(st:(K.A a).st=none)(hl:K.ev.length<=9000):Wp (wa cK cA [.ref (p 0),.int a] T) fun r=>r.1=.non/\Nx cK cA j pos c p (Ed K a) r.2:=by
 have t0:=M.get (R.pk 0 ∅) R.c0;have f:=mQ M R ha op st;obtain⟨⟨u,T1⟩,e,rfl,N⟩:=oy (w:="fall") M R ha hl;refine⟨(.non,T1),?_,rfl,N⟩;unfold wa;rw[kW];rwa[iT,t0,f,e]
def sx(cK cA:Cl):Fn:=fnU 2 2 (dM cA cK)
def AL:∀l:List Int,ox (dT l)=some l
 |[]=>rfl
 |a::r=>by show(ox (dT r)).map (a::·)=_;rw[AL r];rfl
def AK(M:Mm pos c T)(R:Kr cK cA j pos c K p q)(W:Kw K m)(ha:a∈K.ids)(h64:(K.A a).lk.length<64):sx cK cA [.ref (p 0),.int a] T=some (.ref T.length,T++[.lst ((bL (K.A a).lk).map U.int)]):=by
 have t0:=M.get (R.pk 0 ∅) R.c0;have t5:=M.get (R.pk 5 ∅) R.c5;have tr:=M.get (R.pa a ha 0 ∅) (R.a0 a ha);have tl:=M.get (R.pa a ha 1 ∅) (R.a1 a ha);have v:=jS (q:=q) ha;have hs:jh [.ref (q a 1)] T=some (.ref T.length,T++[.lst ((bL (K.A a).lk).map U.int)]):=by
  simp only[jh,tl,AL,Z0];rw[Xd h64]
 unfold sx;rw[kW];rwa[dM,t0,t5,v,tr,hs]
end
section
variable{n w:Int}{o:Nat->Nat}{q:Int->Nat->Nat}{m:Nat}
def QJ{S:Sto}{l:Nat}{lt:List Int}(h:S[l]?=some (.lst (lt.map U.int))):fSl (.ref l) none (some 1) S=some (.ref S.length,S++[.lst ((lt.take 1).map U.int)]):=by
 have e:HT.sIx (lt.map U.int).length (lt.map U.int).length (some ((1:Nat):Int))=min 1 lt.length:=by rw[HT.sIx_nat,Q7]
 simp only[fSl,h,IV,HT.sIx_none];rw[show(1:Int)=((1:Nat):Int)from rfl,e,List.drop_zero,Nat.sub_zero,<-List.map_take];congr 6;by_cases hl:lt=[];subst hl;rfl;have:=Yf.mpr hl;rw[Nat.min_eq_left ⋯]
def wb(cT:Cl):Fn:=fnU 2 2 (fA cT)
def A0(M:Mm pos c T)(R:Tr z j n w pos c X p q t o lr ld):∃G,wb z.T [.ref (t 0),.int i] T=some (.bl (isF X i),T++G):=by
 have t0:=M.get R.pT R.cT;have tr:=M.get R.pR R.cR;unfold tO' at t0;have hs:=QJ tr;have he:=Ef false (S:=T++[.lst ((X.rw.take 1).map U.int),.lst [.int (i:Int)]]) (l:=T.length) (l':=T.length+1) (ns:=X.rw.take 1) (ms:=[(i:Int)]) (by rw[ga0];rfl) (by rw[ga];rfl);rw[Xf Z8]at he;refine⟨[.lst ((X.rw.take 1).map U.int),.lst [.int (i:Int)]],?_⟩;obtain⟨us,hus⟩:∃us,us=(X.rw.take 1).map U.int:=⟨_,rfl⟩;rw[<-hus]at hs he ⊢;have ll:(T++[O.lst us]).length=T.length+1:=by rw[ZY];rfl
 have hp:∀(ρ:Rho) (S:Sto),yE (some (cC (.int 1))) ρ S=some (some 1,S):=fun _ _=>rfl;have hn:∀(ρ:Rho) (S:Sto),yE none ρ S=some (none,S):=fun _ _=>rfl;unfold wb isF;rw[kW];rwa[fA,cSl,hp,hn,t0,hs,ll,he]
def BZ(z:Cz):Fn:=fnU 2 2 (ft (sJ z.K z.A) z.Y z.K z.T)
def Ff(M:Mm pos c T)(R:Tr z j n w pos c X p q t o lr ld)(W:Kw X.K m)(hy:X.os[i]?=some y)(ha:y.sg="asleep"->∃a,y.att=some a/\a∈X.K.ids):∃G,BZ z [.ref (t 0),.ref (o i)] T=some (.bl (slp X y),T++G):=by
 have t0:=M.get R.pT R.cT;have ty:=M.get (R.py i y hy) (R.cy i y hy);have k0:=M.get (R.kr.pk 0 ∅) R.kr.c0;unfold tO' at t0;unfold yO at ty;unfold BZ slp;rw[kW];by_cases hs:y.sg="asleep";obtain⟨a,ea,ha⟩:=ha hs;obtain⟨G,e⟩:=BD M R.kr W ha;rw[ea]at ty;refine⟨G,?_⟩;rw[ea];rwa[ft,ty,hs,t0,k0,stU,e,XQ,YQ];refine⟨[],?_⟩;rw[Zj];rwa[ft,ty,hs,YR]
def sh(cT:Cl):Fn:=fnU 2 2 (eR cT)
def xc(M:Mm pos c T)(R:Tr z j n w pos c X p q t o lr ld)(hl:X.rw.length<=9000):Wp (sh z.T [.ref (t 0),.int i] T) fun r=>r.1=.non/\NT z j n w pos c p t o (zP X i) r.2:=by
 have t0:=M.get R.pT R.cT;have tr:=M.get R.pR R.cR;unfold tO' at t0;have hc:Wp (iV (iTp (aT z.T 5 (ak 0))) (gNm 0) (aR (cOp fNe (ak 0) (ak 1))) (ak 0) 1 [1] [uR (t 0),uI (i:Int)] T) fun r=>r.1=.ref T.length/\∃G,r.2=T++(.lst ((X.rw.filter fun k=>!decide (k=(i:Int))).map U.int)::G):=by
  refine zy (cs:=[uI (i:Int)]) (xs:=X.rw) (f:=U.int) (v:=U.int) (p:=fun k=>!decide (k=(i:Int))) (S1:=T) (o9 (by rwa[t0]) tr) (fun G=>aF tr) hl rfl (fun k hk G=>?_) fun G=>⟨rfl,G,rfl⟩;refine .of (r:=(!decide (k=(i:Int)),T++G)) (by rwa[]) ⟨rfl,[],by rw[Zj],fun _=>.of (r:=(.int k,T++G++[])) rfl ⟨rfl,[],(Zj _).symm⟩⟩
 obtain⟨⟨u,T1⟩,e,hu,G,hG⟩:=hc;dsimp only at hu hG;subst hu hG;have M1:=M.new (tp j 0 2) (.lst ((X.rw.filter fun k=>!decide (k=(i:Int))).map U.int)) G;have R1:=R.nr (X.rw.filter fun k=>!decide (k=(i:Int))) T.length;have pT:bZ pos (tp j 0 2) T.length (tp j 0 0)=some (t 0):=by rw[aw (aX ⋯)];exact R.pT
 have s0:=M1.get pT ((ah (aX ⋯)).trans R.cT);unfold tO' at s0;generalize T++(.lst ((X.rw.filter fun k=>!decide (k=(i:Int))).map U.int)::G)=T2 at M1 s0 e;refine⟨(.non,_),?_,rfl,_,_,q,_,ld,M1.set pT (tO' z.T n w (p 0) X.pa (t 1) X.be T.length),R1,((FmT.refl.pn (.tp ⋯)).upd (.tp ⋯)).upd (.tp ⋯)⟩;unfold sh tO';rw[kW];rwa[eR,e,s0]
end
noncomputable def qK(y:Tyg):Tyg:={ y with sg:="out",fa:=y.fa+1,fl:=y.fl+1 }
def i7(X:Tc)(i:Nat)(y:Tyg):Tc:=if X.pa=some (y.fl+1)then { X.set i (qK y)with rw:=X.rw++[(i:Int)] } else X.set i (qK y)
def CP(X:Tc)(i:Nat)(y:Tyg):Tc:=zP (X.set i { y with sg:="done" }) i
def zL(X:Tc)(i:Nat)(y:Tyg)(a:Int):Tc:=zP (({ X with K:=Ed X.K a }:Tc).set i { y with sg:="asleep",fl:=0 }) i
def pV(X:Tc)(i:Nat)(y:Tyg):Tc:={ X.set i { y with att:=some X.be,d:=some (mY y.dl),sg:="in" } with be:=X.be+1,K:=cW X.K X.be }
section
variable{n w:Int}{o:Nat->Nat}{q:Int->Nat->Nat}
def yQ(hy:X.os[i]?=some y):atI ((ZF X.os.length).map fun i=>U.ref (o i)) (i:Int)=uR (o i):=iW (by rw[ZP,XS (Q6.mp hy).1];rfl)
def Mt{a:Int}{pa:Option Int}{S:Sto}:fEq (.int a) (stU pa) S=some (.bl (decide (pa=some a)),S):=by
 cases pa with
 |none=>rfl
 |some b=>
  show some (U.bl (decide (a=b)),S)=_;congr 3;exact decide_eq_decide.mpr ⟨fun h=>by rw[h],fun h=>(Yk h).symm⟩
def uY(z:Cz):Fn:=fnU 3 2 (dg z.T z.Y)
def Bi(M:Mm pos c T)(R:Tr z j n w pos c X p q t o lr ld)(hy:X.os[i]?=some y)(hl:X.rw.length<=9000):Wp (uY z [.ref (t 0),.int i] T) fun r=>r.1=.str "fell"/\NT z j n w pos c p t o (i7 X i y) r.2:=by
 have t0:=M.get R.pT R.cT;have t1:=M.get R.pO R.cO;have ty:=M.get (R.py i y hy) (R.cy i y hy);unfold tO' at t0;unfold yO at ty;have ao:=yQ (o:=o) hy;have lt:=M.lt (R.py i y hy);have g:∀x:O,(T.set (o i) x)[o i]?=some x:=fun x=>by rw[Zt,Xd rfl,Xd lt]
 have M1:=M.set (R.py i y hy) (yO z.Y (qK y) (ld i));have R1:=R.sy hy (qK y) rfl;have s0:=M1.get R1.pT R1.cT;have sr:=M1.get R1.pR R1.cR;unfold tO' at s0;have ey:yO z.Y (qK y) (ld i)=.ins z.Y [some (.tup y.dl),some (stU y.att),some (duU y.d (ld i)),some (.str "out"),uI (y.fa+1),uI (y.fl+1)]:=rfl;have ep:(X.set i (qK y)).pa=X.pa:=rfl;have er:(X.set i (qK y)).rw=X.rw:=rfl;rw[ey]at s0 sr;rw[ep]at s0;rw[er]at sr;have hL:(X.rw.map U.int).length<LIM:=by rw[Q7];unfold LIM;omega
 have F1:FmT j pos c pos (aD c (tp j 1 i) (yO z.Y (qK y) (ld i))):=FmT.refl.upd (.tp ⋯);unfold uY i7;rw[oI];by_cases hp:X.pa=some (y.fl+1);have eq:=fun S=>Mt (a:=y.fl+1) (pa:=X.pa) (S:=S);rw[Xc hp]at eq;rw[Xd hp];have M2:=M1.set R1.pR (.lst ((X.rw++[(i:Int)]).map U.int));have R2:=R1.sr (X.rw++[(i:Int)]);refine⟨(.str "fell",_),?_,rfl,_,_,q,lr,ld,M2,R2,F1.upd (.tp ⋯)⟩;rw[ey,Zo];rwa[dg,t0,t1,ao,ty,g,XY,s0,sr,eq,dZ hL];have eq:=fun S=>Mt (a:=y.fl+1) (pa:=X.pa) (S:=S);rw[Xa hp]at eq;rw[Xf hp];refine⟨(.str "fell",_),?_,rfl,_,_,q,lr,ld,M1,R1,F1⟩;rw[ey];rwa[dg,t0,t1,ao,ty,g,XY,s0,eq]
def uZ(z:Cz):Fn:=fnU 3 2 (gw (sh z.T) z.T z.Y)
def Bt(M:Mm pos c T)(R:Tr z j n w pos c X p q t o lr ld)(hy:X.os[i]?=some y)(hl:X.rw.length<=9000):Wp (uZ z [.ref (t 0),.int i] T) fun r=>r.1=.str "done"/\NT z j n w pos c p t o (CP X i y) r.2:=by
 have t0:=M.get R.pT R.cT;have t1:=M.get R.pO R.cO;have ty:=M.get (R.py i y hy) (R.cy i y hy);unfold tO' at t0;unfold yO at ty;have ao:=yQ (o:=o) hy;have M1:=M.set (R.py i y hy) (yO z.Y { y with sg:="done" } (ld i));have R1:=R.sy hy { y with sg:="done" } rfl;have s0:=M1.get R1.pT R1.cT;unfold tO' at s0;have F1:FmT j pos c pos (aD c (tp j 1 i) (yO z.Y { y with sg:="done" } (ld i))):=FmT.refl.upd (.tp ⋯);obtain⟨⟨u,T2⟩,e,rfl,pos2,c2,q2,lr2,ld2,M2,R2,F2⟩:=xc (i:=i) M1 R1 hl;dsimp only at M2;refine⟨(.str "done",T2),?_,rfl,pos2,c2,q2,lr2,ld2,M2,R2,F1.trans F2⟩;have ey:yO z.Y { y with sg:="done" } (ld i)=.ins z.Y [some (.tup y.dl),some (stU y.att),some (duU y.d (ld i)),some (.str "done"),uI y.fa,uI y.fl]:=rfl;rw[ey]at s0 e;unfold uZ;rw[oI];rwa[gw,t0,t1,ao,ty,s0,e]
def v8(z:Cz):Fn:=fnU 3 2 (eV (wa z.K z.A) (sh z.T) z.T z.K z.Y)
def CU(M:Mm pos c T)(R:Tr z j n w pos c X p q t o lr ld)(hy:X.os[i]?=some y)(ea:y.att=some a)(ha:a∈X.K.ids)(op:(X.K.A a).op=true)(st:(X.K.A a).st=none)(hl:X.rw.length<=9000)(he:X.K.ev.length<=9000):Wp (v8 z [.ref (t 0),.int i] T) fun r=>r.1=.str "slept"/\NT z j n w pos c p t o (zL X i y a) r.2:=by
 have t0:=M.get R.pT R.cT;have t1:=M.get R.pO R.cO;have k0:=M.get (R.kr.pk 0 ∅) R.kr.c0;have ty:=M.get (R.py i y hy) (R.cy i y hy);unfold tO' at t0;unfold yO at ty;rw[ea]at ty;have ao:=yQ (o:=o) hy;obtain⟨⟨u,T1⟩,e1,rfl,pos1,c1,q1,M1,R1,F1⟩:=D1 M R.kr ha op st he;dsimp only at M1;have R2:=R.kp _ R1 F1;have hy2:({ X with K:=Ed X.K a }:Tc).os[i]?=some y:=hy;have ty2:=M1.get (R2.py i y hy2) (R2.cy i y hy2);unfold yO at ty2;rw[ea]at ty2;have lt:=M1.lt (R2.py i y hy2);have g:∀x:O,(T1.set (o i) x)[o i]?=some x:=fun x=>by rw[Zt,Xd rfl,Xd lt]
 have M3:=M1.set (R2.py i y hy2) (yO z.Y { y with sg:="asleep",fl:=0 } (ld i));have R3:=R2.sy hy2 { y with sg:="asleep",fl:=0 } rfl;have s0:=M3.get R3.pT R3.cT;unfold tO' at s0;have F3:FmT j pos c pos1 (aD c1 (tp j 1 i) (yO z.Y { y with sg:="asleep",fl:=0 } (ld i))):=(FmT.fm F1).upd (.tp ⋯);obtain⟨⟨u,T4⟩,e4,rfl,pos4,c4,q4,lr4,ld4,M4,R4,F4⟩:=xc (i:=i) M3 R3 hl;dsimp only at M4;refine⟨(.str "slept",T4),?_,rfl,pos4,c4,q4,lr4,ld4,M4,R4,F3.trans F4⟩;have ey:yO z.Y { y with sg:="asleep",fl:=0 } (ld i)=.ins z.Y [some (.tup y.dl),some (stU (some a)),some (duU y.d (ld i)),some (.str "asleep"),uI y.fa,uI 0]:=by rw[<-ea];rfl
 rw[ey]at s0 e4;unfold v8;rw[oI];simp only[stU]at ty ty2 s0 e4;rwa[eV,t0,t1,k0,ao,ty,e1,ty2,g,XY,s0,e4]
def HX{dl:List U}{e:Nat}(hz:CzO z)(h:∀u∈dl,DU n w e u)(he:e<=50)(n0:1<=n)(n1:n<=6):iD z.D (B3 z.D) [.tup [.int n,.int w],.tup dl] T=some (.ref T.length,T++[dOb z.D w n (mY dl)]):=by
 have P:PtW n w 0 (pt dl 0 .non .non):=.top h he (Xe _) .no;obtain⟨o,d',hy⟩:=P.onw';have eo:=fun S:Sto=>t7 (S:=S) o ⋯;have mul:∀S:Sto,uB (.tup [.non]) (.int n) S=some (.tup (ZQ n.toNat .non),S):=fun S=>by
  have hc:[U.non]≠[]/\1<=n/\[U.non].length*n.toNat<=1000:=⟨nofun,n0,by rw[Xk];omega⟩;simp only[uB];rw[Xd hc];simp
 unfold pt at eo;rw[sR,hz.D];unfold B3;rw[uE];have eq:dOb z.D w n (mY dl)=.ins z.D [uI w,some (.tup [.int 0,.int 0,.int 0,.int 0]),some (.tup (ZQ n.toNat .non)),some (yP (pt dl 0 .non .non))]:=by
  unfold dOb dO mY;rw[Ep];rfl
 rw[eq];unfold pt;rwa[jo,ZQ,mul,eo]
def xT(z:Cz):Fn:=fnU 2 2 (iP (we z.K z.A) (B3 z.D) z.T z.Y z.D z.K)
def IF{e:Nat}(hz:CzO z)(M:Mm pos c T)(R:Tr z j n w pos c X p q t o lr ld)(hy:X.os[i]?=some y)(hd:∀u∈y.dl,DU n w e u)(e50:e<=50)(n0:1<=n)(n1:n<=6)(hb:X.be∉X.K.ids)(hi:X.K.ids.length<=9000)(hl:X.K.ev.length<=9000):Wp (xT z [.ref (t 0),.ref (o i)] T) fun r=>r.1=.str "begun"/\NT z j n w pos c p t o (pV X i y) r.2:=by
 have t0:=M.get R.pT R.cT;have ty:=M.get (R.py i y hy) (R.cy i y hy);unfold tO' at t0;unfold yO at ty;obtain⟨T1,hT1⟩:∃T1,T1=T.set (o i) (yO z.Y { y with att:=some X.be } (ld i)):=⟨_,rfl⟩;have M1:Mm pos (aD c (tp j 1 i) (yO z.Y { y with att:=some X.be } (ld i))) T1:=by rw[hT1];exact M.set (R.py i y hy) _
 have s0:=M1.get R.pT ((ah (aX ⋯)).trans R.cT);have sy:=M1.get (R.py i y hy) aG;unfold tO' at s0;have ey:yO z.Y { y with att:=some X.be } (ld i)=.ins z.Y [some (.tup y.dl),uI X.be,some (duU y.d (ld i)),some (.str y.sg),uI y.fa,uI y.fl]:=rfl;rw[ey]at sy hT1;have en:=HX (T:=T1) hz hd e50 n0 n1;have M2:=M1.new (tp j 2 i) (dOb z.D w n (mY y.dl)) [];obtain⟨T2,hT2⟩:∃T2,T2=T1++[dOb z.D w n (mY y.dl)]:=⟨_,rfl⟩;rw[<-hT2]at M2 en;have py2:bZ pos (tp j 2 i) T1.length (tp j 1 i)=some (o i):=(aw (aX ⋯)).trans (R.py i y hy);have sy2:=aF (r:=[dOb z.D w n (mY y.dl)]) sy;rw[<-hT2]at sy2;have lt2:=M2.lt py2;have g:∀x:O,(T2.set (o i) x)[o i]?=some x:=fun x=>by rw[Zt,Xd rfl,Xd lt2]
 have M3:=M2.set py2 (yO z.Y { y with att:=some X.be,d:=some (mY y.dl),sg:="in" } T1.length);have ec:aD (aD (aD c (tp j 1 i) (yO z.Y { y with att:=some X.be } (ld i))) (tp j 2 i) (dOb z.D w n (mY y.dl))) (tp j 1 i) (yO z.Y { y with att:=some X.be,d:=some (mY y.dl),sg:="in" } T1.length)=aD (aD c (tp j 2 i) (dOb z.D w n (mY y.dl))) (tp j 1 i) (yO z.Y { y with att:=some X.be,d:=some (mY y.dl),sg:="in" } T1.length):=by
  funext s;by_cases h1:s=tp j 1 i;subst h1;rw[aG,aG];rw[ah h1,ah h1];by_cases h2:s=tp j 2 i;subst h2;rw[aG,aG];rw[ah h2,ah h2,ah h1]
 rw[ec]at M3;have R3:=R.nd hy { y with att:=some X.be,d:=some (mY y.dl),sg:="in" } (mY y.dl) rfl T1.length;have s3:=M3.get R3.pT R3.cT;unfold tO' at s3;have M4:=M3.set R3.pT (tO' z.T n w (p 0) X.pa (t 1) (X.be+1) lr);have R4:=R3.sb (X.be+1);have s4:=M4.get R4.pT R4.cT;have k4:=M4.get (R4.kr.pk 0 ∅) R4.kr.c0;have y4:=M4.get (R4.py i { y with att:=some X.be,d:=some (mY y.dl),sg:="in" } (by show(X.os.set i _)[i]?=_;rw[Ze (Q6.mp hy).1])) (R4.cy i { y with att:=some X.be,d:=some (mY y.dl),sg:="in" } (by show(X.os.set i _)[i]?=_;rw[Ze (Q6.mp hy).1]));unfold tO' at s4 k4 y4 M4;obtain⟨⟨u,T5⟩,e5,rfl,pos5,c5,q5,M5,R5,F5⟩:=EH hz.A M4 R4.kr hb hi hl;dsimp only at M5;refine⟨(.str "begun",T5),?_,rfl,pos5,c5,q5,lr,_,M5,R4.kp _ R5 F5,FmT.trans ((((FmT.refl.pn (.tp ⋯)).upd (.tp ⋯)).upd (.tp ⋯)).upd (.tp ⋯)) (.fm F5)⟩;have ey3:yO z.Y { y with att:=some X.be,d:=some (mY y.dl),sg:="in" } T1.length=.ins z.Y [some (.tup y.dl),uI X.be,uR T1.length,some (.str "in"),uI y.fa,uI y.fl]:=rfl;have ey4:yO z.Y { y with att:=some X.be,d:=some (mY y.dl),sg:="in" } (if i=i then T1.length else ld i)=.ins z.Y [some (.tup y.dl),uI X.be,uR T1.length,some (.str "in"),uI y.fa,uI y.fl]:=by rw[Xd rfl];rfl
 rw[ey3]at s3 s4 k4 y4 e5;rw[ey4]at y4;have eX:(X.set i { y with att:=some X.be,d:=some (mY y.dl),sg:="in" }).pa=X.pa:=rfl;have eB:(X.set i { y with att:=some X.be,d:=some (mY y.dl),sg:="in" }).be=X.be:=rfl;have eK:(X.set i { y with att:=some X.be,d:=some (mY y.dl),sg:="in" }).K=X.K:=rfl;rw[eX,eB]at s3;dsimp only at s4 k4;rw[eX]at s4;unfold xT;rw[kW];rwa[iP,t0,ty,hT1.symm,s0,sy,en,sy2,g,XY,s3,s4,k4,y4,e5]
end
def mI{t:CT}{v:CE}{c2:CS}{ρ:Rho}{S S1:Sto}{b:Bool}{Q:U×Sto->Prop}(ht:t ρ S=some (b,S1))(h1:b=true->Wp (v ρ S1) Q)(h2:b=false->Wp ((c2 ρ S1).bind kFn) Q):Wp ((aS (dY t (b7 v) bW) c2 ρ S).bind kFn) Q:=by
 rw[xW,x3,ht,Z0];cases b with
 |true=>
  obtain⟨⟨u,S2⟩,e,hq⟩:=h1 rfl;rw[wx,Gg,e];exact⟨_,rfl,hq⟩
 |false=>
  rw[wt];exact h2 rfl
def Ji{v:CE}{ρ:Rho}{S:Sto}{Q:U×Sto->Prop}(h:Wp (v ρ S) Q):Wp ((b7 v ρ S).bind kFn) Q:=by
 obtain⟨⟨u,S2⟩,e,hq⟩:=h;rw[Gg,e];exact⟨_,rfl,hq⟩
def qR(X:Tc)(i:Nat)(y:Tyg)(D:Dc)(a b:Int):Str×Tc:=
 if (isF X i&&brd X.K a [b])=true then("held",X)else
 match (dJ X.K a b).1 with
 |.tup [.str _,.int v]=>("went",({ X with K:=(dJ X.K a b).2 }:Tc).set i { y with d:=some (rS D v) })
 |_=>("fell",i7 { X with K:=(dJ X.K a b).2 } i y)
def AW(K:Kc)(a b:Int):(dJ K a b).1=.tup [.str "falls"]\/∃v,(dJ K a b).1=.tup [.str "number",.int v]:=by
 unfold dJ;split;exact .inr ⟨_,rfl⟩;split;exact .inl rfl;exact .inr ⟨_,rfl⟩
def oz(K:Kc)(a b:Int):(dJ K a b).2.ids=K.ids:=by
 unfold dJ;split;rfl
 ·split<;>rfl
section
variable{n w:Int}{o:Nat->Nat}{q:Int->Nat->Nat}{u:U}
def fhn:decide (("number":Str)="falls")=false:=∅
def sH(z:Cz):Fn:=fnU 5 2 (eF (ju z.D) (wb z.T) (cN z.K) (B0 z.K z.A) (uY z) (xS z.D) z.T z.D z.Y z.K)
def Bf(M:Mm pos c T)(R:Tr z j n w pos c X p q t o lr ld)(I:Ki X.K n.toNat)(hy:X.os[i]?=some y)(ea:y.att=some a)(ed:y.d=some D)(hD:DgW n w D)(ha:a∈X.K.ids)(op:(X.K.A a).op=true)(st:(X.K.A a).st=none)(hd:iK D=some u)(hk:Iy u=true)(n0:0<=n)(hl:X.rw.length<=9000)(he:X.K.ev.length<=9000) :
  Wp (sH z [.ref (t 0),.int i] T) fun r=>r.1=.str (qR X i y D a (lkB u)).1/\NT z j n w pos c p t o (qR X i y D a (lkB u)).2 r.2:=by
 obtain⟨g,b,rfl,g0,g1,b0,b1⟩:=hD.ask hd hk;have t0:=M.get R.pT R.cT;have t1:=M.get R.pO R.cO;have ty:=M.get (R.py i y hy) (R.cy i y hy);have td:=M.get (R.pd i y D hy ed) (R.cd i y D hy ed);have tl:=M.get (R.kr.pa a ha 1 ∅) (R.kr.a1 a ha);have k0:=M.get (R.kr.pk 0 ∅) R.kr.c0;have e1:=xB hD td tl hd;have td':=td;unfold tO' at t0;unfold yO at ty;rw[ea,ed]at ty;unfold dOb dO at td';have ao:=yQ (o:=o) hy;have hb:lkB (k7.u (.look g b))=b:=rfl;rw[hb];simp only[k7.u]at e1;simp only[stU,duU]at ty;unfold sH;rw[Mz];unfold eF;rw[eL (ρ':=[uR (t 0),uI i,uR (o i),none,none]) (S':=T) (by rwa[t0,t1,ao])];rw[eL (ρ':=[uR (t 0),uI i,uR (o i),uI b,none]) (S':=T) (by rwa[ty,td',e1])];obtain⟨G1,f1⟩:=A0 (i:=i) M R;have M1:=M.app G1;have ty1:=aF (r:=G1) ty;have t01:=aF (r:=G1) t0;have k01:=aF (r:=G1) k0;obtain⟨G2,f2⟩:=vX (a:=a) (lb:=(T++G1).length) (bs:=[b]) (M1.app [.lst [.int b]]) R.kr (by rw[ga0];rfl) nofun;have cond:∃G,(yH (aR (aL z.T (wb z.T) (ak 0) (ag (ak 1) ay))) (aR (aL z.K (cN z.K) (aT z.T 1 (ak 0)) (ag (aT z.Y 1 (ak 2)) (ag (hX (ag (ak 3) ay)) ay))))) [uR (t 0),uI i,uR (o i),uI b,none] T=some (isF X i&&brd X.K a [b],T++G):=by
  cases hf:isF X i with
  |false=>
   rw[hf]at f1;exact⟨G1,by rwa[t0,f1,YR]⟩
  |true=>
   rw[hf]at f1;obtain⟨S1,hS1⟩:∃S1,S1=T++G1:=⟨_,rfl⟩;rw[<-hS1]at f1 f2 ty1 t01 k01;refine⟨G1++([.lst [.int b]]++G2),?_⟩;rw[show T++(G1++([O.lst [.int b]]++G2))=S1++[O.lst [.int b]]++G2 by rw[hS1];simp];have k02:=aF (r:=[O.lst [U.int b]]) k01;simp only[t0,f1,ty1,t01,k01,f2,YQ,JW,E1,EZ,wm,qL,yW,va,u9,u6,sO,lR,lS,jR,jQ,sP,Gp,wz,wy,JH,EV,Z0,X8,X9,YN]
 obtain⟨G,f3⟩:=cond;have M2:=M.app G;generalize T++G=T2 at f3 M2;refine mI f3 (fun hh=>?_) (fun hh=>?_);unfold qR;rw[Xd hh];exact .of rfl ⟨rfl,pos,c,q,lr,ld,M2,R,FmT.refl⟩;have s0:=M2.get R.pT R.cT;have sy:=M2.get (R.py i y hy) (R.cy i y hy);have sk0:=M2.get (R.kr.pk 0 ∅) R.kr.c0;unfold tO' at s0;unfold yO at sy;rw[ea,ed]at sy;simp only[stU,duU]at sy;have hh':¬(isF X i&&brd X.K a [b])=true:=by rw[hh];exact Z8
 obtain⟨⟨v1,T3⟩,e3,hv1,pos3,c3,q3,M3,R3,F3⟩:=HZ M2 R.kr I.w ha op st b0 ⋯ he;dsimp only at hv1 M3;have R4:=R.kp _ R3 F3;have s3:=M3.get R4.pT R4.cT;unfold tO' at s3;have sy3:=M3.get (R4.py i y hy) (R4.cy i y hy);unfold yO at sy3;rw[ea,ed]at sy3;simp only[stU,duU]at sy3;rw[eL (ρ':=[uR (t 0),uI i,uR (o i),uI b,some v1]) (S':=T3) (by rwa[s0,sk0,sy,e3])];unfold qR;rw[Xf hh'];rcases AW X.K a b with hc|⟨v,hc⟩;rw[hc]at hv1 ⊢;subst hv1;refine mI (b:=true) (S1:=T3) (by rwa[]) (fun _=>?_) (fun z=>nomatch z);obtain⟨⟨v2,T4⟩,e4,rfl,pos4,c4,q4,lr4,ld4,M4,R5,F4⟩:=Bi (i:=i) M3 R4 hy hl;dsimp only at M4;exact .of (r:=(.str "fell",T4)) (by rwa[s3,e4]) ⟨rfl,pos4,c4,q4,lr4,ld4,M4,R5,(FmT.fm F3).trans F4⟩;rw[hc]at hv1 ⊢;subst hv1;refine mI (b:=false) (S1:=T3) (by rwa[fhn]) (fun z=>nomatch z) (fun _=>?_);have sd3:=M3.get (R4.pd i y D hy ed) (R4.cd i y D hy ed);have ha3:a∈(dJ X.K a b).2.ids:=by
  rw[oz];exact ha
 have sl3:=M3.get (R4.kr.pa a ha3 1 ∅) (R4.kr.a1 a ha3);obtain⟨e5,hD5⟩:=xq (v:=v) hD sd3 sl3 hd hk;have M5:=M3.set (R4.pd i y D hy ed) (dOb z.D w n (rS D v));have R5:=R4.sd (i:=i) hy ed (rS D v);unfold dOb dO at sd3;refine .of (r:=(.str "went",_)) ?_ ⟨rfl,_,_,q3,lr,ld,M5,R5,(FmT.fm F3).upd (.tp ⋯)⟩;rwa[sy3,sd3,e5]
end
def Kk(X:Tc)(i:Nat)(a:Int)(bs:List Int):Bool:=if isF X i=true then brd X.K a (bL (X.K.A a).lk++bs)else match X.rw with
 |[]=>false
 |k::_=>inU (.str ((X.os[k.toNat]?).map Tyg.sg |>.getD "")) [.str "in",.str "taken"]
def dq(K:Kc)(a:Int)(ps:List (Int×Int)):Kc:=ps.foldl (fun K e=>vI K a e.1 e.2) K
def qQ(n:Int)(X:Tc)(i:Nat)(y:Tyg)(D:Dc)(a:Int):Str×Tc:=
 if (!decide (ppL n ⟨D.hs,D.ps,[]⟩=[])&&Kk X i a ((ppL n ⟨D.hs,D.ps,[]⟩).map (·.1)))=true then("held",X)else
 if (cE (dq X.K a (ppL n ⟨D.hs,D.ps,[]⟩)) a).1="falls" then("fell",i7 { X with K:=(cE (dq X.K a (ppL n ⟨D.hs,D.ps,[]⟩)) a).2 } i y)else
 if (cE (dq X.K a (ppL n ⟨D.hs,D.ps,[]⟩)) a).1="done" then("done",CP { X with K:=(cE (dq X.K a (ppL n ⟨D.hs,D.ps,[]⟩)) a).2 } i y)else
 ("took",({ X with K:=(cE (dq X.K a (ppL n ⟨D.hs,D.ps,[]⟩)) a).2 }:Tc).set i { y with sg:="taken" })
def qP(X:Tc)(i:Nat)(y:Tyg)(a:Int):Str×Tc:=
 if (bO X.K a).1="done" then("done",CP { X with K:=(bO X.K a).2 } i y)else("wrote",{ X with K:=(bO X.K a).2 })
def rk:(vI K a b v).A a={ K.A a with pu:=gB (K.A a).pu b v }:=Xd rfl
def Ip{x:Int}(h:x≠a):(vI K a b v).A x=K.A x:=Xf h
def rj(a:Int):∀(ps:List (Int×Int)) (K:Kc),Ki K n->a∈K.ids->(K.A a).st=none->(∀e∈ps,0<=e.1/\e.1<n)->Ki (dq K a ps) n/\(dq K a ps).ids=K.ids/\((dq K a ps).A a).op=(K.A a).op/\((dq K a ps).A a).st=none/\(∀x,x≠a->(dq K a ps).A x=K.A x)/\(dq K a ps).ev.length=K.ev.length+ps.length/\(dq K a ps).ho=K.ho/\(dq K a ps).tk=K.tk
 |[],K,I,ha,st,_=>⟨I,rfl,rfl,st,fun _ _=>rfl,rfl,rfl,rfl⟩
 |e::ps,K,I,ha,st,hb=>by
  have hb0:=hb e ZG;have st':((vI K a e.1 e.2).A a).st=none:=by rw[rk];exact st
  obtain⟨h1,h2,h3,h4,h5,h6,h7,h8⟩:=rj a ps (vI K a e.1 e.2) (I.put ha st hb0.1 hb0.2) ha st' fun x hx=>hb x (ZJ _ hx);refine⟨h1,h2,?_,h4,fun x hx=>(h5 x hx).trans (Ip hx),?_,h7,h8⟩;show((dq (vI K a e.1 e.2) a ps).A a).op=_;rw[h3,rk];show(dq (vI K a e.1 e.2) a ps).ev.length=_;rw[h6];show(K.ev++[_]).length+_=_;simp;omega
section
variable{n w:Int}{o:Nat->Nat}{q:Int->Nat->Nat}
def oT(z:Cz):Fn:=fnU 4 3 (cu (wb z.T) (cN z.K) (sx z.K z.A) z.T z.Y z.K)
def DQ{lb:Nat}{bs:List Int}(M:Mm pos c T)(R:Tr z j n w pos c X p q t o lr ld)(I:Ki X.K n.toNat)(n1:n<=6)(hy:X.os[i]?=some y)(ea:y.att=some a)(ha:a∈X.K.ids)(hb:T[lb]?=some (.lst (bs.map U.int)))(hl:bs.length<=100)(hr:∀k∈X.rw,0<=k/\k<X.os.length) :
  ∃G,oT z [.ref (t 0),.int i,.ref lb] T=some (.bl (Kk X i a bs),T++G):=by
 have t0:=M.get R.pT R.cT;have t1:=M.get R.pO R.cO;have tr:=M.get R.pR R.cR;have ty:=M.get (R.py i y hy) (R.cy i y hy);have k0:=M.get (R.kr.pk 0 ∅) R.kr.c0;unfold tO' at t0;unfold yO at ty;rw[ea]at ty;simp only[stU]at ty;have ao:=yQ (o:=o) hy;obtain⟨G1,f1⟩:=A0 (i:=i) M R;have M1:=M.app G1;have s0:=aF (r:=G1) t0;have s1:=aF (r:=G1) t1;have sr:=aF (r:=G1) tr;have sy:=aF (r:=G1) ty;have sk:=aF (r:=G1) k0;have sb:=aF (r:=G1) hb;obtain⟨S1,hS1⟩:∃S1,S1=T++G1:=⟨_,rfl⟩;rw[<-hS1]at f1 M1 s0 s1 sr sy sk sb;unfold oT Kk;rw[MA];cases hf:isF X i with
 |true=>
  rw[hf]at f1;have lk:=rM (I.lkn a ha) (I.lkb a ha);have e2:=AK M1 R.kr I.w ha ⋯;have ls:=(ib (X.K.A a).lk).length_eq;have s02:=aF (r:=[O.lst ((bL (X.K.A a).lk).map U.int)]) s0;have sk2:=aF (r:=[O.lst ((bL (X.K.A a).lk).map U.int)]) sk;have ec:i8 (.ref S1.length) (.ref lb) (S1++[.lst ((bL (X.K.A a).lk).map U.int)])=some (.ref (S1.length+1),S1++[.lst ((bL (X.K.A a).lk).map U.int),.lst ((bL (X.K.A a).lk++bs).map U.int)]):=by
   have g1:(S1++[O.lst ((bL (X.K.A a).lk).map U.int)])[S1.length]?=some (.lst ((bL (X.K.A a).lk).map U.int)):=by rw[ga0];rfl
   have g2:=aF (r:=[O.lst ((bL (X.K.A a).lk).map U.int)]) sb;simp only[i8,rN,g1,g2];rw[Xd (by simp;unfold LIM;omega)];simp
  obtain⟨G2,f2⟩:=vX (a:=a) (lb:=S1.length+1) (bs:=bL (X.K.A a).lk++bs) (M1.app [.lst ((bL (X.K.A a).lk).map U.int),.lst ((bL (X.K.A a).lk++bs).map U.int)]) R.kr (by rw[ga];rfl) (by rw[ZY];omega);refine⟨G1++([.lst ((bL (X.K.A a).lk).map U.int),.lst ((bL (X.K.A a).lk++bs).map U.int)]++G2),?_⟩;rw[Xd rfl,<-ZO,<-hS1,<-ZO];obtain⟨o1,ho1⟩:∃o1,o1=O.lst ((bL (X.K.A a).lk).map U.int):=⟨_,rfl⟩;obtain⟨o2,ho2⟩:∃o2,o2=O.lst ((bL (X.K.A a).lk++bs).map U.int):=⟨_,rfl⟩;rw[<-ho1]at e2 s02 sk2 ec f2;rw[<-ho2]at ec f2;rw[<-ho1,<-ho2];unfold cu;rwa[t0,f1,s0,s1,ao,sy,sk,e2,ec,f2]
 |false=>
  rw[hf]at f1;refine⟨G1,?_⟩;rw[Xf Z8,<-hS1];unfold cu;cases hw:X.rw with
  |nil=>
   rw[hw]at sr;have d0:decide ((0:Int)<((0:Nat):Int))=false:=by decide
   rwa[t0,f1,s0,sr,XU,d0]
  |cons k r=>
   rw[hw]at sr;obtain⟨k0',k1⟩:=hr k (by rw[hw];exact ZG);have kl:k.toNat<X.os.length:=by omega
   have hyk:X.os[k.toNat]?=some X.os[k.toNat]:=Z7 kl;have aok:=yQ (o:=o) hyk;rw[show((k.toNat:Nat):Int)=k by omega]at aok;have syk:=M1.get (R.py _ _ hyk) (R.cy _ _ hyk);unfold yO at syk;obtain⟨us,hus⟩:∃us,us=r.map U.int:=⟨_,rfl⟩;rw[ZK,<-hus]at sr;have d0:decide ((0:Int)<(((U.int k::us).length:Nat):Int))=true:=Xc (by rw[ZZ];omega);have ln:jC [.ref lr] S1=some (.int (((U.int k::us).length:Nat):Int),S1):=by simp only[jC,sr]
   have hin:∀s:Str,fIn false (.str s) (.tup [.str "in",.str "taken"]) S1=some (.bl (inU (.str s) [.str "in",.str "taken"]),S1):=fun s=>rfl;have ek:((X.os[k.toNat]?).map Tyg.sg).getD ""=(X.os[k.toNat]).sg:=by rw[hyk];rfl
   dsimp only;rw[ek];have e1:(cOp fGt (cCB jC (ag (aT z.T 5 (ak 0)) ay)) (cC (.int 0))) [uR (t 0),uI (i:Int),uR lb,none] S1=some (.bl true,S1):=by
    rw[Jh,Gr,lS,Gp,sO];simp only[X8,lR,Z0,wz,s0,wy,X9,YN,jR,sP,jQ,x4,ln,xY,x_c,xX,N8,d0]
   rwa[t0,f1,e1,s0,s1,sr,aok,syk,hin]
def sF(z:Cz):Fn:=fnU 2 2 (eE (si z.K z.A) (uZ z) z.K z.T z.Y)
def Bc(M:Mm pos c T)(R:Tr z j n w pos c X p q t o lr ld)(I:Ki X.K n.toNat)(hy:X.os[i]?=some y)(ea:y.att=some a)(ha:a∈X.K.ids)(op:(X.K.A a).op=true)(st:(X.K.A a).st.isSome=true)(hl:X.rw.length<=9000)(he:X.K.ev.length<=9000) :
  Wp (sF z [.ref (t 0),.int i] T) fun r=>r.1=.str (qP X i y a).1/\NT z j n w pos c p t o (qP X i y a).2 r.2:=by
 have t0:=M.get R.pT R.cT;have t1:=M.get R.pO R.cO;have ty:=M.get (R.py i y hy) (R.cy i y hy);have k0:=M.get (R.kr.pk 0 ∅) R.kr.c0;unfold tO' at t0;unfold yO at ty;rw[ea]at ty;simp only[stU]at ty;have ao:=yQ (o:=o) hy;have tk:=I.tak a ha op st;obtain⟨tt,ht⟩:=Zl.mp st;cases hu:(X.K.A a).un with
 |nil=>exact absurd hu tk.un
 |cons b r=>
  have hb:b∈(X.K.A a).pu.map (·.1):=tk.sub b (by rw[hu];exact ZG);obtain⟨b0,b1⟩:=I.pub a ha b hb;have fw:=tk.few;rw[hu,ZZ]at fw;obtain⟨⟨v1,T1⟩,e1,rfl,pos1,c1,q1,M1,R1,F1⟩:=Cm M R.kr I.w ha op ht hu b0 b1 (CK hb) ⋯ (fun _ d hd=>by rw[tk.hld d hd];rfl) he;dsimp only at M1 e1;have R2:=R.kp _ R1 F1;have s0:=M1.get R2.pT R2.cT;unfold tO' at s0;unfold sF qP;rw[kW];unfold eE;by_cases hd:(bO X.K a).1="done";obtain⟨⟨v2,T2⟩,e2,rfl,pos2,c2,q2,lr2,ld2,M2,R3,F2⟩:=Bt (i:=i) M1 R2 hy hl;dsimp only at M2;rw[hd]at e1;rw[Xd hd];refine mI (b:=true) (S1:=T1) (by rwa[t0,t1,ao,ty,k0,e1]) (fun _=>.of (r:=(.str "done",T2)) (by rwa[s0,e2]) ⟨rfl,pos2,c2,q2,lr2,ld2,M2,R3,(FmT.fm F1).trans F2⟩) fun z=>nomatch z;rw[Xf hd];have dd:decide ((bO X.K a).1="done")=false:=Xa hd;refine mI (b:=false) (S1:=T1) (by rwa[t0,t1,ao,ty,k0,e1,dd]) (fun z=>nomatch z) fun _=>?_;exact Ji (.of rfl ⟨rfl,pos1,c1,q1,lr,ld,M1,R2,.fm F1⟩)
end
section
variable{n w:Int}{o:Nat->Nat}
def tkL(z:Cz):CS:=gy (Nt z.D) (oT z) (uX z.K z.A) (sj z.K z.A) (uY z) (uZ z) z.T z.D z.Y z.K
def rhT(t o:Nat->Nat)(i lp:Nat)(r4 r5 r6:Option U):Rho:=[uR (t 0),uI (i:Int),uR (o i),uR lp,r4,r5,r6]
def qq{lp:Nat}{us:List U}{r6:Option U}(ea:y.att=some a):∀(ps:List (Int×Int)) (pos:Pl->Option Nat) (c:Pl->O) (T:Sto) (q:Int->Nat->Nat) (X:Tc) (r4 r5:Option U),Mm pos c T->Tr z j n w pos c X p q t o lr ld->pos (tp j 3 0)=some lp->c (tp j 3 0)=.lst us->X.os[i]?=some y->Ki X.K n.toNat->a∈X.K.ids->(X.K.A a).op=true->(X.K.A a).st=none->(∀e∈ps,0<=e.1/\e.1<n)->X.K.ev.length+ps.length<=9000->
  ∃r4' r5' T' pos' c' q',fu (fun S=>S[lp]?=some (.lst us)) (gTp [4,5]) (tkL z) (ps.map pU) (rhT t o i lp r4 r5 r6) T=some (.nx,rhT t o i lp r4' r5' r6,T')/\Mm pos' c' T'/\Tr z j n w pos' c' { X with K:=dq X.K a ps } p q' t o lr ld/\FmT j pos c pos' c'
 |[],pos,c,T,q,X,r4,r5,M,R,hp,hc,hy,I,ha,op,st,hb,hl=>⟨r4,r5,T,pos,c,q,iH (M.get hp hc),M,R,FmT.refl⟩
 |e::ps,pos,c,T,q,X,r4,r5,M,R,hp,hc,hy,I,ha,op,st,hb,hl=>by
  rw[ZZ]at hl;have t0:=M.get R.pT R.cT;have ty:=M.get (R.py i y hy) (R.cy i y hy);have k0:=M.get (R.kr.pk 0 ∅) R.kr.c0;unfold tO' at t0;unfold yO at ty;rw[ea]at ty;simp only[stU]at ty;obtain⟨b0,b1⟩:=hb e ZG;obtain⟨⟨v1,T1⟩,e1,rfl,pos1,c1,q1,M1,R1,F1⟩:=Ie (b:=e.1) (v:=e.2) M R.kr I.w ha op st ⋯;dsimp only at M1 e1;have R2:=R.kp _ R1 F1;have h3:=F1 (tp j 3 0) G0;obtain⟨r4',r5',T',pos',c',q',e2,M2,R3,F2⟩:=qq ea ps pos1 c1 T1 q1 { X with K:=vI X.K a e.1 e.2 } (uI e.1) (uI e.2) M1 R2 (h3.1.trans hp) (h3.2.trans hc) hy (I.put ha st b0 ⋯) ha (by show((vI X.K a e.1 e.2).A a).op=_;rw[rk];exact op) (by show((vI X.K a e.1 e.2).A a).st=_;rw[rk];exact st) (fun x hx=>hb x (ZJ _ hx)) (by show(X.K.ev++[_]).length+_<=_;simp;omega);refine⟨r4',r5',T',pos',c',q',(jg (ρ0:=rhT t o i lp (uI e.1) (uI e.2) r6) (S0:=T) (M.get hp hc) rfl ?_).trans e2,M2,R3,(FmT.fm F1).trans F2⟩;show(bR (aL z.K (uX z.K z.A) (aT z.T 1 (ak 0)) (ag (aT z.Y 1 (ak 2)) (ag (ak 4) (ag (ak 5) ay))))) (rhT t o i lp (uI e.1) (uI e.2) r6) T=_;rwa[rhT,t0,k0,ty,e1]
end
section
variable{n w:Int}{o:Nat->Nat}{q:Int->Nat->Nat}
def sG(z:Cz):Fn:=fnU 7 2 (eU (Nt z.D) (oT z) (uX z.K z.A) (sj z.K z.A) (uY z) (uZ z) z.T z.D z.Y z.K)
def Be(M:Mm pos c T)(R:Tr z j n w pos c X p q t o lr ld)(I:Ki X.K n.toNat)(hy:X.os[i]?=some y)(ea:y.att=some a)(ed:y.d=some D)(hD:DgW n w D)(ha:a∈X.K.ids)(op:(X.K.A a).op=true)(st:(X.K.A a).st=none)(n0:0<=n)(n1:n<=6)(hl:X.rw.length<=9000)(he:X.K.ev.length<=8000)(hh0:X.K.ho.length<=80000)(hr:∀k∈X.rw,0<=k/\k<X.os.length) :
  Wp (sG z [.ref (t 0),.int i] T) fun r=>r.1=.str (qQ n X i y D a).1/\NT z j n w pos c p t o (qQ n X i y D a).2 r.2:=by
 have t0:=M.get R.pT R.cT;have t1:=M.get R.pO R.cO;have ty:=M.get (R.py i y hy) (R.cy i y hy);have td:=M.get (R.pd i y D hy ed) (R.cd i y D hy ed);have tl:=M.get (R.kr.pa a ha 1 ∅) (R.kr.a1 a ha);have td':=td;unfold tO' at t0;unfold yO at ty;rw[ea,ed]at ty;simp only[stU,duU]at ty;unfold dOb dO at td';have ao:=yQ (o:=o) hy;have e1:=OO (rV td tl) n1;obtain⟨ps,hps⟩:∃ps,ps=ppL n ⟨D.hs,D.ps,[]⟩:=⟨_,rfl⟩;have hps':ppL n ⟨D.hs,D.ps,(X.K.A a).lk⟩=ps:=hps.symm;rw[hps']at e1;have hpb:∀e∈ps,0<=e.1/\e.1<n:=fun e h=>by rw[hps]at h;have:=vw h;exact⟨this.1,this.2.1⟩
 have hpl:ps.length<=6:=by rw[hps];exact Ag hD.hw.wf n0 n1
 have M1:=M.new (tp j 3 0) (.lst (ps.map pU)) [];have R1:Tr z j n w (bZ pos (tp j 3 0) T.length) (aD c (tp j 3 0) (.lst (ps.map pU))) X p q t o lr ld:=R.tmp;have F1:FmT j pos c (bZ pos (tp j 3 0) T.length) (aD c (tp j 3 0) (.lst (ps.map pU))):=(FmT.refl.pn (.tp ⋯)).upd (.tp ⋯);generalize T++[.lst (ps.map pU)]=T1 at M1 e1;have q1:bZ pos (tp j 3 0) T.length (tp j 3 0)=some T.length:=cI;have d1:aD c (tp j 3 0) (.lst (ps.map pU)) (tp j 3 0)=.lst (ps.map pU):=aG;generalize bZ pos (tp j 3 0) T.length=pos1 at M1 R1 F1 q1;generalize aD c (tp j 3 0) (.lst (ps.map pU))=c1 at M1 R1 F1 d1;generalize T.length=lp at e1 q1;unfold sG qQ;rw[<-hps];rw[Pk];unfold eU;rw[eL (ρ':=[uR (t 0),uI i,uR (o i),none,none,none,none]) (S':=T) (by rwa[t0,t1,ao])];rw[eL (ρ':=[uR (t 0),uI i,uR (o i),uR lp,none,none,none]) (S':=T1) (by rwa[ty,td',e1])];have s3:=M1.get q1 d1;have s0:=M1.get R1.pT R1.cT;unfold tO' at s0;have cond:∃G,(yH (aR (cOp fGt (cCB jC (ag (ak 3) ay)) (cC (.int 0)))) (aR (aL z.T (oT z) (ak 0) (ag (ak 1) (ag (bX (iTp (ak 3)) (gNm 0) (cOp fIx (ak 0) (cC (.int 0))) 1 []) ay))))) [uR (t 0),uI i,uR (o i),uR lp,none,none,none] T1=some (!decide (ps=[])&&Kk X i a (ps.map (·.1)),T1++G):=by
  have ln:(cOp fGt (cCB jC (ag (ak 3) ay)) (cC (.int 0))) [uR (t 0),uI i,uR (o i),uR lp,none,none,none] T1=some (.bl (!decide (ps=[])),T1):=by
   have e2:jC [.ref lp] T1=some (.int ((ps.length:Nat):Int),T1):=by simp only[jC,s3,Q7]
   have e3:decide ((0:Int)<((ps.length:Nat):Int))=!decide (ps=[]):=by
    cases ps with
    |nil=>rfl
    |cons x r=>rw[Xc nofun];rfl
   rw[Jh,Gr,lS,sO];simp only[X8,X9,lR,Z0,jR,sP,jQ,x4,e2,xY,x_c,xX,N8,e3]
  cases hp:decide (ps=[])with
  |true=>
   rw[hp]at ln;exact⟨[],by rw[Zj];rwa[ln,Bool.not_true,YR]⟩
  |false=>
   rw[hp]at ln;have hc:Wp (bX (iTp (ak 3)) (gNm 0) (cOp fIx (ak 0) (cC (.int 0))) 1 [] [uR (t 0),uI (i:Int),uR (o i),uR lp,none,none,none] T1) fun r=>r.1=.ref T1.length/\∃G,r.2=T1++(.lst (ps.map fun e=>U.int e.1)::G):=
    CJ (cs:=[]) (xs:=ps) (f:=pU) (v:=fun e=>U.int e.1) (S1:=T1) (o9 (by rwa[]) s3) (fun G=>aF s3) ⋯ rfl (fun e he G=>.of (r:=(.int e.1,T1++G)) (by rwa[pU]) ⟨rfl,[],(Zj _).symm⟩) fun G=>⟨rfl,G,rfl⟩
   obtain⟨⟨v2,S2⟩,e2,hv,G2,hS⟩:=hc;dsimp only at hv hS;subst hv hS;obtain⟨G3,e3⟩:=DQ (i:=i) (lb:=T1.length) (bs:=ps.map (·.1)) (M1.app (.lst (ps.map fun e=>U.int e.1)::G2)) R1 I n1 hy ea ha (by rw[ga0,Zc];rfl) (by rw[Q7];omega) hr;obtain⟨S2,hS2⟩:∃S2,S2=T1++(.lst (ps.map fun e=>U.int e.1)::G2):=⟨_,rfl⟩;rw[<-hS2]at e2 e3;refine⟨(.lst (ps.map fun e=>U.int e.1)::G2)++G3,?_⟩;rw[<-ZO,<-hS2];rwa[ln,s0,e2,e3,Bool.not_false,YQ]
 obtain⟨G,f3⟩:=cond;have M2:=M1.app G;generalize T1++G=T2 at f3 M2;refine mI f3 (fun hh=>?_) (fun hh=>?_);rw[Xd hh];exact .of rfl ⟨rfl,pos1,c1,q,lr,ld,M2,R1,F1⟩;have hh':¬(!decide (ps=[])&&Kk X i a (ps.map (·.1)))=true:=by rw[hh];exact Z8
 rw[Xf hh'];obtain⟨r4,r5,T3,pos3,c3,q3,e3,M3,R3,F3⟩:=qq (r6:=none) ea ps pos1 c1 T2 q X none none M2 R1 q1 d1 hy I ha op st hpb ⋯;have ef:oP (iTp (ak 3)) (gTp [4,5]) (tkL z) (rhT t o i lp none none none) T2=some (.nx,rhT t o i lp r4 r5 none,T3):=by
  unfold oP;rw[o9 (l:=lp) (S1:=T2) (us:=ps.map pU) (by rwa[rhT]) (M2.get q1 d1)];exact e3
 unfold tkL rhT at ef;rw[eL ef];obtain⟨I3,i3,o3,st3,ot3,ev3,ho3,tk3⟩:=rj a ps X.K I ha st (fun e h=>by have:=hpb e h;omega);have ha3:a∈(dq X.K a ps).ids:=by rw[i3];exact ha
 have s0:=M3.get R3.pT R3.cT;have sy:=M3.get (R3.py i y hy) (R3.cy i y hy);have sk:=M3.get (R3.kr.pk 0 ∅) R3.kr.c0;unfold tO' at s0;unfold yO at sy;rw[ea,ed]at sy;simp only[stU,duU]at sy;obtain⟨⟨v4,T4⟩,e4,hv4,pos4,c4,q4,M4,R4,F4⟩:=D0 M3 R3.kr I3.w ha3 (by rw[o3];exact op) st3 (by show(dq X.K a ps).ev.length<=_;omega) (by show(dq X.K a ps).ho.length<=_;rw[ho3];exact hh0);dsimp only at hv4 M4;subst hv4;have R5:=R3.kp _ R4 F4;have F5:FmT j pos c pos4 c4:=(F1.trans F3).trans (.fm F4);have s4:=M4.get R5.pT R5.cT;have sy4:=M4.get (R5.py i y hy) (R5.cy i y hy);unfold tO' at s4;unfold yO at sy4;rw[ea,ed]at sy4;simp only[stU,duU]at sy4;rw[eL (ρ':=rhT t o i lp r4 r5 (some (.str (cE (dq X.K a ps) a).1))) (S':=T4) (by rwa[rhT,s0,sk,sy,e4])];by_cases h1:(cE (dq X.K a ps) a).1="falls";rw[Xd h1];have dd:decide ((cE (dq X.K a ps) a).1="falls")=true:=Xc h1;obtain⟨⟨v6,T6⟩,e6,rfl,pos6,c6,q6,lr6,ld6,M6,R6,F6⟩:=Bi (i:=i) M4 R5 hy hl;dsimp only at M6;exact mI (b:=true) (S1:=T4) (by rwa[rhT,dd]) (fun _=>.of (r:=(.str "fell",T6)) (by rwa[rhT,s4,e6]) ⟨rfl,pos6,c6,q6,lr6,ld6,M6,R6,F5.trans F6⟩) fun z=>nomatch z;rw[Xf h1];have dd:decide ((cE (dq X.K a ps) a).1="falls")=false:=Xa h1;refine mI (b:=false) (S1:=T4) (by rwa[rhT,dd]) (fun z=>nomatch z) fun _=>?_;by_cases h2:(cE (dq X.K a ps) a).1="done";rw[Xd h2];have dd:decide ((cE (dq X.K a ps) a).1="done")=true:=Xc h2;obtain⟨⟨v6,T6⟩,e6,rfl,pos6,c6,q6,lr6,ld6,M6,R6,F6⟩:=Bt (i:=i) M4 R5 hy hl;dsimp only at M6;exact mI (b:=true) (S1:=T4) (by rwa[rhT,dd]) (fun _=>.of (r:=(.str "done",T6)) (by rwa[rhT,s4,e6]) ⟨rfl,pos6,c6,q6,lr6,ld6,M6,R6,F5.trans F6⟩) fun z=>nomatch z;rw[Xf h2];have dd:decide ((cE (dq X.K a ps) a).1="done")=false:=Xa h2;refine mI (b:=false) (S1:=T4) (by rwa[rhT,dd]) (fun z=>nomatch z) fun _=>?_;have M6:=M4.set (R5.py i y hy) (yO z.Y { y with sg:="taken" } (ld i));have R6:=R5.sy (i:=i) hy { y with sg:="taken" } rfl;have ey:yO z.Y { y with sg:="taken" } (ld i)=.ins z.Y [some (.tup y.dl),uI a,uR (ld i),some (.str "taken"),uI y.fa,uI y.fl]:=by unfold yO;rw[ea,ed];rfl
 refine .of (r:=(.str "took",_)) ?_ ⟨rfl,_,_,q4,lr,ld,M6,R6,F5.upd (.tp ⋯)⟩;rw[ey];rwa[rhT,sy4]
end
def d00:Dc:=⟨[],[],.non⟩
def tOn(n w:Int)(X:Tc)(i:Nat)(y:Tyg)(D:Dc)(a:Int):Str×Tc:=match iK D with
 |none=>qQ n X i y D a
 |some u=>if pJ D u=true then qR X i y D a (lkB u)else
  if (dDo w n D).1=true then("went",X.set i { y with d:=some (dDo w n D).2 })else("slept",zL (X.set i { y with d:=some (dDo w n D).2 }) i { y with d:=some (dDo w n D).2 } a)
def jx(X:Tc)(i:Nat):Tc:=if X.pa=some 0/\(i:Int)∉X.rw then { X with rw:=X.rw++[(i:Int)] } else X
def yN(n w:Int)(X:Tc)(i:Nat)(y:Tyg):Str×Tc:=
 if y.sg="done" then("idle",X)else if slp X y=true then("asleep",X)else
 if (decide ((i:Int)∈(jx X i).rw)&&!isF (jx X i) i)=true then("held",jx X i)else
 if y.sg="in" then tOn n w (jx X i) i y (y.d.getD d00) (y.att.getD 0)else
 if y.sg="taken" then qP (jx X i) i y (y.att.getD 0)else("begun",pV (jx X i) i y)
def tGo(n w:Int)(X:Tc)(i:Nat):Str×Tc:=match X.os[i]? with
 |some y=>yN n w X i y
 |none=>("",X)
inductive Sg(K:Kc)(y:Tyg):Prop
 |out (h:y.sg="out")
 |go {a:Int} {D:Dc} (h:y.sg="in") (ea:y.att=some a) (ed:y.d=some D) (op:(K.A a).op=true) (st:(K.A a).st=none)
 |tk {a:Int} {D:Dc} (h:y.sg="taken") (ea:y.att=some a) (ed:y.d=some D) (op:(K.A a).op=true) (st:(K.A a).st.isSome=true)
 |sl {a:Int} (h:y.sg="asleep") (ea:y.att=some a)
 |dn {a:Int} {D:Dc} (h:y.sg="done") (ea:y.att=some a) (ed:y.d=some D)
structure Yi(K:Kc)(n w:Int)(y:Tyg):Prop where
 dl:∃e,e<=50/\∀u∈y.dl,DU n w e u
 dw:∀D,y.d=some D->DgW n w D
 at_:∀a,y.att=some a->a∈K.ids
 sg:Sg K y
structure Ti(n w:Int)(X:Tc)(m r:Nat):Prop where
 k:Ki X.K n.toNat
 b:Kb X.K (8*m)
 tk:X.K.tk<=m
 il:X.K.ids.length<=m
 be:0<=X.be
 ids:∀a∈X.K.ids,0<=a/\a<X.be
 ys:∀(i:Nat) (y:Tyg),X.os[i]?=some y->Yi X.K n w y
 inj:∀(i i':Nat) (y y':Tyg) (a:Int),X.os[i]?=some y->X.os[i']?=some y'->y.att=some a->y'.att=some a->i=i'
 rw:∀k∈X.rw,0<=k/\k<X.os.length
 rl:X.rw.length<=r
def Az:¬(("in":Str)="done"):=∅
def Ay:¬(("taken":Str)="done"):=∅
def LC:¬(("taken":Str)="in"):=∅
def wY:¬(("out":Str)="done"):=∅
def FC:¬(("out":Str)="in"):=∅
def FA:¬(("out":Str)="taken"):=∅
def FD:¬(("out":Str)="asleep"):=∅
def LF:¬(("in":Str)="asleep"):=∅
def LD:¬(("taken":Str)="asleep"):=∅
def vC:¬(("asleep":Str)="done"):=∅
def LH:¬(("asleep":Str)="in"):=∅
def LG:¬(("asleep":Str)="taken"):=∅
section
variable{n w:Int}{o:Nat->Nat}{q:Int->Nat->Nat}{m:Nat}{u:U}
def B4(z:Cz):Fn:=fnU 3 2 (iO (ju z.D) (sG z) (qH z.D) (sH z) (Ge z.D) (v8 z) z.Y z.T z.D)
def IE(M:Mm pos c T)(R:Tr z j n w pos c X p q t o lr ld)(I:Ki X.K n.toNat)(hy:X.os[i]?=some y)(ea:y.att=some a)(ed:y.d=some D)(hD:DgW n w D)(ha:a∈X.K.ids)(op:(X.K.A a).op=true)(st:(X.K.A a).st=none)(n0:0<=n)(n1:n<=6)(w0:2<=w)(hl:X.rw.length<=9000)(he:X.K.ev.length<=8000)(hh0:X.K.ho.length<=80000)(hr:∀k∈X.rw,0<=k/\k<X.os.length) :
  Wp (B4 z [.ref (t 0),.int i] T) fun r=>r.1=.str (tOn n w X i y D a).1/\NT z j n w pos c p t o (tOn n w X i y D a).2 r.2:=by
 have t0:=M.get R.pT R.cT;have t1:=M.get R.pO R.cO;have ty:=M.get (R.py i y hy) (R.cy i y hy);have td:=M.get (R.pd i y D hy ed) (R.cd i y D hy ed);have tl:=M.get (R.kr.pa a ha 1 ∅) (R.kr.a1 a ha);have td':=td;unfold tO' at t0;unfold yO at ty;rw[ea,ed]at ty;simp only[stU,duU]at ty;unfold dOb dO at td';have ao:=yQ (o:=o) hy;unfold B4 tOn;rw[oI];unfold iO;rw[eL (ρ':=[uR (t 0),uI i,uR (ld i)]) (S':=T) (by rwa[t0,t1,ao,ty])];cases hd:iK D with
 |none=>
  have e1:=Ex hD td tl hd;refine mI (b:=true) (S1:=T) (by rwa[td',e1,sS,qy]) (fun _=>?_) fun z=>nomatch z;obtain⟨⟨v,T1⟩,e2,hv,N⟩:=Be (i:=i) M R I hy ea ed hD ha op st n0 n1 hl he hh0 hr;exact .of (r:=(v,T1)) (by rwa[t0,e2]) ⟨hv,N⟩
 |some u=>
  have e1:=xB hD td tl hd;obtain⟨e0,hu⟩:=hD.du hd;obtain⟨s,rr,hs⟩:=hu.head;have inn:oZ u=false:=by rw[hs];rfl
  refine mI (b:=false) (S1:=T) (by rwa[td',e1,sS,inn]) (fun z=>nomatch z) fun _=>?_;have e2:=EJ hD n0 td tl hd;refine mI (b:=pJ D u) (S1:=T) (by rwa[td',e2]) (fun h=>?_) fun h=>?_;dsimp only;rw[Xd h];have hk:Iy u=true:=by unfold pJ at h;exact(Yj.mp h).1
  obtain⟨⟨v,T1⟩,e3,hv,N⟩:=Bf (i:=i) M R I hy ea ed hD ha op st hd hk n0 hl ⋯;exact .of (r:=(v,T1)) (by rwa[t0,e3]) ⟨hv,N⟩;have hn:¬pJ D u=true:=by rw[h];exact Z8
  dsimp only;rw[Xf hn];obtain⟨hdo,hD2⟩:=FX hD w0 n1 hd h;have lw:Lw n (X.K.A a).lk:=⟨I.lkn a ha,fun k hk=>by have:=I.lkb a ha k hk;omega⟩;have e3:=hdo z.D T (ld i) (q a 1) (X.K.A a).lk lw td tl;have M1:=M.set (R.pd i y D hy ed) (dOb z.D w n (dDo w n D).2);have R1:=R.sd (i:=i) hy ed (dDo w n D).2;have F1:FmT j pos c pos (aD c (tp j 2 i) (dOb z.D w n (dDo w n D).2)):=FmT.refl.upd (.tp ⋯);generalize T.set (ld i) (dOb z.D w n (dDo w n D).2)=T1 at M1 e3;cases hb:(dDo w n D).1 with
  |true=>
   rw[hb]at e3;rw[Xd rfl];refine mI (b:=false) (S1:=T1) (by rwa[td',e3]) (fun z=>nomatch z) fun _=>?_;exact Ji (.of rfl ⟨rfl,_,_,q,lr,ld,M1,R1,F1⟩)
  |false=>
   rw[hb]at e3;rw[Xf Z8];refine mI (b:=true) (S1:=T1) (by rwa[td',e3]) (fun _=>?_) fun z=>nomatch z;have hy1:(X.set i { y with d:=some (dDo w n D).2 }).os[i]?=some { y with d:=some (dDo w n D).2 }:=by unfold Tc.set;rw[Ze (Q6.mp hy).1]
   have s0:=M1.get R1.pT R1.cT;unfold tO' at s0;obtain⟨⟨v,T2⟩,e4,rfl,pos2,c2,q2,lr2,ld2,M2,R2,F2⟩:=CU (i:=i) M1 R1 hy1 ea ha op st hl (by show X.K.ev.length<=_;omega);dsimp only at M2;exact .of (r:=(.str "slept",T2)) (by rwa[s0,e4]) ⟨rfl,pos2,c2,q2,lr2,ld2,M2,R2,F1.trans F2⟩
def Ms{a:Int}{pa:Option Int}{S:Sto}:fEq (stU pa) (.int a) S=some (.bl (decide (pa=some a)),S):=by
 cases pa with
 |none=>rfl
 |some b=>
  show some (U.bl (decide (b=a)),S)=_;congr 3;exact decide_eq_decide.mpr ⟨fun h=>by rw[h],fun h=>Yk h⟩
def FJ{neg:Bool}{l:Nat}{xs:List Int}{b:Int}{S:Sto}(h:S[l]?=some (.lst (xs.map U.int))):fIn neg (.int b) (.ref l) S=some (.bl (if neg then !decide (b∈xs)else decide (b∈xs)),S):=by
 rw[JP,h,NZ ⟨rfl,by simp[List.all_map];exact fun _ _=>rfl⟩,inI]
def MJ(z:Cz):Fn:=fnU 3 2 (lJ (BZ z) (wb z.T) (B4 z) (sF z) (xT z) z.T z.Y)
def L9(hz:CzO z)(M:Mm pos c T)(R:Tr z j n w pos c X p q t o lr ld){r:Nat}(I:Ti n w X m r)(hm:m<=500)(hr5:r<=5000)(n0:1<=n)(n1:n<=6)(w0:2<=w)(hy:X.os[i]?=some y) :
  Wp (MJ z [.ref (t 0),.int i] T) fun r=>r.1=.str (yN n w X i y).1/\NT z j n w pos c p t o (yN n w X i y).2 r.2:=by
 have t0:=M.get R.pT R.cT;have t1:=M.get R.pO R.cO;have ty:=M.get (R.py i y hy) (R.cy i y hy);unfold tO' at t0;unfold yO at ty;have ao:=yQ (o:=o) hy;have Y:=I.ys i y hy;have ev:=I.b.ev;have bt:=I.tk;have bi:=I.b.ids;have hol:=I.k.hol;have rl:=I.rl;unfold MJ yN;rw[oI];unfold lJ;rw[eL (ρ':=[uR (t 0),uI i,uR (o i)]) (S':=T) (by rwa[t0,t1,ao])];refine mI (b:=decide (y.sg="done")) (S1:=T) (by rwa[ty]) (fun h=>?_) fun h=>?_;rw[Xd (of_decide_eq_true h)];exact .of rfl ⟨rfl,pos,c,q,lr,ld,M,R,FmT.refl⟩;have nd:=of_decide_eq_false h;rw[Xf nd];obtain⟨G1,e1⟩:=Ff (i:=i) M R I.k.w hy fun hs=>by
  cases Y.sg with
  |out h=>rw[h]at hs;exact absurd hs FD
  |go h=>rw[h]at hs;exact absurd hs LF
  |tk h=>rw[h]at hs;exact absurd hs LD
  |sl h ea=>exact⟨_,ea,Y.at_ _ ea⟩
  |dn h=>exact absurd h nd
 have M1:=M.app G1;generalize T++G1=T1 at e1 M1;refine mI (b:=slp X y) (S1:=T1) (by rwa[t0,e1]) (fun h=>?_) fun h=>?_;rw[Xd h];exact .of rfl ⟨rfl,pos,c,q,lr,ld,M1,R,FmT.refl⟩;have ns:¬slp X y=true:=by rw[h];exact Z8
 rw[Xf ns];have s0:=M1.get R.pT R.cT;have sr:=M1.get R.pR R.cR;have sy:=M1.get (R.py i y hy) (R.cy i y hy);unfold tO' at s0;unfold yO at sy;have hL:(X.rw.map U.int).length<LIM:=by rw[Q7];unfold LIM;omega
 have hrow:∃c2 T2,(dY (yH (aR (cOp fEq (aT z.T 2 (ak 0)) (cC (.int 0)))) (aR (cOp (fIn true) (ak 1) (aT z.T 5 (ak 0))))) (bR (cBM bK (aT z.T 5 (ak 0)) (ag (ak 1) ay))) bW) [uR (t 0),uI i,uR (o i)] T1=some (.nx,[uR (t 0),uI i,uR (o i)],T2)/\Mm pos c2 T2/\Tr z j n w pos c2 (jx X i) p q t o lr ld/\FmT j pos c pos c2:=by
  have e2:=fun S=>Ms (a:=0) (pa:=X.pa) (S:=S);have e3:=FJ (neg:=true) (b:=(i:Int)) sr;rw[Xd rfl]at e3;unfold jx;by_cases hp:X.pa=some 0;rw[Xc hp]at e2;by_cases hi:(i:Int)∈X.rw;rw[Xc hi]at e3;rw[Xf fun z=>z.2 hi];exact⟨c,T1,by rwa[s0,e2,e3],M1,R,FmT.refl⟩;rw[Xa hi]at e3;rw[Xd ⟨hp,hi⟩];have M2:=M1.set R.pR (.lst ((X.rw++[(i:Int)]).map U.int));refine⟨_,_,?_,M2,R.sr _,FmT.refl.upd (.tp ⋯)⟩;rw[Zo];rwa[s0,sr,e2,e3,dZ hL];rw[Xa hp]at e2;rw[Xf fun z=>hp z.1];exact⟨c,T1,by rwa[s0,e2],M1,R,FmT.refl⟩
 obtain⟨c2,T2,e2,M2,R2,F2⟩:=hrow;rw[eL e2];have eK:(jx X i).K=X.K:=by unfold jx;split<;>rfl
 have eO:(jx X i).os=X.os:=by unfold jx;split<;>rfl
 have eB:(jx X i).be=X.be:=by unfold jx;split<;>rfl
 have rl2:(jx X i).rw.length<=r+1:=by
  unfold jx;split;show(X.rw++[(i:Int)]).length<=_;rw[ZY];exact YZ rl 1;omega
 have rw2:∀k∈(jx X i).rw,0<=k/\k<(jx X i).os.length:=by
  rw[eO];have li:=(Q6.mp hy).1;unfold jx;split;intro k hk;rcases Zz.mp hk with h|h;exact I.rw k h;rw[ZN.mp h];exact⟨⋯,⋯⟩;exact I.rw
 generalize jx X i=X2 at R2 eK eO eB rl2 rw2;have hy2:X2.os[i]?=some y:=by rw[eO];exact hy
 have u0:=M2.get R2.pT R2.cT;have ur:=M2.get R2.pR R2.cR;unfold tO' at u0;obtain⟨G3,f3⟩:=A0 (i:=i) M2 R2;have e3:=FJ (neg:=false) (b:=(i:Int)) ur;rw[Xf Z8]at e3;have cond:∃G,(yH (aR (cOp (fIn false) (ak 1) (aT z.T 5 (ak 0)))) (Jq (aR (aL z.T (wb z.T) (ak 0) (ag (ak 1) ay))))) [uR (t 0),uI i,uR (o i)] T2=some (decide ((i:Int)∈X2.rw)&&!isF X2 i,T2++G):=by
  cases hi:decide ((i:Int)∈X2.rw)with
  |false=>
   rw[hi]at e3;exact⟨[],by rw[Zj];rwa[u0,e3,YR]⟩
  |true=>
   rw[hi]at e3;exact⟨G3,by rwa[u0,e3,f3,YQ]⟩
 obtain⟨G,f4⟩:=cond;have M3:=M2.app G;generalize T2++G=T3 at f4 M3;refine mI f4 (fun h=>?_) fun h=>?_;rw[Xd h];exact .of rfl ⟨rfl,pos,c2,q,lr,ld,M3,R2,F2⟩;have nh:¬(decide ((i:Int)∈X2.rw)&&!isF X2 i)=true:=by rw[h];exact Z8
 rw[Xf nh];have v0:=M3.get R2.pT R2.cT;have vy:=M3.get (R2.py i y hy2) (R2.cy i y hy2);unfold tO' at v0;unfold yO at vy;have Ik:Ki X2.K n.toNat:=by rw[eK];exact I.k
 have ev2:X2.K.ev.length<=8000:=by rw[eK];omega
 have ho2:X2.K.ho.length<=80000:=by rw[eK];omega
 have goin:Wp ((b7 (aL z.T (xT z) (ak 0) (ag (ak 2) ay)) [uR (t 0),uI i,uR (o i)] T3).bind kFn) fun r=>r.1=.str (("begun":Str),pV X2 i y).1/\NT z j n w pos c p t o (("begun":Str),pV X2 i y).2 r.2:=by
  obtain⟨e,e50,hdl⟩:=Y.dl;obtain⟨⟨v,T4⟩,e4,rfl,pos4,c4,q4,lr4,ld4,M4,R4,F4⟩:=IF (i:=i) hz M3 R2 hy2 hdl e50 n0 n1 (by rw[eK,eB];intro hb;have:=I.ids _ hb;omega) (by rw[eK];omega) ⋯;dsimp only at M4;exact Ji (.of (r:=(.str "begun",T4)) (by rwa[v0,e4]) ⟨rfl,pos4,c4,q4,lr4,ld4,M4,R4,F2.trans F4⟩)
 cases Y.sg with
 |out hs=>
  have h1:¬y.sg="in":=by rw[hs];exact FC
  have h2:¬y.sg="taken":=by rw[hs];exact FA
  rw[Xf h1,Xf h2];refine mI (b:=false) (S1:=T3) (by have:=Xa h1;rwa[vy,this]) (fun z=>nomatch z) fun _=>?_;exact mI (b:=false) (S1:=T3) (by have:=Xa h2;rwa[vy,this]) (fun z=>nomatch z) fun _=>goin
 |sl hs ea=>
  have h1:¬y.sg="in":=by rw[hs];exact LH
  have h2:¬y.sg="taken":=by rw[hs];exact LG
  rw[Xf h1,Xf h2];refine mI (b:=false) (S1:=T3) (by have:=Xa h1;rwa[vy,this]) (fun z=>nomatch z) fun _=>?_;exact mI (b:=false) (S1:=T3) (by have:=Xa h2;rwa[vy,this]) (fun z=>nomatch z) fun _=>goin
 |dn hs=>exact absurd hs nd
 |@go a D hs ea ed op st=>
  rw[Xd hs,ea,ed];obtain⟨⟨v,T4⟩,e4,hv,pos4,c4,q4,lr4,ld4,M4,R4,F4⟩:=IE (i:=i) M3 R2 Ik hy2 ea ed (Y.dw D ed) (by rw[eK];exact Y.at_ a ea) (by rw[eK];exact op) (by rw[eK];exact st) ⋯ n1 w0 ⋯ ev2 ho2 rw2;dsimp only at M4 hv;exact mI (b:=true) (S1:=T3) (by have:=Xc hs;rwa[vy,this]) (fun _=>.of (r:=(v,T4)) (by rwa[v0,e4]) ⟨hv,pos4,c4,q4,lr4,ld4,M4,R4,F2.trans F4⟩) fun z=>nomatch z
 |@tk a D hs ea ed op st=>
  have h1:¬y.sg="in":=by rw[hs];exact LC
  rw[Xf h1,Xd hs,ea];refine mI (b:=false) (S1:=T3) (by have:=Xa h1;rwa[vy,this]) (fun z=>nomatch z) fun _=>?_;obtain⟨⟨v,T4⟩,e4,hv,pos4,c4,q4,lr4,ld4,M4,R4,F4⟩:=Bc (i:=i) M3 R2 Ik hy2 ea (by rw[eK];exact Y.at_ a ea) (by rw[eK];exact op) (by rw[eK];exact st) ⋯ ⋯;dsimp only at M4 hv;exact mI (b:=true) (S1:=T3) (by have:=Xc hs;rwa[vy,this]) (fun _=>.of (r:=(v,T4)) (by rwa[v0,e4]) ⟨hv,pos4,c4,q4,lr4,ld4,M4,R4,F2.trans F4⟩) fun z=>nomatch z
end
section
variable{x:Int}
def uD{w:Str}(h:x≠a):(K.end a w).A x=K.A x:=Xf h
def xl(h:x≠a):(dJ K a b).2.A x=K.A x:=by
 unfold dJ;split;rfl;split;exact uD h;exact Xf h
def Eb{v:Int}(h:(dJ K a b).1=.tup [.str "number",.int v]):((dJ K a b).2.A a).op=(K.A a).op/\((dJ K a b).2.A a).st=(K.A a).st:=by
 unfold dJ at h ⊢;split;exact⟨rfl,rfl⟩;rename_i hv;rw[hv]at h;dsimp only at h;split;rename_i hw;rw[Xd hw]at h;cases h;have:((K.anew a b).A a)={ K.A a with g:=if (K.A a).g<K.ma.getD b.toNat 0 then K.tk else(K.A a).g,lk:=pL (K.A a).lk b }:=Xd rfl;show((K.anew a b).A a).op=_/\((K.anew a b).A a).st=_;rw[this];exact⟨rfl,rfl⟩
def Ea:(dJ K a b).2.tk=K.tk:=by
 unfold dJ;split;rfl
 ·split<;>rfl
def D9(h:x≠a):(cE K a).2.A x=K.A x:=by
 unfold cE;split;exact uD h;split;exact uD h;exact Xf h
def AS:(cE K a).2.ids=K.ids:=by
 unfold cE;split;rfl
 ·split<;>rfl
def D6:(cE K a).2.tk<=K.tk+1:=by
 unfold cE;split;show K.tk<=_;omega;split;show K.tk<=_;omega;exact Xe _
def D4(h1:(cE K a).1≠"falls")(h2:(cE K a).1≠"done"):((cE K a).2.A a).op=(K.A a).op/\((cE K a).2.A a).st.isSome=true:=by
 unfold cE at h1 h2 ⊢;by_cases c1:(K.A a).pu=[];rw[Xd c1]at h2;exact absurd rfl h2;rw[Xf c1]at h1 ⊢;by_cases c2:(brd K a (K.A a).lk||(brd K a ((K.A a).pu.map (·.1))||Io K a))=true;rw[Xd c2]at h1;exact absurd rfl h1;rw[Xf c2];have:(K.up a { K.A a with st:=some (K.tk+1),un:=bL ((K.A a).pu.map (·.1)) }).A a={ K.A a with st:=some (K.tk+1),un:=bL ((K.A a).pu.map (·.1)) }:=Xd rfl;show((K.up a _).A a).op=_/\((K.up a _).A a).st.isSome=true;rw[this];exact⟨rfl,rfl⟩
def ue(h:x≠a):(bO K a).2.A x=K.A x:=by
 unfold bO;split;rfl;dsimp only;split;rw[uD h];exact Xf h;exact Xf h
def qw:(bO K a).2.ids=K.ids:=by
 unfold bO;split;rfl
 ·dsimp only;split<;>rfl
def AR:(bO K a).2.tk=K.tk:=by
 unfold bO;split;rfl
 ·dsimp only;split<;>rfl
def AQ(h:(bO K a).1≠"done"):((bO K a).2.A a).op=(K.A a).op/\((bO K a).2.A a).st=(K.A a).st:=by
 unfold bO at h ⊢;split;exact⟨rfl,rfl⟩;rename_i b r hu;rw[hu]at h;dsimp only at h ⊢;by_cases hr:r=[];rw[Xd hr]at h;exact absurd rfl h;rw[Xf hr];have:(K.up a { K.A a with un:=r }).A a={ K.A a with un:=r }:=Xd rfl;show((K.up a { K.A a with un:=r }).A a).op=_/\((K.up a { K.A a with un:=r }).A a).st=_;rw[this];exact⟨rfl,rfl⟩
def Kb.mono{m m':Nat}(h:Kb K m)(l:m<=m'):Kb K m':=⟨by have:=h.ev;omega,by have:=h.tk;omega,by have:=h.ids;omega⟩
def AU:∀(ps:List (Int×Int)) (K:Kc) (m:Nat),Kb K m->Kb (dq K a ps) (m+ps.length)
 |[],K,m,h=>h
 |e::ps,K,m,h=>by
  have:=AU ps (vI K a e.1 e.2) (m+1) (Kb.call (k:=.pt a e.1 e.2) h);rw[ZZ,show m+(ps.length+1)=m+1+ps.length by omega];exact this
end
section
variable{n w:Int}{X':Tc}{m r:Nat}{y':Tyg}
def Fh(hy:X.os[i]?=some y):(X.os.set i y')[i]?=some y':=Ze (Q6.mp hy).1
def Ti.mono(I:Ti n w X m r):Ti n w X (m+1) (r+1):=⟨I.k,I.b.mono ⋯,by have:=I.tk;omega,Xw I.il,I.be,I.ids,I.ys,I.inj,I.rw,by have:=I.rl;omega⟩
def Ti.step(I:Ti n w X m r)(hy:X.os[i]?=some y)(ea:y.att=some a)(os:X'.os=X.os.set i y')(ids:X'.K.ids=X.K.ids)(oth:∀x,x≠a->X'.K.A x=X.K.A x)(be:X'.be=X.be)(att:y'.att=y.att)(dl:y'.dl=y.dl)(dw:∀E,y'.d=some E->DgW n w E)(sg:Sg X'.K y')(hk:Ki X'.K n.toNat)(hb:Kb X'.K (8*(m+1)))(ht:X'.K.tk<=m+1)(hr:∀k∈X'.rw,k∈X.rw\/k=(i:Int))(hl:X'.rw.length<=X.rw.length+1):Ti n w X' (m+1) (r+1):=by
 have li:=(Q6.mp hy).1;have old:∀k x,X'.os[k]?=some x->(k=i/\x=y')\/(k≠i/\X.os[k]?=some x):=fun k x h=>by
  rw[os]at h;by_cases e:k=i;subst e;rw[Fh hy]at h;exact .inl ⟨rfl,(Yk h).symm⟩;rw[ZS (Ne.symm e)]at h;exact .inr ⟨e,h⟩
 have Y:=I.ys i y hy;refine⟨hk,hb,ht,by rw[ids];exact Xw I.il,by rw[be];exact I.be,by rw[ids,be];exact I.ids,fun k x h=>?_,fun k k' x x' b h h' hb1 hb2=>?_,fun k hk=>?_,by have:=I.rl;omega⟩;rcases old k x h with⟨rfl,rfl⟩|⟨ne,h⟩;exact⟨by rw[dl];exact Y.dl,dw,by rw[att,ids];exact Y.at_,sg⟩;have Z:=I.ys k x h;have na:∀b,x.att=some b->b≠a:=fun b eb e=>ne (I.inj k i x y a h hy (by rw[eb,e]) ea);refine⟨Z.dl,Z.dw,by rw[ids];exact Z.at_,?_⟩;cases Z.sg with
 |out h=>exact .out h
 |go h eb ed op st=>exact .go h eb ed (by rw[oth _ (na _ eb)];exact op) (by rw[oth _ (na _ eb)];exact st)
 |tk h eb ed op st=>exact .tk h eb ed (by rw[oth _ (na _ eb)];exact op) (by rw[oth _ (na _ eb)];exact st)
 |sl h eb=>exact .sl h eb
 |dn h eb ed=>exact .dn h eb ed
 rcases old k x h with⟨rfl,rfl⟩|⟨ne,h⟩;rcases old k' x' h' with⟨rfl,rfl⟩|⟨ne',h'⟩;rfl;exact I.inj k k' y x' b hy h' (by rw[<-att];exact hb1) hb2;rcases old k' x' h' with⟨rfl,rfl⟩|⟨ne',h'⟩;exact I.inj k k' x y b h hy hb1 (by rw[<-att];exact hb2);exact I.inj k k' x x' b h h' hb1 hb2;rw[os,Zx];rcases hr k hk with h|rfl;exact I.rw k h;exact⟨⋯,⋯⟩
def Ti.row(I:Ti n w X m r)(hy:X.os[i]?=some y):Ti n w (jx X i) m (r+1):=by
 have li:=(Q6.mp hy).1;unfold jx;split;refine⟨I.k,I.b,I.tk,I.il,I.be,I.ids,I.ys,I.inj,fun k hk=>?_,?_⟩;rcases Zz.mp hk with h|h;exact I.rw k h;rw[ZN.mp h];exact⟨⋯,by show(i:Int)<X.os.length;omega⟩;show(X.rw++[_]).length<=_;rw[ZY];exact YZ I.rl 1;exact⟨I.k,I.b,I.tk,I.il,I.be,I.ids,I.ys,I.inj,I.rw,by have:=I.rl;omega⟩
def Ti.fell{K':Kc}(I:Ti n w X m r)(hy:X.os[i]?=some y)(ea:y.att=some a)(ids:K'.ids=X.K.ids)(oth:∀x,x≠a->K'.A x=X.K.A x)(hk:Ki K' n.toNat)(hb:Kb K' (8*(m+1)))(ht:K'.tk<=m+1):Ti n w (i7 { X with K:=K' } i y) (m+1) (r+1):=by
 have Y:=I.ys i y hy;have eo:(i7 { X with K:=K' } i y).os=X.os.set i (qK y):=by unfold i7;split<;>rfl
 have eK:(i7 { X with K:=K' } i y).K=K':=by unfold i7;split<;>rfl
 have eB:(i7 { X with K:=K' } i y).be=X.be:=by unfold i7;split<;>rfl
 refine I.step hy ea eo (by rw[eK];exact ids) (by rw[eK];exact oth) eB rfl rfl Y.dw (.out rfl) (by rw[eK];exact hk) (by rw[eK];exact hb) (by rw[eK];exact ht) (fun k hk=>?_) ?_;unfold i7 at hk;split at hk;exact(Zz.mp hk).imp id ZN.mp;exact .inl hk;unfold i7;split;show(X.rw++[_]).length<=_;rw[ZY];exact Z6 _;exact Xg _
def Ti.done{K':Kc}(I:Ti n w X m r)(hy:X.os[i]?=some y)(ea:y.att=some a)(ed:y.d=some D)(ids:K'.ids=X.K.ids)(oth:∀x,x≠a->K'.A x=X.K.A x)(hk:Ki K' n.toNat)(hb:Kb K' (8*(m+1)))(ht:K'.tk<=m+1):Ti n w (CP { X with K:=K' } i y) (m+1) (r+1):=by
 have Y:=I.ys i y hy;exact I.step (y':={ y with sg:="done" }) hy ea rfl ids oth rfl rfl rfl Y.dw (.dn rfl ea ed) hk hb ht (fun k hk=>.inl (List.mem_filter.mp hk).1) (Xw (Xy _ _))
def Ti.slept(I:Ti n w X m r)(hy:X.os[i]?=some y)(ea:y.att=some a){D':Dc}(hD:DgW n w D'):Ti n w (zL (X.set i { y with d:=some D' }) i { y with d:=some D' } a) (m+1) (r+1):=by
 have Y:=I.ys i y hy;have ha:=Y.at_ a ea;refine I.step (y':={ y with d:=some D',sg:="asleep",fl:=0 }) hy ea ?_ rfl (fun x hx=>uD hx) rfl rfl rfl (fun E h=>by cases h;exact hD) (.sl rfl ea) (I.k.end ha _) ((Bq I.b).mono ⋯) (by show X.K.tk<=_;have:=I.tk;omega) (fun k hk=>.inl (List.mem_filter.mp hk).1) (Xw (Xy _ _));show(X.os.set i _).set i _=_;rw[XY]
def Ti.begun(I:Ti n w X m r)(hy:X.os[i]?=some y):Ti n w (pV X i y) (m+1) (r+1):=by
 have li:=(Q6.mp hy).1;have Y:=I.ys i y hy;have nb:X.be∉X.K.ids:=fun h=>by have:=I.ids _ h;omega
 have old:∀k x,(pV X i y).os[k]?=some x->(k=i/\x={ y with att:=some X.be,d:=some (mY y.dl),sg:="in" })\/(k≠i/\X.os[k]?=some x):=fun k x h=>by
  replace h:(X.os.set i { y with att:=some X.be,d:=some (mY y.dl),sg:="in" })[k]?=some x:=h
  by_cases e:k=i;subst e;rw[Fh hy]at h;exact .inl ⟨rfl,(Yk h).symm⟩;rw[ZS (Ne.symm e)]at h;exact .inr ⟨e,h⟩
 have ata:(cW X.K X.be).A X.be=a0 X.K.tk:=Xd rfl;have ot:∀b,b≠X.be->(cW X.K X.be).A b=X.K.A b:=fun b h=>Xf h;have lt:∀b∈X.K.ids,b≠X.be:=fun b hb e=>nb (by rw[<-e];exact hb);have sub:∀b∈X.K.ids,b∈(cW X.K X.be).ids:=fun b hb=>Zz.mpr (.inl hb);refine⟨I.k.begin nb,(Kb.call (k:=.bg X.be) I.b).mono ⋯,by show X.K.tk<=_;have:=I.tk;omega,by show(X.K.ids++[_]).length<=_;rw[ZY];exact YZ I.il 1,by show 0<=X.be+1;have:=I.be;omega,fun b hb=>?_,fun k x h=>?_,fun k k' x x' b h h' hb1 hb2=>?_,fun k hk=>?_,by show X.rw.length<=_;have:=I.rl;omega⟩;show 0<=b/\b<X.be+1;rcases Zz.mp hb with h|h;have:=I.ids b h;omega;rw[ZN.mp h];have:=I.be;omega;rcases old k x h with⟨rfl,rfl⟩|⟨ne,h⟩;obtain⟨e,e50,hd⟩:=Y.dl;refine⟨Y.dl,fun E hE=>by cases hE;exact ME hd e50,fun b hb=>by cases hb;exact Zz.mpr (.inr (ZN.mpr rfl)),.go rfl rfl rfl ?_ ?_⟩;show((cW X.K X.be).A X.be).op=true;rw[ata];rfl;show((cW X.K X.be).A X.be).st=none;rw[ata];rfl;have Z:=I.ys k x h;have na:∀b,x.att=some b->b≠X.be:=fun b eb=>lt b (Z.at_ b eb);refine⟨Z.dl,Z.dw,fun b hb=>sub b (Z.at_ b hb),?_⟩;cases Z.sg with
 |out h=>exact .out h
 |go h eb ed op st=>exact .go h eb ed (by show((cW X.K X.be).A _).op=_;rw[ot _ (na _ eb)];exact op) (by show((cW X.K X.be).A _).st=_;rw[ot _ (na _ eb)];exact st)
 |tk h eb ed op st=>exact .tk h eb ed (by show((cW X.K X.be).A _).op=_;rw[ot _ (na _ eb)];exact op) (by show((cW X.K X.be).A _).st.isSome=_;rw[ot _ (na _ eb)];exact st)
 |sl h eb=>exact .sl h eb
 |dn h eb ed=>exact .dn h eb ed
 rcases old k x h with⟨rfl,rfl⟩|⟨ne,h0⟩;rcases old k' x' h' with⟨rfl,rfl⟩|⟨ne',h'⟩;rfl;cases hb1;exact absurd rfl (lt _ ((I.ys k' x' h').at_ _ hb2));rcases old k' x' h' with⟨rfl,rfl⟩|⟨ne',h'0⟩;cases hb2;exact absurd rfl (lt _ ((I.ys k x h0).at_ _ hb1));exact I.inj k k' x x' b h0 h'0 hb1 hb2;show 0<=k/\k<((X.os.set i _).length:Nat);rw[Zx];exact I.rw k hk
def Ti.on(I:Ti n w X m r)(hy:X.os[i]?=some y)(ea:y.att=some a)(ed:y.d=some D)(op:(X.K.A a).op=true)(st:(X.K.A a).st=none)(hs:y.sg="in")(n0:1<=n)(n1:n<=6)(w0:2<=w):Ti n w (tOn n w X i y D a).2 (m+1) (r+1):=by
 have Y:=I.ys i y hy;have ha:=Y.at_ a ea;have hD:=Y.dw D ed;have tk:=I.tk;unfold tOn;cases hd:iK D with
 |none=>
  dsimp only;unfold qQ;obtain⟨ps,hps⟩:∃ps,ps=ppL n ⟨D.hs,D.ps,[]⟩:=⟨_,rfl⟩;rw[<-hps];have hpb:∀e∈ps,0<=e.1/\e.1<n:=fun e h=>by rw[hps]at h;have:=vw h;exact⟨this.1,this.2.1⟩
  have hpl:ps.length<=6:=by rw[hps];exact Ag hD.hw.wf ⋯ n1
  split;exact I.mono;obtain⟨I3,i3,o3,st3,ot3,ev3,ho3,tk3⟩:=rj a ps X.K I.k ha st (fun e h=>by have:=hpb e h;omega);have hk:Ki (cE (dq X.K a ps) a).2 n.toNat:=I3.take (by rw[i3];exact ha) st3;have hi:(cE (dq X.K a ps) a).2.ids=X.K.ids:=AS.trans i3;have ho:∀x,x≠a->(cE (dq X.K a ps) a).2.A x=X.K.A x:=fun x hx=>(D9 hx).trans (ot3 x hx);have hb:Kb (cE (dq X.K a ps) a).2 (8*(m+1)):=(Kb.call (k:=.tk a) (AU (a:=a) ps X.K _ I.b)).mono ⋯;have ht:(cE (dq X.K a ps) a).2.tk<=m+1:=by have:=D6 (K:=dq X.K a ps) (a:=a);rw[tk3]at this;omega
  split;exact I.fell hy ea hi ho hk hb ht;rename_i h1;split;exact I.done hy ea ed hi ho hk hb ht;rename_i h2;obtain⟨p1,p2⟩:=D4 h1 h2;exact I.step (y':={ y with sg:="taken" }) hy ea rfl hi ho rfl rfl rfl Y.dw (.tk rfl ea ed (by show((cE (dq X.K a ps) a).2.A a).op=true;rw[p1,o3];exact op) p2) hk hb ht (fun k hk=>.inl hk) (Xg _)
 |some u=>
  dsimp only;split;rename_i hk;have hk':Iy u=true:=by unfold pJ at hk;exact(Yj.mp hk).1
  obtain⟨g,b,rfl,g0,g1,b0,b1⟩:=hD.ask hd hk';have hb':lkB (k7.u (.look g b))=b:=rfl;rw[hb'];unfold qR;split;exact I.mono;have hK:Ki (dJ X.K a b).2 n.toNat:=I.k.look ha st b0 ⋯;have hB:Kb (dJ X.K a b).2 (8*(m+1)):=(Kb.call (k:=.lk a b) I.b).mono ⋯;have hT:(dJ X.K a b).2.tk<=m+1:=by rw[Ea];omega
  rcases AW X.K a b with hc|⟨v,hc⟩;rw[hc];exact I.fell hy ea (oz _ _ _) (fun x hx=>xl hx) hK hB hT;rw[hc];obtain⟨p1,p2⟩:=Eb hc;have hD2:DgW n w (rS D v):=(xq (v:=v) (cD:=⟨0,[]⟩) (S:=[dOb ⟨0,[]⟩ w n D,.dic (dT [])]) (i:=0) (ll:=1) (lk:=[]) hD rfl rfl hd hk').2;exact I.step (y':={ y with d:=some (rS D v) }) hy ea rfl (oz _ _ _) (fun x hx=>xl hx) rfl rfl rfl (fun E h=>by cases h;exact hD2) (.go hs ea rfl (by show((dJ X.K a b).2.A a).op=true;rw[p1];exact op) (by show((dJ X.K a b).2.A a).st=none;rw[p2];exact st)) hK hB hT (fun k hk=>.inl hk) (Xg _);rename_i hk;have hk2:pJ D u=false:=by simpa using hk
  obtain⟨_,hD2⟩:=FX hD w0 n1 hd hk2;split;exact I.step (y':={ y with d:=some (dDo w n D).2 }) hy ea rfl rfl (fun x hx=>rfl) rfl rfl rfl (fun E h=>by cases h;exact hD2) (.go hs ea rfl op st) I.k (I.b.mono ⋯) (by show X.K.tk<=_;omega) (fun k hk=>.inl hk) (Xg _);exact I.slept hy ea hD2
def Ti.writ(I:Ti n w X m r)(hy:X.os[i]?=some y)(ea:y.att=some a)(ed:y.d=some D)(op:(X.K.A a).op=true)(st:(X.K.A a).st.isSome=true)(hs:y.sg="taken"):Ti n w (qP X i y a).2 (m+1) (r+1):=by
 have Y:=I.ys i y hy;have ha:=Y.at_ a ea;have tk:=I.tk;have hK:Ki (bO X.K a).2 n.toNat:=I.k.write ha op st;have hB:Kb (bO X.K a).2 (8*(m+1)):=(Kb.call (k:=.wr a) I.b).mono ⋯;have hT:(bO X.K a).2.tk<=m+1:=by rw[AR];omega
 unfold qP;split;exact I.done hy ea ed qw (fun x hx=>ue hx) hK hB hT;rename_i hd;obtain⟨p1,p2⟩:=AQ hd;refine I.step (y':=y) hy ea ?_ qw (fun x hx=>ue hx) rfl rfl rfl Y.dw (.tk hs ea ed (by show((bO X.K a).2.A a).op=true;rw[p1];exact op) (by show((bO X.K a).2.A a).st.isSome=true;rw[p2];exact st)) hK hB hT (fun k hk=>.inl hk) (Xg _);show X.os=X.os.set i y;have li:=(Q6.mp hy);obtain⟨l,e⟩:=li;rw[<-e,List.set_getElem_self]
def Ti.go(I:Ti n w X m r)(hy:X.os[i]?=some y)(n0:1<=n)(n1:n<=6)(w0:2<=w):Ti n w (yN n w X i y).2 (m+1) (r+2):=by
 have up:∀{Z:Tc} {s:Nat},Ti n w Z (m+1) s->s<=r+2->Ti n w Z (m+1) (r+2):=fun h l=>⟨h.k,h.b,h.tk,h.il,h.be,h.ids,h.ys,h.inj,h.rw,by have:=h.rl;omega⟩;have eO:(jx X i).os=X.os:=by unfold jx;split<;>rfl
 have eK:(jx X i).K=X.K:=by unfold jx;split<;>rfl
 have I2:=I.row hy;have hy2:(jx X i).os[i]?=some y:=by rw[eO];exact hy
 unfold yN;split;exact up I.mono ⋯;rename_i nd;split;exact up I.mono ⋯;split;exact up I2.mono ⋯;cases (I2.ys i y hy2).sg with
 |out hs=>
  rw[Xf (by rw[hs];exact FC),Xf (by rw[hs];exact FA)];exact up (I2.begun hy2) ⋯
 |sl hs ea=>
  rw[Xf (by rw[hs];exact LH),Xf (by rw[hs];exact LG)];exact up (I2.begun hy2) ⋯
 |dn hs=>exact absurd hs nd
 |go hs ea ed op st=>
  rw[Xd hs,ea,ed];exact up (I2.on hy2 ea ed op st hs n0 n1 w0) ⋯
 |tk hs ea ed op st=>
  rw[Xf (by rw[hs];exact LC),Xd hs,ea];exact up (I2.writ hy2 ea ed op st hs) ⋯
end
def dnK(X:Tc):Nat->List (Int×Int)
 |0=>[]
 |k+1=>match X.os[k]? with
  |some y=>if y.sg="done" then gB (dnK X k) (y.att.getD 0) (k:Int)else dnK X k
  |none=>dnK X k
def jc(X:Tc):List Int:=((eP X.K).filter fun a=>(bF (dnK X X.os.length) a).isSome).map fun a=>(bF (dnK X X.os.length) a).getD 0
def wJ(X:Tc):Bool:=X.os.all fun y=>decide (y.sg="done")||slp X y
def yg(y:Tyg):U:=if y.sg="done" then .tup ((y.d.getD d00).hs.map U.int)else .non
def rsV(X:Tc)(i:Nat):Bool:=match X.os[i]? with
 |some y=>decide (y.sg="done")||slp X y
 |none=>true
def zU{X:Tc}{i:Nat}{y:Tyg}(h:X.os[i]?=some y):rsV X i=(decide (y.sg="done")||slp X y):=by unfold rsV;rw[h]
def Bv(X:Tc):∀k,(dnK X k).length<=k
 |0=>Z6 _
 |k+1=>by
  have ih:=Bv X k;unfold dnK;split;split;exact Zw (qX _ _ _) ⋯;omega;omega
def yA{m:Nat}{f:Nat->U}:yB ((ZF m).map f)=(List.range' 0 m).map fun i=>.tup [.int (i:Int),f i]:=by
 unfold yB;refine YW fun k=>?_;rw[ZP,ZP,List.getElem?_zipIdx,ZP];by_cases h:k<m;rw[XS h,List.getElem?_range' h];simp;rw[XW (by simp;omega),XW (by simp;omega)];rfl
section
variable{n w:Int}{o:Nat->Nat}{q:Int->Nat->Nat}{m:Nat}{zO:O}
def uW(z:Cz):Fn:=fnU 1 1 (j4 (B2 z.K) z.K z.T)
def zG(M:Mm pos c T)(R:Tr z j n w pos c X p q t o lr ld):uW z [.ref (t 0)] T=some (.ref T.length,T++[.lst X.K.ev]):=by
 have t0:=M.get R.pT R.cT;have k0:=M.get (R.kr.pk 0 ∅) R.kr.c0;have e:=Ih M R.kr;unfold tO' at t0;unfold uW;rw[pI];rwa[j4,t0,k0,e]
def BY(z:Cz):Fn:=fnU 1 1 (j3 (B1 z.K) z.K z.T)
def G6(M:Mm pos c T)(R:Tr z j n w pos c X p q t o lr ld):BY z [.ref (t 0)] T=some (.tup (X.K.bx.map U.int),T):=by
 have t0:=M.get R.pT R.cT;have k0:=M.get (R.kr.pk 0 ∅) R.kr.c0;have e:=Ig M R.kr;unfold tO' at t0;unfold BY;rw[pI];rwa[j3,t0,k0,e]
def m7(z:Cz):Fn:=fnU 2 2 (iQ z.Y z.T)
def zI(M:Mm pos c T)(R:Tr z j n w pos c X p q t o lr ld)(hy:X.os[i]?=some y):m7 z [.ref (t 0),.int i] T=some (.int y.fa,T):=by
 have t0:=M.get R.pT R.cT;have t1:=M.get R.pO R.cO;have ty:=M.get (R.py i y hy) (R.cy i y hy);have ao:=yQ (o:=o) hy;unfold tO' at t0;unfold yO at ty;unfold m7;rw[kW];rwa[iQ,t0,t1,ao,ty]
def mZ(z:Cz):Fn:=fnU 3 2 (fY z.T z.Y z.D)
def zH(M:Mm pos c T)(R:Tr z j n w pos c X p q t o lr ld)(hy:X.os[i]?=some y)(hs:Sg X.K y):mZ z [.ref (t 0),.int i] T=some (yg y,T):=by
 have t0:=M.get R.pT R.cT;have t1:=M.get R.pO R.cO;have ty:=M.get (R.py i y hy) (R.cy i y hy);have ao:=yQ (o:=o) hy;unfold tO' at t0;unfold yO at ty;unfold mZ yg;rw[oI];by_cases h:y.sg="done";obtain⟨D,ed⟩:∃D,y.d=some D:=by
  cases hs with
  |out h'=>rw[h']at h;exact absurd h wY
  |go h'=>rw[h']at h;exact absurd h Az
  |tk h'=>rw[h']at h;exact absurd h Ay
  |sl h'=>rw[h']at h;exact absurd h vC
  |dn h' ea ed=>exact⟨_,ed⟩
 have td:=M.get (R.pd i y D hy ed) (R.cd i y D hy ed);unfold dOb dO at td;rw[ed]at ty ⊢;rw[Xd h];have dd:=Xc h;simp only[duU]at ty;rwa[fY,t0,t1,ao,ty,dd,td,XQ];rw[Xf h];have dd:=Xa h;rwa[fY,t0,t1,ao,ty,dd]
def sf(z:Cz):Fn:=fnU 1 1 (fW (BZ z) z.T z.Y)
def zF(M:Mm pos c T)(R:Tr z j n w pos c X p q t o lr ld)(I:Ki X.K m)(hs:∀(i:Nat) (y:Tyg),X.os[i]?=some y->y.sg="asleep"->∃a,y.att=some a/\a∈X.K.ids)(hl:X.os.length<=900):∃G,sf z [.ref (t 0)] T=some (.bl (wJ X),T++G):=by
 have t0:=M.get R.pT R.cT;have t1:=M.get R.pO R.cO;unfold tO' at t0;have key:Wp ((fW (BZ z) z.T z.Y [uR (t 0)] T).bind kFn) fun r=>r.1=.bl (wJ X)/\∃G,r.2=T++G:=by
  unfold fW;refine Ji (QF ?_);refine CJ (cs:=[uR (t 0)]) (xs:=ZF X.os.length) (f:=fun i=>U.ref (o i)) (v:=fun i=>.bl (rsV X i)) (S1:=T) (o9 (by rwa[t0]) t1) (fun G=>aF t1) (by rw[Za];omega) rfl (fun i hi G=>?_) fun G=>?_;have li:=Zs.mp hi;have hy:X.os[i]?=some X.os[i]:=Z7 li;have M1:=M.app G;have s0:=M1.get R.pT R.cT;have sy:=M1.get (R.py i _ hy) (R.cy i _ hy);unfold tO' at s0;unfold yO at sy;rw[zU hy];generalize X.os[i]=y at hy sy;cases hd:decide (y.sg="done")with
  |true=>exact .of (r:=(.bl true,T++G)) (by rwa[sy,hd]) ⟨rfl,[],(Zj _).symm⟩
  |false=>
   obtain⟨G1,e1⟩:=Ff (i:=i) M1 R I.w hy (hs i y hy);exact .of (r:=(.bl (slp X y),T++G++G1)) (by rwa[s0,sy,hd,e1]) ⟨by rw[YS],G1,rfl⟩
  have el:(T++O.lst ((ZF X.os.length).map fun i=>U.bl (rsV X i))::G)[T.length]?=some (.lst (((ZF X.os.length).map (rsV X)).map U.bl)):=by
   rw[ga0,Zc];rfl
  refine QH el ⟨?_,_,rfl⟩;show U.bl (((ZF X.os.length).map (rsV X)).all id)=_;refine congrArg U.bl ?_;unfold wJ;rw[List.all_map];refine XI.mpr ?_;rw[XC,XC];constructor;intro h y hy;obtain⟨k,lk,e⟩:=List.getElem_of_mem hy;have:=h k (Zs.mpr lk);rw[Function.comp,id,zU (Z7 lk),e]at this;exact this;intro h k hk;have lk:=Zs.mp hk;rw[Function.comp,id,zU (Z7 lk)];exact h _ (YY lk)
 obtain⟨⟨v,T1⟩,e,rfl,G,hG⟩:=key;dsimp only at hG;subst hG;refine⟨G,?_⟩;unfold sf;rw[pI];exact e
def kY(z:Cz)(zO:O):Fn:=fnU 4 1 (fX (kZ z.K z.A zO) z.T z.Y z.K)
def sZ{l0:Nat}(M:Mm pos c T)(R:Tr z j n w pos c X p q t o lr ld)(hz:T[l0]?=some zO)(h64:X.K.ids.length<64)(hl:X.os.length<=900)(hs:∀(i:Nat) (y:Tyg),X.os[i]?=some y->Sg X.K y):∃G l,kY z zO [.ref (t 0)] T=some (.ref l,T++G)/\(T++G)[l]?=some (.lst ((jc X).map U.int))/\T.length<=l:=by
 have t0:=M.get R.pT R.cT;have t1:=M.get R.pO R.cO;have k0:=M.get (R.kr.pk 0 ∅) R.kr.c0;unfold tO' at t0;have key:Wp ((fX (kZ z.K z.A zO) z.T z.Y z.K [uR (t 0),none,none,none] T).bind kFn) fun r=>∃G l,r.1=.ref l/\r.2=T++G/\(T++G)[l]?=some (.lst ((jc X).map U.int))/\T.length<=l:=by
  unfold fX;rw[eL (ρ':=[uR (t 0),uR T.length,none,none]) (S':=T++[.dic []]) (by rwa[])];have lp:Wp (oP (vK (aT z.T 3 (ak 0))) (gTp [2,3]) (eI (kZ z.K z.A zO) z.T z.Y z.K) [uR (t 0),uR T.length,none,none] (T++[.dic []])) fun s=>s.1=.nx/\∃r2 r3,s.2.1=[uR (t 0),uR T.length,r2,r3]/\s.2.2=T++[.dic (dI (dnK X X.os.length))]:=by
   have ei:vK (aT z.T 3 (ak 0)) [uR (t 0),uR T.length,none,none] (T++[.dic []])=some ((List.range' 0 X.os.length).map (fun i:Nat=>U.tup [.int (i:Int),.ref (o i)]),fun S=>S[t 1]?=some (.lst ((ZF X.os.length).map fun i=>U.ref (o i))),T++[.dic []]):=by
    have s0:=aF (r:=[O.dic []]) t0;have s1:=aF (r:=[O.dic []]) t1;have ef:aT z.T 3 (ak 0) [uR (t 0),uR T.length,none,none] (T++[.dic []])=some (.ref (t 1),T++[.dic []]):=by rwa[s0]
    unfold vK;rw[ef,Z0];simp only[Jj,s1,Z0,yA]
   refine MV ei (CH (fun xs ρ S=>∃k r2 r3,k<=X.os.length/\xs=List.range' k (X.os.length-k)/\ρ=[uR (t 0),uR T.length,r2,r3]/\S=T++[.dic (dI (dnK X k))]) (fun ρ S h=>?_) (fun x xs ρ S h=>?_) _ _ _ ⟨0,none,none,Zp _,rfl,rfl,rfl⟩);obtain⟨k,r2,r3,hk,hx,rfl,rfl⟩:=h;have:X.os.length-k=0:=by
    have:=congrArg List.length hx;rw[XF,List.length_range']at this;omega
   have ek:k=X.os.length:=by omega
   subst ek;exact⟨aF t1,rfl,r2,r3,rfl,rfl⟩;obtain⟨k,r2,r3,hk,hx,rfl,rfl⟩:=h;have hlt:k<X.os.length:=by
    have:=congrArg List.length hx;rw[ZZ,List.length_range']at this;omega
   rw[show X.os.length-k=(X.os.length-(k+1))+1 by omega,List.range'_succ]at hx;obtain⟨rfl,rfl⟩:=List.cons.inj hx;have hy:X.os[x]?=some X.os[x]:=Z7 hlt;have sg:=hs x _ hy;have sy:=aF (r:=[O.dic (dI (dnK X x))]) (M.get (R.py x _ hy) (R.cy x _ hy));unfold yO at sy;have en:dnK X (x+1)=if (X.os[x]).sg="done" then gB (dnK X x) ((X.os[x]).att.getD 0) (x:Int)else dnK X x:=by
    rw[dnK,hy]
   refine⟨aF t1,.of (r:=([uR (t 0),uR T.length,uI (x:Int),uR (o x)],T++[.dic (dI (dnK X x))])) rfl ?_⟩;have hL:(dI (dnK X x)).length<LIM:=by unfold dI;rw[Q7];have:=Bv X x;unfold LIM;omega
   generalize X.os[x]=y at hy sg sy en;by_cases hd:y.sg="done";obtain⟨a,ea⟩:∃a,y.att=some a:=by
    cases sg with
    |out h'=>rw[h']at hd;exact absurd hd wY
    |go h'=>rw[h']at hd;exact absurd hd Az
    |tk h'=>rw[h']at hd;exact absurd hd Ay
    |sl h'=>rw[h']at hd;exact absurd hd vC
    |dn h' ea ed=>exact⟨_,ea⟩
   rw[Xd hd,ea,XQ]at en;rw[ea]at sy;simp only[stU]at sy;have dd:=Xc hd;refine .of (r:=(.nx,[uR (t 0),uR T.length,uI (x:Int),uR (o x)],T++[.dic (dI (dnK X (x+1)))])) ?_ (.inl ⟨rfl,x+1,_,_,hlt,rfl,rfl,rfl⟩);rw[en,<-Ae];rwa[eI,sy,dd,hL,if_true];rw[Xf hd]at en;have dd:=Xa hd;refine .of (r:=(.nx,[uR (t 0),uR T.length,uI (x:Int),uR (o x)],T++[.dic (dI (dnK X (x+1)))])) ?_ (.inl ⟨rfl,x+1,_,_,hlt,rfl,rfl,rfl⟩);rw[en];rwa[eI,sy,dd]
  obtain⟨⟨ot,ρ1,T1⟩,e1,h1,r2,r3,h2,h3⟩:=lp;dsimp only at h1 h2 h3;subst h1 h2;rw[eL e1];have M1:=M.app [.dic (dI (dnK X X.os.length))];rw[<-h3]at M1;have s0:=M1.get R.pT R.cT;have sk:=M1.get (R.kr.pk 0 ∅) R.kr.c0;unfold tO' at s0;have hz1:T1[l0]?=some zO:=by rw[h3];exact aF hz
  have e2:=AJ M1 R.kr hz1 h64;have sd:T1[T.length]?=some (.dic (dI (dnK X X.os.length))):=by rw[h3,ga0];rfl
  have gl:(T1++[O.lst ((eP X.K).map U.int)])[T1.length]?=some (.lst ((eP X.K).map U.int)):=by rw[ga0];rfl
  have kl:(eP X.K).length<=9000:=by
   unfold eP qT;rw[Q7,(gq _).length_eq,Za,Q7];omega
  have hT1:T1.length=T.length+1:=by rw[h3,ZY];rfl
  refine Ji (zy (cs:=[uR T.length]) (xs:=eP X.K) (f:=U.int) (p:=fun a=>(bF (dnK X X.os.length) a).isSome) (v:=fun a=>.int ((bF (dnK X X.os.length) a).getD 0)) (S1:=T1++[.lst ((eP X.K).map U.int)]) (o9 (l:=T1.length) (by rwa[s0,sk,e2]) gl) (fun G=>aF gl) kl rfl (fun a ha G=>?_) fun G=>?_);have sd2:=aF (r:=G) (aF (r:=[O.lst ((eP X.K).map U.int)]) sd);refine .of (r:=((bF (dnK X X.os.length) a).isSome,T1++[.lst ((eP X.K).map U.int)]++G)) ?_ ⟨rfl,[],(Zj _).symm,fun hv=>?_⟩;generalize T1++[O.lst ((eP X.K).map U.int)]++G=S at sd2;rwa[sd2,j8,Option.isSome_map,Xq,if_false];rw[Zj];obtain⟨v,ev⟩:=Zl.mp hv;rw[ev];refine .of (r:=(.int v,T1++[.lst ((eP X.K).map U.int)]++G)) ?_ ⟨rfl,[],(Zj _).symm⟩;generalize T1++[O.lst ((eP X.K).map U.int)]++G=S at sd2;rwa[sd2,j8,ev,XR];refine⟨.dic (dI (dnK X X.os.length))::.lst ((eP X.K).map U.int)::.lst ((jc X).map U.int)::G,_,rfl,?_,?_,?_⟩;rw[h3];unfold jc;rw[Zc];simp;have:T++O.dic (dI (dnK X X.os.length))::O.lst ((eP X.K).map U.int)::O.lst ((jc X).map U.int)::G=(T1++[O.lst ((eP X.K).map U.int)])++(O.lst ((jc X).map U.int)::G):=by rw[h3];simp
  rw[this,ga0];rfl;rw[ZY];omega
 obtain⟨⟨v,T1⟩,e,G,l,h1,h2,h3,h4⟩:=key;dsimp only at h1 h2;subst h1 h2;refine⟨G,l,?_,h3,h4⟩;unfold kY;rw[Er];exact e
end
def wk(dl:List U):Tyg:=⟨dl,none,none,"out",0,0⟩
def CO(st:List Int)(pa:Option Int)(dls:List (List U)):Tc:=⟨xj st,pa,0,[],dls.map wk⟩
def oS(cY:Cl):Fn:=fnU 2 2 (iN cY)
def HV{T:Sto}{dl:List U}(hz:CzO z):iD z.Y (oS z.Y) [.tup dl] T=some (.ref T.length,T++[yO z.Y (wk dl) 0]):=by
 rw[sR,hz.Y];unfold oS;rw[kW];have ey:yO z.Y (wk dl) 0=.ins z.Y [some (.tup dl),some .non,some .non,some (.str "out"),uI 0,uI 0]:=rfl;rw[ey];rwa[iN,ZQ]
def t8{ll lo:Nat}{us:List U}{sd:Pl}(hz:CzO z)(sd1:sd≠tp j 0 1)(sd2:∀i,sd≠tp j 1 i):∀(ds ds0:List (List U)) (pos:Pl->Option Nat) (c:Pl->O) (S:Sto) (o:Nat->Nat) (ρ:Rho),Mm pos c S->pos sd=some ll->c sd=.lst us->pos (tp j 0 1)=some lo->c (tp j 0 1)=.lst ((ZF ds0.length).map fun i=>U.ref (o i))->(∀i y,(ds0.map wk)[i]?=some y->pos (tp j 1 i)=some (o i)/\c (tp j 1 i)=yO z.Y y 0)->ds0.length+ds.length<=900->ρ.length=1->
  ∃(pos':Pl->Option Nat) (c':Pl->O) (S':Sto) (o':Nat->Nat),gC (fun S=>S[ll]?=some (.lst us)) (gNm 0) (cCB (iD z.Y (oS z.Y)) (ag (ak 0) ay)) lo (ds.map U.tup) ρ S=some S'/\Mm pos' c' S'/\pos' (tp j 0 1)=some lo/\c' (tp j 0 1)=.lst ((ZF (ds0++ds).length).map fun i=>U.ref (o' i))/\(∀i y,((ds0++ds).map wk)[i]?=some y->pos' (tp j 1 i)=some (o' i)/\c' (tp j 1 i)=yO z.Y y 0)/\(∀s,s≠tp j 0 1->(∀i,s≠tp j 1 i)->pos' s=pos s/\c' s=c s)
 |[],ds0,pos,c,S,o,ρ,M,hp,hc,hlo,hco,hy,hl,hρ=>⟨pos,c,S,o,gR (M.get hp hc),M,hlo,by rw[Zj];exact hco,by rw[Zj];exact hy,fun s _ _=>⟨rfl,rfl⟩⟩
 |d::ds,ds0,pos,c,S,o,ρ,M,hp,hc,hlo,hco,hy,hl,hρ=>by
  rw[ZZ]at hl;have M1:=M.new (tp j 1 ds0.length) (yO z.Y (wk d) 0) [];have lo1:bZ pos (tp j 1 ds0.length) S.length (tp j 0 1)=some lo:=(aw (aX ⋯)).trans hlo;have co1:aD c (tp j 1 ds0.length) (yO z.Y (wk d) 0) (tp j 0 1)=.lst ((ZF ds0.length).map fun i=>U.ref (o i)):=(ah (aX ⋯)).trans hco;have M2:=M1.set lo1 (.lst ((ZF ds0.length).map (fun i=>U.ref (o i))++[.ref S.length]));obtain⟨o2,ho2⟩:∃o2:Nat->Nat,o2=fun i=>if i=ds0.length then S.length else o i:=⟨_,rfl⟩
  have el:(ZF ds0.length).map (fun i=>U.ref (o i))++[U.ref S.length]=(ZF (ds0++[d]).length).map fun i=>U.ref (o2 i):=by
   rw[ZY,Xk,List.range_succ,Zo,ho2];congr 1;refine XD fun i hi=>?_;show _=U.ref (if i=ds0.length then _ else _);rw[Xf (by have:=Zs.mp hi;omega)];simp
  obtain⟨pos',c',S',o',e,M',q1,q2,q3,q4⟩:=t8 (us:=us) hz sd1 sd2 ds (ds0++[d]) _ _ _ o2 [some (.tup d)] M2 ((aw (sd2 _)).trans hp) (by rw[ah sd1,ah (sd2 _)];exact hc) lo1 (by rw[aG,el]) (fun i y h=>by
    rw[Zo,ZK,XU]at h;by_cases e:i<ds0.length;rw[Zh (by rw[Q7];exact e)]at h;obtain⟨h1,h2⟩:=hy i y h;rw[aw (aX ⋯),ah (aX ⋯),ah (aX ⋯),show o2 i=o i by rw[ho2];exact Xf ⋯];exact⟨h1,h2⟩;have hi:i=ds0.length:=by
     have:=(Q6.mp h).1;simp at this;omega
    subst hi;rw[Zu (by rw[Q7];exact Z6 _),Q7,Nat.sub_self]at h;cases h;rw[cI,ah (aX ⋯),aG,show o2 ds0.length=S.length by rw[ho2];exact Xd rfl];exact⟨rfl,rfl⟩) (by rw[ZY,Xk];omega) rfl
  rw[ZO,List.singleton_append]at q2 q3;refine⟨pos',c',S',o',?_,M',q1,q2,q3,fun s h1 h2=>?_⟩;rw[ZK,dR (ρ0:=[some (.tup d)]) (S0:=S) (S1:=S++[yO z.Y (wk d) 0]) (x:=.ref S.length) (ys:=(ZF ds0.length).map fun i=>U.ref (o i)) (M.get hp hc) (by
   match ρ,hρ with
   |[r],_=>rfl) (by rw[Gr,lS,sO,X8,lR,Z0,jR,sP,Z0,jQ,Z0,x4,HV hz]) (M1.get lo1 co1) (by rw[Q7,Za];unfold LIM;omega)]
  exact e;obtain⟨r1,r2⟩:=q4 s h1 h2;rw[r1,r2,aw (h2 _),ah h1,ah (h2 _)];exact⟨rfl,rfl⟩
section
variable{n w:Int}
def lM(z:Cz):Fn:=fnU 5 5 (jj (sE z.K) (oS z.Y) z.T z.K z.Y)
def vi{st:List Int}{pa:Option Int}{dls:List (List U)}{ll:Nat}{sd:Pl}(hz:CzO z)(M:Mm pos c T)(hp:pos sd=some ll)(hc:c sd=.lst (dls.map U.tup))(hs:¬wQ j sd)(hl:st.length<=900)(hd:dls.length<=900) :
  Wp (iD z.T (lM z) [.tup [.int n,.int w],.tup (st.map U.int),.ref ll,stU pa] T) fun r=>∃(pos':Pl->Option Nat) (c':Pl->O) (p:Nat->Nat) (q:Int->Nat->Nat) (t o:Nat->Nat) (lr:Nat) (ld:Nat->Nat),r.1=.ref (t 0)/\Mm pos' c' r.2/\Tr z j n w pos' c' (CO st pa dls) p q t o lr ld/\FmT j pos c pos' c':=by
 have sne:∀f i,f<4->sd≠tp j f i:=fun f i h e=>hs (by rw[e];exact .tp h);have M0:=M.new (tp j 0 0) (.ins z.T [none,none,none,none,none,none]) [];have p00:bZ pos (tp j 0 0) T.length (tp j 0 0)=some T.length:=cI;obtain⟨T0,hT0⟩:∃T0,T0=T++[O.ins z.T [none,none,none,none,none,none]]:=⟨_,rfl⟩;rw[<-hT0]at M0;have s0:=M0.get p00 aG;have M1:=M0.set p00 (.ins z.T [some (.tup [.int n,.int w]),none,none,none,none,none]);obtain⟨T1,hT1⟩:∃T1,T1=T0.set T.length (O.ins z.T [some (.tup [.int n,.int w]),none,none,none,none,none]):=⟨_,rfl⟩;rw[<-hT1]at M1;obtain⟨⟨u2,T2⟩,e2,hu2,pos2,c2,M2,R2,F2⟩:=LB (cA:=z.A) (j:=j) (st:=st) (x:=.tup [.int n,.int w]) hz.K hl M1;dsimp only at hu2 M2 e2;subst hu2;have f2:∀f i,pos2 (tp j f i)=bZ pos (tp j 0 0) T.length (tp j f i)/\c2 (tp j f i)=_:=fun f i=>F2 _ G0;have p20:pos2 (tp j 0 0)=some T.length:=(f2 0 0).1.trans p00;have s2:=M2.get p20 ((f2 0 0).2.trans aG);have M3:=M2.set p20 (.ins z.T [some (.tup [.int n,.int w]),uR T1.length,some (stU pa),none,none,none]);have lt2:=M2.lt p20;have g2:∀x:O,(T2.set T.length x)[T.length]?=some x:=fun x=>by rw[Zt,Xd rfl,Xd lt2]
 obtain⟨T3,hT3⟩:∃T3,T3=T2.set T.length (O.ins z.T [some (.tup [.int n,.int w]),uR T1.length,some (stU pa),none,none,none]):=⟨_,rfl⟩;rw[<-hT3]at M3;have R3:Kr z.K z.A j pos2 (aD c2 (tp j 0 0) (.ins z.T [some (.tup [.int n,.int w]),uR T1.length,some (stU pa),none,none,none])) (xj st) (Cd T1.length) (fun _ _=>0):=R2.fx Fx.upd;have psd:pos2 sd=some ll:=((F2 sd fun h=>hs (.inl h)).1.trans (aw (sne 0 0 ⋯))).trans hp;have csd:aD c2 (tp j 0 0) (.ins z.T [some (.tup [.int n,.int w]),uR T1.length,some (stU pa),none,none,none]) sd=.lst (dls.map U.tup):=by
  rw[ah (sne 0 0 ⋯),(F2 sd fun h=>hs (.inl h)).2,ah (sne 0 0 ⋯),ah (sne 0 0 ⋯)];exact hc
 have M4:=M3.new (tp j 0 1) (.lst []) [];obtain⟨pos5,c5,T5,o,e5,M5,q1,q2,q3,q4⟩:=t8 (lo:=T3.length) (us:=dls.map U.tup) hz (sne 0 1 ⋯) (fun i=>sne 1 i ⋯) dls [] _ _ _ (fun _=>0) [none] M4 ((aw (sne 0 1 ⋯)).trans psd) ((ah (sne 0 1 ⋯)).trans csd) cI aG (fun i y h=>by simp at h) (by rw[XF];omega) rfl;rw[Zf]at q2 q3;have p50:pos5 (tp j 0 0)=some T.length:=by
  rw[(q4 (tp j 0 0) (aX ⋯) fun i=>aX ⋯).1,aw (aX ⋯)];exact p20
 have c50:c5 (tp j 0 0)=.ins z.T [some (.tup [.int n,.int w]),uR T1.length,some (stU pa),none,none,none]:=by
  rw[(q4 (tp j 0 0) (aX ⋯) fun i=>aX ⋯).2,ah (aX ⋯),aG]
 have s5:=M5.get p50 c50;have M6:=M5.set p50 (.ins z.T [some (.tup [.int n,.int w]),uR T1.length,some (stU pa),uR T3.length,uI 0,none]);have lt5:=M5.lt p50;have g5:∀x:O,(T5.set T.length x)[T.length]?=some x:=fun x=>by rw[Zt,Xd rfl,Xd lt5]
 obtain⟨T6,hT6⟩:∃T6,T6=T5.set T.length (O.ins z.T [some (.tup [.int n,.int w]),uR T1.length,some (stU pa),uR T3.length,uI 0,none]):=⟨_,rfl⟩;rw[<-hT6]at M6;have M7:=M6.new (tp j 0 2) (.lst []) [];have p70:bZ pos5 (tp j 0 2) T6.length (tp j 0 0)=some T.length:=(aw (aX ⋯)).trans p50;have s7:=M7.get p70 ((ah (aX ⋯)).trans aG);have M8:=M7.set p70 (tO' z.T n w T1.length pa T3.length 0 T6.length);refine⟨(.ref T.length,_),?_,_,_,Cd T1.length,fun _ _=>0,fun f=>if f=0 then T.length else T3.length,o,T6.length,fun _=>0,rfl,M8,⟨?_,?_,?_,?_,?_,?_,?_,?_,?_,?_,?_⟩,?_⟩;rw[sR,hz.T];unfold lM tO';rw[Pn];have ec:bX (iTp (ak 3)) (gNm 0) (cCB (iD z.Y (oS z.Y)) (ag (ak 0) ay)) 1 [] [uR T.length,some (.tup [.int n,.int w]),some (.tup (st.map U.int)),uR ll,some (stU pa)] T3=some (.ref T3.length,T5):=by
  unfold bX;rw[o9 (l:=ll) (us:=dls.map U.tup) (S1:=T3) (by rwa[]) (M3.get psd csd),Z0];show Option.bind (gC _ _ _ _ _ [none] _) _=_;rw[e5];rfl
 obtain⟨ss,hss⟩:∃ss,ss=st.map U.int:=⟨_,rfl⟩;rw[<-hss]at e2 ec ⊢;rwa[jj,ZQ,hT0.symm,s0,hT1.symm,e2,s2,g2,XY,hT3.symm,ec,s5,g5,hT6.symm,s7];exact(R3.fx fun s hs=>by
  have h1:s≠tp j 0 1:=hs _ _;have h2:∀i,s≠tp j 1 i:=fun i=>hs _ _;have h0:s≠tp j 0 0:=hs _ _;have h3:s≠tp j 0 2:=hs _ _;obtain⟨a1,a2⟩:=q4 s h1 h2;rw[aw h3,a1,aw h1,ah h0,ah h3,ah h0,a2,ah h1];exact⟨rfl,rfl⟩)
 exact p70;show bZ pos5 (tp j 0 2) T6.length (tp j 0 1)=some T3.length;rw[aw (aX ⋯)];exact q1;exact cI;rw[aG];rfl;rw[ah (aX ⋯),ah (aX ⋯),ah (aX ⋯),q2];show _=O.lst ((ZF (dls.map wk).length).map _);rw[Q7];rw[ah (aX ⋯),aG];rfl;intro i y h;rw[aw (aX ⋯)];exact(q3 i y h).1;intro i y h;rw[ah (aX ⋯),ah (aX ⋯),ah (aX ⋯)];exact(q3 i y h).2;intro i y D h h';obtain⟨d,hd',rfl⟩:=Zr.mp (XJ (show(dls.map wk)[i]?=some y from h));cases h';intro i y D h h';obtain⟨d,hd',rfl⟩:=Zr.mp (XJ (show(dls.map wk)[i]?=some y from h));cases h';intro s hs';have nt:∀f i,f<4->s≠tp j f i:=fun f i h e=>hs' (by rw[e];exact .tp h);obtain⟨a1,a2⟩:=q4 s (nt 0 1 ⋯) fun i=>nt 1 i ⋯;obtain⟨b1,b2⟩:=F2 s fun h=>hs' (.inl h);rw[aw (nt 0 2 ⋯),a1,aw (nt 0 1 ⋯),b1,aw (nt 0 0 ⋯),ah (nt 0 0 ⋯),ah (nt 0 2 ⋯),ah (nt 0 0 ⋯),a2,ah (nt 0 1 ⋯),ah (nt 0 0 ⋯),b2,ah (nt 0 0 ⋯),ah (nt 0 0 ⋯)];exact⟨rfl,rfl⟩
def E7{st:List Int}{pa:Option Int}{dls:List (List U)}{e:Nat}(hs:st.length=n.toNat)(hn:n.toNat<64)(he:e<=50)(hd:∀d∈dls,∀u∈d,DU n w e u):Ti n w (CO st pa dls) 0 0:=by
 refine⟨Ki.new hs hn,Kb.new,Xe _,Z6 _,Xe _,(fun a h=>nomatch h),fun i y h=>?_,fun i i' y y' a h h' ha=>?_,(fun k h=>nomatch h),Z6 _⟩;obtain⟨d,hd',rfl⟩:=Zr.mp (XJ (show(dls.map wk)[i]?=some y from h));exact⟨⟨e,he,hd d hd'⟩,(fun D hD=>nomatch hD),(fun a h=>nomatch h),.out rfl⟩;obtain⟨d,hd',rfl⟩:=Zr.mp (XJ (show(dls.map wk)[i]?=some y from h));cases ha
end
end OQ
namespace OL
open PySem PySem.Spec PyProof.Rows L2 OG OP OQ
def DW{ok:Sto->Prop}{gg:CG}{cbd:CS}{u:U}{us:List U}{ρ ρ0 ρ1:Rho}{S S0 S1:Sto}(h:ok S)(hg:gg u ρ S=some (ρ0,S0))(hb:cbd ρ0 S0=some (.bk,ρ1,S1)):fu ok gg cbd (u::us) ρ S=some (.nx,ρ1,S1):=by
 unfold fu;rw[Xd h,hg,Z0];dsimp only;rw[hb,Z0]
def E2{α:Type}{ok:Sto->Prop}{gg:CG}{cb:CS}{f:α->U}{R:Out×Rho×Sto->Prop}(I:List α->Rho->Sto->Prop)(h0:∀ρ S,I [] ρ S->ok S/\R (.nx,ρ,S))
  (h1:∀x xs ρ S,I (x::xs) ρ S->ok S/\Wp (gg (f x) ρ S) fun r=>Wp (cb r.1 r.2) fun s=>(s.1=.nx/\I xs s.2.1 s.2.2)\/(s.1=.bk/\R (.nx,s.2.1,s.2.2))) :
  ∀(xs:List α) (ρ:Rho) (S:Sto),I xs ρ S->Wp (fu ok gg cb (xs.map f) ρ S) R
 |[],ρ,S,h=>by
  obtain⟨a,b⟩:=h0 ρ S h;exact .of (iH a) b
 |x::xs,ρ,S,h=>by
  obtain⟨a,⟨ρ0,S0⟩,e1,⟨o,ρ1,S1⟩,e2,c⟩:=h1 x xs ρ S h;rcases c with⟨c,i⟩|⟨c,q⟩;cases c;obtain⟨r,e3,q⟩:=E2 I h0 h1 xs ρ1 S1 i;exact⟨r,(jg a e1 e2).trans e3,q⟩;cases c;exact⟨_,DW a e1 e2,q⟩
def m9{c:Pl->O}{s:Pl}{o o':O}:aD (aD c s o) s o'=aD c s o':=by
 funext s';by_cases e:s'=s;subst e;rw[aG,aG];rw[ah e,ah e,ah e]
def jb{c:Pl->O}{s s':Pl}{o o':O}(h:s≠s'):aD (aD c s o) s' o'=aD (aD c s' o') s o:=by
 funext x;by_cases e:x=s;subst e;rw[ah h,aG,aG];by_cases e':x=s';subst e';rw[aG,ah e,aG];rw[ah e',ah e,ah e,ah e']
def Ds(pos:Pl->Option Nat)(c:Pl->O)(T:Sto):Prop:=∃z pu:Int,Mm pos (aD (aD c (.x 8 0) (.lst [.int pu])) (.x 9 0) (.lst [.int z])) T
variable{pos:Pl->Option Nat}{c:Pl->O}{T:Sto}{lw lp l:Nat}{s:Pl}{o:O}
def Ds.app(D:Ds pos c T)(X:Sto):Ds pos c (T++X):=let ⟨z,pu,M⟩:=D;⟨z,pu,M.app X⟩
def Ds.sip{mm:Int}(D:Ds pos c T)(hw:pos (.x 9 0)=some lw)(h0:0<mm)(h1:mm<2^60):∃d T',i9 [.ref lw,.int mm] T=some (.int d,T')/\Ds pos c T'/\0<=d/\d<mm/\∀l,l≠lw->T'[l]?=T[l]?:=by
 obtain⟨z,pu,M⟩:=D;obtain⟨d,z',e,M',d0,d1⟩:=Oy M hw aG h0 h1;rw[m9]at M';exact⟨d,_,e,⟨z',pu,M'⟩,d0,d1,fun l hl=>ZS hl.symm⟩
def Ds.get(D:Ds pos c T)(hs:pos s=some l)(n8:s≠.x 8 0)(n9:s≠.x 9 0):T[l]?=some (c s):=by
 obtain⟨z,pu,M⟩:=D;exact M.get hs ((ah n9).trans (ah n8))
def Ds.set(D:Ds pos c T)(hs:pos s=some l)(n8:s≠.x 8 0)(n9:s≠.x 9 0)(o:O):Ds pos (aD c s o) (T.set l o):=by
 obtain⟨z,pu,M⟩:=D;have M':=M.set hs o;rw[jb n9.symm,jb n8.symm]at M';exact⟨z,pu,M'⟩
def Ds.new(D:Ds pos c T)(n8:s≠.x 8 0)(n9:s≠.x 9 0)(o:O):Ds (bZ pos s T.length) (aD c s o) (T++[o]):=by
 obtain⟨z,pu,M⟩:=D;have M':=M.new s o [];rw[jb n9.symm,jb n8.symm]at M';exact⟨z,pu,M'⟩
def Ds.purse(D:Ds pos c T)(hp:pos (.x 8 0)=some lp):∃pu,T[lp]?=some (.lst [.int pu])/\∀pu':Int,Ds pos c (T.set lp (.lst [.int pu'])):=by
 obtain⟨z,pu,M⟩:=D;refine⟨pu,M.get hp ((ah nofun).trans aG),fun pu'=>⟨z,pu',?_⟩⟩;have M':=M.set hp (.lst [.int pu']);rw[jb nofun,m9]at M';exact M'
def Fe(e:Nat)(pos:Pl->Option Nat)(c:Pl->O)(pos':Pl->Option Nat)(c':Pl->O):Prop:=∀s,(∀i,i<=e->s≠.x 7 i)->pos' s=pos s/\c' s=c s
def xU(n w:Int)(e:Nat)(fd:Fn):Prop:=∀(most:Int) (pos:Pl->Option Nat) (c:Pl->O) (T:Sto) (lw lp:Nat),0<=most->most<=4->Ds pos c T->pos (.x 9 0)=some lw->pos (.x 8 0)=some lp->Wp (fd [.ref lw,.tup [.int n,.int w],.int most,.int (e:Int),.ref lp] T) fun r=>∃ds,r.1=.tup ds/\(∀u∈ds,DU n w e u)/\∃pos' c',Ds pos' c' r.2/\Fe e pos c pos' c'
structure Fo(n w:Int)(e lw lp lf:Nat)(pos:Pl->Option Nat)(c:Pl->O)(S:Sto)(ds:List U)(pos':Pl->Option Nat)(c':Pl->O):Prop where
 D:Ds pos' c' S
 pf:pos' (.x 7 e)=some lf
 cf:c' (.x 7 e)=.lst ds
 ok:∀u∈ds,DU n w e u
 fr:Fe e pos c pos' c'
variable{pos':Pl->Option Nat}{c':Pl->O}
section
variable{n w:Int}{e lf:Nat}{S S':Sto}{ds:List U}{u:U}
def Fo.ww(F:Fo n w e lw lp lf pos c S ds pos' c')(hw:pos (.x 9 0)=some lw):pos' (.x 9 0)=some lw:=(F.fr _ fun _ _=>by simp).1.trans hw
def Fo.pp(F:Fo n w e lw lp lf pos c S ds pos' c')(hp:pos (.x 8 0)=some lp):pos' (.x 8 0)=some lp:=(F.fr _ fun _ _=>by simp).1.trans hp
def Fo.st(F:Fo n w e lw lp lf pos c S ds pos' c')(D:Ds pos' c' S'):Fo n w e lw lp lf pos c S' ds pos' c':=⟨D,F.pf,F.cf,F.ok,F.fr⟩
def Fo.get(F:Fo n w e lw lp lf pos c S ds pos' c'):S[lf]?=some (.lst ds):=by rw[F.D.get F.pf nofun nofun,F.cf]
def Fo.add(F:Fo n w e lw lp lf pos c S ds pos' c')(us:List U)(h:∀u∈us,DU n w e u):Fo n w e lw lp lf pos c (S.set lf (.lst (ds++us))) (ds++us) pos' (aD c' (.x 7 e) (.lst (ds++us))):=
 ⟨F.D.set F.pf nofun nofun _,F.pf,aG,fun u hu=>(Zz.mp hu).elim (F.ok u) (h u),fun s hs=>⟨(F.fr s hs).1,by rw[ah (hs e (Z6 _))];exact(F.fr s hs).2⟩⟩
def Fo.sip{mm:Int}(F:Fo n w e lw lp lf pos c S ds pos' c')(hw:pos (.x 9 0)=some lw)(h0:0<mm)(h1:mm<2^60):∃d S',i9 [.ref lw,.int mm] S=some (.int d,S')/\Fo n w e lw lp lf pos c S' ds pos' c'/\0<=d/\d<mm/\∀l,l≠lw->S'[l]?=S[l]?:=by
 obtain⟨d,S',e,D',d0,d1,k⟩:=F.D.sip (F.ww hw) h0 h1;exact⟨d,S',e,F.st D',d0,d1,k⟩
def Fo.lt(F:Fo n w e lw lp lf pos c S ds pos' c')(hw:pos (.x 9 0)=some lw):lw<S.length:=let ⟨_,_,M⟩:=F.D;M.lt (F.ww hw)
def rhD(lw lp lf:Nat)(n w most:Int)(e:Nat)(r:List (Option U)):Rho:=(uR lw)::some (.tup [.int n,.int w])::uI most::uI (e:Int)::uR lp::uR lf::r
def EG{fd:Fn}{most:Int}{k r7 r8 r9 r10:Option U}(H:∀e',e=e'+1->xU n w e' fd)(n0:1<=n)(n1:n<=6)(w0:2<=w)(w1:w<=1000)(hw:pos (.x 9 0)=some lw)(hp:pos (.x 8 0)=some lp)(F:Fo n w e lw lp lf pos c S ds pos' c')(hl:ds.length<=100) :
  Wp (dS i9 fd (rhD lw lp lf n w most e [k,r7,r8,r9,r10]) S) fun s=>(s.1=.nx\/s.1=.bk)/\∃r ds2 pos2 c2,s.2.1=rhD lw lp lf n w most e r/\r.length=5/\Fo n w e lw lp lf pos c s.2.2 ds2 pos2 c2/\ds2.length<=ds.length+3:=by
 obtain⟨way,S1,e1,F1,y0,y1,_⟩:=F.sip (mm:=13) hw ∅ ∅;obtain⟨g,S2,e2,F2,g0,g1,k2⟩:=(F1.st (F1.D.app [.lst [.int 2,.int 2,.int 4]])).sip (mm:=3) hw ∅ ∅;obtain⟨hm,hhm,h2,h4⟩:∃hm:Int,atI [U.int 2,U.int 2,U.int 4] g=uI hm/\0<hm/\hm<=4:=by
  have:g=0\/g=1\/g=2:=by omega
  rcases this with rfl|rfl|rfl;exact⟨2,at0,∅,∅⟩;exact⟨2,at1,∅,∅⟩;exact⟨4,at2,∅,∅⟩
 have gl:S2[S1.length]?=some (.lst [.int 2,.int 2,.int 4]):=by
  rw[k2 _ (Xj (F1.lt hw)),ga0];rfl
 obtain⟨h,S3,e3,F3,h0,h1,_⟩:=F2.sip (mm:=hm) hw h2 ⋯;obtain⟨box,S4,e4,F4,b0,b1,_⟩:=F3.sip (mm:=n) hw ⋯ ⋯;obtain⟨pu,gp,hpu⟩:=F4.D.purse (F4.pp hp);unfold dS rhD;rw[eL (ρ':=rhD lw lp lf n w most e [k,uI way,r8,r9,r10]) (S':=S1) (by rwa[rhD,e1])];rw[eL (ρ':=rhD lw lp lf n w most e [k,uI way,uI h,r9,r10]) (S':=S3) (by rwa[rhD,e2,gl,hhm,e3])];rw[eL (ρ':=rhD lw lp lf n w most e [k,uI way,uI h,uI box,r10]) (S':=S4) (by rwa[rhD,e4])];by_cases hz:pu<=0;refine .of (r:=(.bk,rhD lw lp lf n w most e [k,uI way,uI h,uI box,r10],S4)) ?_ ⟨.inr rfl,_,ds,pos',c',rfl,rfl,F4,⋯⟩;have dd:=Xc hz;unfold Py;rwa[rhD,gp,dd];have sk:(dY (aR (cOp fLe (cOp fIx (ak 4) (cC (.int 0))) (cC (.int 0)))) Py bW) (rhD lw lp lf n w most e [k,uI way,uI h,uI box,r10]) S4=some (.nx,rhD lw lp lf n w most e [k,uI way,uI h,uI box,r10],S4):=by
  have dd:=Xa hz;rwa[rhD,gp,dd]
 rw[eL sk];obtain⟨F5,hF5⟩:∃x:Int,x=pu-1-2*(if decide (way=12)=true then 1 else 0):=⟨_,rfl⟩;have mu:pH (.int 2) (.int (if decide (way=12)=true then 1 else 0)) S4=some (.int (2*(if decide (way=12)=true then 1 else 0)),S4):=sQ (.inl ∅);have F6:=F4.st (hpu F5);rw[eL (ρ':=rhD lw lp lf n w most e [k,uI way,uI h,uI box,r10]) (S':=S4.set lp (.lst [.int F5])) (by rw[hF5];rwa[rhD,gp,mu])];generalize S4.set lp (.lst [.int F5])=S5 at F6;clear e1 e2 e3 e4 k2 gl gp hpu mu sk F1 F2 F3 F4 hF5 F5;have hL:ds.length<LIM:=by unfold LIM;omega
 have fin:∀(S6:Sto) (pos2:Pl->Option Nat) (c2:Pl->O) (us:List U) (r10':Option U),Fo n w e lw lp lf pos c S6 ds pos2 c2->(∀u∈us,DU n w e u)->us.length<=3->∃r ds2 pos2 c2,rhD lw lp lf n w most e [k,uI way,uI h,uI box,r10']=rhD lw lp lf n w most e r/\r.length=5/\Fo n w e lw lp lf pos c (S6.set lf (.lst (ds++us))) ds2 pos2 c2/\ds2.length<=ds.length+3:=fun S6 pos2 c2 us r10' G hu h3=>⟨_,_,pos2,_,rfl,rfl,G.add us hu,by rw[ZY];omega⟩;have one:∀{x:U},DU n w e x->∀u∈[x],DU n w e u:=fun hx u hu=>by rw[ZN.mp hu];exact hx
 have g6:=F6.get;by_cases c1:way<4;have dd:=Xc c1;refine .of (r:=(.nx,_,S5.set lf (.lst (ds++[.tup [.str "look",.int h,.int box]])))) ?_ ⟨.inl rfl,fin S5 pos' c' [_] r10 F6 (one (.pl (d:=.look h box) ⟨h0,⋯,b0,b1⟩)) (Zb rfl)⟩;rwa[rhD,dd,g6,dZ hL];have d1:=Xa c1;by_cases c2:way<7;have dd:=Xc c2;refine .of (r:=(.nx,_,S5.set lf (.lst (ds++[.tup [.str "put",.int box,.int h]])))) ?_ ⟨.inl rfl,fin S5 pos' c' [_] r10 F6 (one (.pl (d:=.put box h) ⟨h0,⋯,b0,b1⟩)) (Zb rfl)⟩;rwa[rhD,d1,dd,g6,dZ hL];have d2:=Xa c2;by_cases c3:way=7;obtain⟨v,S7,e7,F7,v0,v1,_⟩:=F6.sip (mm:=w) hw ⋯ ⋯;have dd:=Xc c3;have g7:=F7.get;refine .of (r:=(.nx,_,S7.set lf (.lst (ds++[.tup [.str "set",.int h,.int v]])))) ?_ ⟨.inl rfl,fin S7 pos' c' [_] r10 F7 (one (.pl (d:=.set h v) ⟨h0,⋯,v0,v1⟩)) (Zb rfl)⟩;rwa[rhD,d1,d2,dd,g6,e7,g7,dZ hL];have d3:=Xa c3;by_cases c4:way=8;obtain⟨v,S7,e7,F7,v0,v1,_⟩:=F6.sip (mm:=4) hw ∅ ∅;have dd:=Xc c4;have g7:=F7.get;refine .of (r:=(.nx,_,S7.set lf (.lst (ds++[.tup [.str "plus",.int h,.int v]])))) ?_ ⟨.inl rfl,fin S7 pos' c' [_] r10 F7 (one (.pl (d:=.plus h v) ⟨h0,⋯,v0,v1⟩)) (Zb rfl)⟩;rwa[rhD,d1,d2,d3,dd,g6,e7,g7,dZ hL];have d4:=Xa c4;by_cases c5:way=9;obtain⟨v,S7,e7,F7,v0,v1,_⟩:=F6.sip (mm:=3) hw ∅ ∅;have dd:=Xc c5;have g7:=F7.get;refine .of (r:=(.nx,_,S7.set lf (.lst (ds++[.tup [.str "leap",.int h,.int (1+v)]])))) ?_ ⟨.inl rfl,fin S7 pos' c' [_] r10 F7 (one (.pl (d:=.leap h (1+v)) ⟨h0,⋯,⋯,⋯⟩)) (Zb rfl)⟩;rwa[rhD,d1,d2,d3,d4,dd,g6,e7,g7,dZ hL];have d5:=Xa c5;by_cases c6:way<12
 ·have dd:=Xc c6;cases e with
  |zero=>
   have de:decide ((0:Int)<((0:Nat):Int))=false:=by decide
   refine .of (r:=(.nx,_,S5.set lf (.lst (ds++[.tup [.str "put",.int box,.int h]])))) ?_ ⟨.inl rfl,fin S5 pos' c' [_] r10 F6 (one (.pl (d:=.put box h) ⟨h0,⋯,b0,b1⟩)) (Zb rfl)⟩;rwa[rhD,d1,d2,d3,d4,d5,dd,de,g6,dZ hL]
  |succ e'=>
   have de:decide ((0:Int)<((e'+1:Nat):Int))=true:=Xc ⋯;have es:((e'+1:Nat):Int)-1=(e':Int):=by omega
   have H':=H e' rfl;obtain⟨⟨u7,S7⟩,e7,ds7,hu7,ok7,pos7,c7,D7,F7⟩:=H' 3 pos' c' S5 lw lp ∅ ∅ F6.D (F6.ww hw) (F6.pp hp);dsimp only at hu7 D7;subst hu7;have fr7:∀s,(∀i,i<=e'->s≠.x 7 i)->pos7 s=pos' s/\c7 s=c' s:=F7;obtain⟨⟨u8,S8⟩,e8,ds8,hu8,ok8,pos8,c8,D8,F8⟩:=H' 3 pos7 c7 S7 lw lp ∅ ∅ D7 ((fr7 _ fun _ _=>by simp).1.trans (F6.ww hw)) ((fr7 _ fun _ _=>by simp).1.trans (F6.pp hp));dsimp only at hu8 D8;subst hu8;have fr8:∀s,(∀i,i<=e'->s≠.x 7 i)->pos8 s=pos' s/\c8 s=c' s:=fun s hs=>⟨(F8 s hs).1.trans (fr7 s hs).1,(F8 s hs).2.trans (fr7 s hs).2⟩;have own7:∀i,i<=e'->Pl.x 7 (e'+1)≠.x 7 i:=fun i hi z=>by injection z with _ z2;omega
   have G:Fo n w (e'+1) lw lp lf pos c S8 ds pos8 c8:=⟨D8,(fr8 _ own7).1.trans F6.pf,(fr8 _ own7).2.trans F6.cf,F6.ok,fun s hs=>by
    obtain⟨a1,a2⟩:=fr8 s fun i hi=>hs i ⋯;rw[a1,a2];exact F6.fr s hs⟩
   have G7:S7[lf]?=some (.lst ds):=by
    rw[D7.get ((fr7 _ own7).1.trans F6.pf) nofun nofun,(fr7 _ own7).2,F6.cf]
   have g8:=G.get;refine .of (r:=(.nx,_,S8.set lf (.lst (ds++[.tup [.str "try",.tup ds7,.tup ds8]])))) ?_ ⟨.inl rfl,fin S8 pos8 c8 [_] (some (.tup ds7)) G (one (.tr ok7 ok8)) (Zb rfl)⟩;rwa[rhD,d1,d2,d3,d4,d5,dd,de,es,g6,e7,G7,e8,g8,dZ hL]
 have d6:=Xa c6;obtain⟨v,S7,e7,F7,v0,v1,_⟩:=F6.sip (mm:=6) hw ∅ ∅;have g7:=F7.get;by_cases c7:v=0;have dd:=Xc c7;refine .of (r:=(.nx,_,S7.set lf (.lst (ds++[.tup [.str "wait"]])))) ?_ ⟨.inl rfl,fin S7 pos' c' [_] r10 F7 (one (.pl (d:=.wait) trivial)) (Zb rfl)⟩;rwa[rhD,d1,d2,d3,d4,d5,d6,e7,dd,g7,dZ hL];have dd:=Xa c7;obtain⟨v2,hv2⟩:∃v2,v2=(h+1) % 4:=⟨_,rfl⟩;have md:∀S:Sto,uC (.int (h+1)) (.int 4) S=some (.int v2,S):=fun S=>by rw[hv2];exact xZ ∅
 have m0:0<=v2:=by omega
 have m1:v2<4:=by omega
 obtain⟨us,hus⟩:∃us:List U,us=[.tup [.str "look",.int v2,.int box],.tup [.str "leap",.int v2,.int 1],.tup [.str "wait"]]:=⟨_,rfl⟩;have F8:=F7.st (F7.D.app [.lst us]);have g8:=F8.get;have gu:(S7++[O.lst us])[S7.length]?=some (.lst us):=by rw[ga0];rfl
 have ex:lF (.ref lf) [.ref S7.length] (S7++[.lst us])=some (.non,(S7++[O.lst us]).set lf (.lst (ds++us))):=by
  simp only[lF,g8,gu];rw[Xd (by rw[hus];simp;unfold LIM;omega)]
 refine .of (r:=(.nx,_,(S7++[O.lst us]).set lf (.lst (ds++us)))) ?_ ⟨.inl rfl,fin _ pos' c' us r10 F8 (fun u hu=>?_) (by rw[hus];exact Zb rfl)⟩;rw[hus]at ex g8 ⊢;rwa[rhD,d1,d2,d3,d4,d5,d6,e7,dd,md,g7,g8,ex];rw[hus]at hu;rcases ZD.mp hu with rfl|hu;exact .pl (d:=.look v2 box) ⟨m0,m1,b0,b1⟩;rcases ZD.mp hu with rfl|hu;exact .pl (d:=.leap v2 1) ⟨m0,m1,∅,∅⟩;rw[ZN.mp hu];exact .pl (d:=.wait) trivial
def sI(fd:Fn):Fn:=fnU 11 5 (gY i9 fd)
def rR{fd:Fn}(H:∀e',e=e'+1->xU n w e' fd)(n0:1<=n)(n1:n<=6)(w0:2<=w)(w1:w<=1000):xU n w e (sI fd):=by
 intro most pos c T lw lp m0 m1 D hw hp;unfold sI;rw[MB];unfold gY;rw[eL (ρ':=rhD lw lp T.length n w most e [none,none,none,none,none]) (S':=T++[.lst []]) (by rwa[rhD])];have F0:Fo n w e lw lp T.length pos c (T++[.lst []]) [] (bZ pos (.x 7 e) T.length) (aD c (.x 7 e) (.lst [])):=⟨D.new nofun nofun _,cI,aG,(fun u h=>nomatch h),fun s hs=>⟨aw (hs e (Z6 _)),ah (hs e (Z6 _))⟩⟩;obtain⟨d,S1,e1,F1,d0,d1,_⟩:=F0.sip (mm:=most+1) hw ⋯ ⋯;have hi:bA (ag (cCB i9 (ag (ak 0) (ag (cOp i8 (ak 2) (cC (.int 1))) ay))) ay) (rhD lw lp T.length n w most e [none,none,none,none,none]) (T++[.lst []])=some ((ZF d.toNat).map fun i:Nat=>U.int (i:Int),fun _=>True,S1):=by
  rw[iI (n:=d) (S1:=S1) (by rwa[rhD,e1]) d0 ⋯,nZ]
 have lp1:Wp (oP (bA (ag (cCB i9 (ag (ak 0) (ag (cOp i8 (ak 2) (cC (.int 1))) ay))) ay)) (gNm 6) (dS i9 fd) (rhD lw lp T.length n w most e [none,none,none,none,none]) (T++[.lst []])) fun s=>s.1=.nx/\∃r ds pos' c',s.2.1=rhD lw lp T.length n w most e r/\Fo n w e lw lp T.length pos c s.2.2 ds pos' c':=by
  refine MV hi (E2 (fun xs ρ S=>∃r ds pos' c',ρ=rhD lw lp T.length n w most e r/\r.length=5/\Fo n w e lw lp T.length pos c S ds pos' c'/\ds.length+3*xs.length<=90) (fun ρ S h=>?_) (fun x xs ρ S h=>?_) _ _ _ ⟨_,[],_,_,rfl,rfl,F1,by rw[Za];show 0+_<=90;omega⟩);obtain⟨r,ds,pos',c',rfl,_,F,_⟩:=h;exact⟨trivial,rfl,r,ds,pos',c',rfl,F⟩;obtain⟨r,ds,pos',c',rfl,hr,F,hl⟩:=h;match r,hr with
  |[r6,r7,r8,r9,r10],_=>
   rw[ZZ]at hl;refine⟨trivial,.of (r:=(rhD lw lp T.length n w most e [uI (x:Int),r7,r8,r9,r10],S)) rfl ?_⟩;refine(EG (k:=(uI (x:Int))) (r7:=r7) (r8:=r8) (r9:=r9) (r10:=r10) (most:=most) H n0 n1 w0 w1 hw hp F ⋯).mono fun s hs=>?_;obtain⟨h1,r2,ds2,pos2,c2,h2,h3,h4,h5⟩:=hs;rcases h1 with h1|h1;exact .inl ⟨h1,r2,ds2,pos2,c2,h2,h3,h4,⋯⟩;exact .inr ⟨h1,rfl,r2,ds2,pos2,c2,h2,h4⟩
 obtain⟨⟨ot,ρ2,S2⟩,e2,h1,r,ds,pos',c',h2,F2⟩:=lp1;dsimp only at h1 h2 F2;subst h1 h2;rw[eL e2];have g:=F2.get;refine .of (r:=(.tup ds,S2)) ?_ ⟨ds,rfl,F2.ok,pos',c',F2.D,F2.fr⟩;rwa[rhD,g]
end
def mN:Nat->Fn
 |0=>sI fun _ _=>none
 |j+1=>sI (mN j)
def xC{n w:Int}(n0:1<=n)(n1:n<=6)(w0:2<=w)(w1:w<=1000):∀(J e:Nat),e<=J->xU n w e (mN J)
 |0,0,_=>rR (fun e' z=>nomatch z) n0 n1 w0 w1
 |J+1,0,_=>rR (fun e' z=>nomatch z) n0 n1 w0 w1
 |J+1,e+1,h=>rR (fun e' z=>by cases z;exact xC n0 n1 w0 w1 J e ⋯) n0 n1 w0 w1
def DU.mono{n w:Int}{e:Nat}{u:U}(h:DU n w e u):∀{e':Nat},e<=e'->DU n w e' u:=by
 induction h with
 |pl h=>intro e' _;exact .pl h
 |tr h1 h2 ih1 ih2=>
  intro e' he;obtain⟨f,rfl⟩:∃f,e'=f+1:=⟨e'-1,⋯⟩;exact .tr (fun u hu=>ih1 u hu ⋯) (fun u hu=>ih2 u hu ⋯)
def Ws(pos:Pl->Option Nat)(c:Pl->O)(T:Sto):Prop:=∃z:Int,Mm pos (aD c (.x 9 0) (.lst [.int z])) T
def Ft(sD:Pl)(pos:Pl->Option Nat)(c:Pl->O)(pos':Pl->Option Nat)(c':Pl->O):Prop:=∀s,s≠sD->(∀f i,6<=f->f<=8->s≠.x f i)->pos' s=pos s/\c' s=c s
section
variable{sD:Pl}
def Ws.app(D:Ws pos c T)(X:Sto):Ws pos c (T++X):=let ⟨z,M⟩:=D;⟨z,M.app X⟩
def Ws.lt(D:Ws pos c T)(h:pos s=some l):l<T.length:=let ⟨_,M⟩:=D;M.lt h
def Ws.sip{mm:Int}(D:Ws pos c T)(hw:pos (.x 9 0)=some lw)(h0:0<mm)(h1:mm<2^60):∃d T',i9 [.ref lw,.int mm] T=some (.int d,T')/\Ws pos c T'/\0<=d/\d<mm/\∀l,l≠lw->T'[l]?=T[l]?:=by
 obtain⟨z,M⟩:=D;obtain⟨d,z',e,M',d0,d1⟩:=Oy M hw aG h0 h1;rw[m9]at M';exact⟨d,_,e,⟨z',M'⟩,d0,d1,fun l hl=>ZS hl.symm⟩
def Ws.get(D:Ws pos c T)(hs:pos s=some l)(n9:s≠.x 9 0):T[l]?=some (c s):=by
 obtain⟨z,M⟩:=D;exact M.get hs (ah n9)
def Ws.set(D:Ws pos c T)(hs:pos s=some l)(n9:s≠.x 9 0)(o:O):Ws pos (aD c s o) (T.set l o):=by
 obtain⟨z,M⟩:=D;have M':=M.set hs o;rw[jb n9.symm]at M';exact⟨z,M'⟩
def Ws.new(D:Ws pos c T)(n9:s≠.x 9 0)(o:O):Ws (bZ pos s T.length) (aD c s o) (T++[o]):=by
 obtain⟨z,M⟩:=D;have M':=M.new s o [];rw[jb n9.symm]at M';exact⟨z,M'⟩
def Ws.ds(D:Ws pos c T)(pu:Int):Ds (bZ pos (.x 8 0) T.length) c (T++[.lst [.int pu]]):=by
 obtain⟨z,M⟩:=D;have M':=M.new (.x 8 0) (.lst [.int pu]) [];rw[jb nofun]at M';exact⟨z,pu,M'⟩
def Ds.ws(D:Ds pos c T):∃o,Ws pos (aD c (.x 8 0) o) T:=let ⟨z,pu,M⟩:=D;⟨_,z,M⟩
def MF{α:Type}{ok:Sto->Prop}{ce:CE}{l:Nat}{f:α->U}{cs:Rho}(St:List U->Sto->Prop)(hok:∀ys S,St ys S->ok S)
  (he:∀x ys S,St ys S->Wp (ce (some (f x)::cs) S) fun r=>r.2[l]?=some (.lst ys)/\St (ys++[r.1]) (r.2.set l (.lst (ys++[r.1])))) :
  ∀(xs:List α) (ys:List U) (S:Sto) (r0:Option U),St ys S->ys.length+xs.length<=9000->Wp (gC ok (gNm 0) ce l (xs.map f) (r0::cs) S) fun S'=>∃ys',ys'.length=ys.length+xs.length/\St ys' S'
 |[],ys,S,r0,h,_=>.of (gR (hok ys S h)) ⟨ys,rfl,h⟩
 |x::xs,ys,S,r0,h,hn=>by
  rw[ZZ]at hn;obtain⟨⟨v,S1⟩,e1,g1,h1⟩:=he x ys S h;dsimp only at g1 h1;obtain⟨S2,e2,ys',hl,h2⟩:=MF St hok he xs (ys++[v]) _ (some (f x)) h1 (by simp;omega);refine⟨S2,?_,ys',by rw[hl];simp;omega,h2⟩;rw[ZK,dR (ρ0:=some (f x)::cs) (S0:=S) (S1:=S1) (x:=v) (ys:=ys) (hok ys S h) rfl e1 g1 (by unfold LIM;omega)];exact e2
def zx{α:Type}{ci:CI}{ok:Sto->Prop}{ce:CE}{f:α->U}{ρ cs:Rho}{S S1:Sto}{xs:List α}{caps:List Nat}{Q:U×Sto->Prop}(St:List U->Sto->Prop)(hi:ci ρ S=some (xs.map f,ok,S1))(hr:sM 1 caps ρ=none::cs)(hok:∀ys S,St ys S->ok S)
  (he:∀x ys S,St ys S->Wp (ce (some (f x)::cs) S) fun r=>r.2[S1.length]?=some (.lst ys)/\St (ys++[r.1]) (r.2.set S1.length (.lst (ys++[r.1]))))
  (h0:St [] (S1++[.lst []])) (hn:xs.length<=9000) (hQ:∀ys S',ys.length=xs.length->St ys S'->Q (.ref S1.length,S')):Wp (bX ci (gNm 0) ce 1 caps ρ S) Q:=by
 obtain⟨S2,e,ys,hl,h⟩:=MF (l:=S1.length) (cs:=cs) St hok he xs [] (S1++[.lst []]) none h0 (by rw[XF];omega);refine⟨_,?_,hQ ys S2 (by rw[hl,XF,YT]) h⟩;unfold bX;rw[hi,Z0,hr];dsimp only;rw[e];rfl
def qE(fd:Fn):Fn:=fnU 6 2 (j1 i9 fd)
structure SmO(n w:Int)(st:List Int)(dls:List (List U)):Prop where
 n0:1<=n
 n1:n<=3
 w0:2<=w
 w1:w<=1000
 st:st.length=n.toNat
 d0:2<=dls.length
 d1:dls.length<=5
 ok:∀d∈dls,∀u∈d,DU n w 3 u
def zQ(W:Ws pos c T)(hw:pos (.x 9 0)=some lw)(hD:∀f i,6<=f->f<=9->sD≠.x f i):Wp (qE (mN 3) [.ref lw,.int 4] T) fun r=>∃n w st dls lo,r.1=.tup [.tup [.int n,.int w],.tup (st.map U.int),.ref lo]/\SmO n w st dls/\∃pos' c',Ws pos' c' r.2/\pos' sD=some lo/\c' sD=.lst (dls.map U.tup)/\Ft sD pos c pos' c':=by
 obtain⟨d1,T1,e1,W1,a0,a1,_⟩:=W.sip (mm:=3) hw ∅ ∅;obtain⟨n,hn⟩:∃n,n=1+d1:=⟨_,rfl⟩;obtain⟨d2,T2,e2,W2,b0,b1,k2⟩:=(W1.app [.lst [.int 2,.int 3,.int 5,.int 1000]]).sip (mm:=4) hw ∅ ∅;obtain⟨w,hw2,w0,w1⟩:∃w:Int,atI [U.int 2,U.int 3,U.int 5,U.int 1000] d2=uI w/\2<=w/\w<=1000:=by
  have:d2=0\/d2=1\/d2=2\/d2=3:=by omega
  rcases this with rfl|rfl|rfl|rfl;exact⟨2,at0,∅,∅⟩;exact⟨3,at1,∅,∅⟩;exact⟨5,at2,∅,∅⟩;exact⟨1000,at3,∅,∅⟩
 have gl:T2[T1.length]?=some (.lst [.int 2,.int 3,.int 5,.int 1000]):=by
  rw[k2 _ (Xj (W1.lt hw)),ga0];rfl
 unfold qE;rw[Mx];unfold j1;rw[eL (ρ':=[uR lw,uI 4,uI n,none,none,none]) (S':=T1) (by rw[hn];rwa[e1])];rw[eL (ρ':=[uR lw,uI 4,uI n,some (.tup [.int n,.int w]),none,none]) (S':=T2) (by rwa[e2,gl,hw2])];have cst:Wp (bX (bA (ag (ak 2) ay)) (gNm 0) (cCB i9 (ag (ak 1) (ag (cOp fIx (ak 2) (cC (.int 1))) ay))) 1 [0,3] [uR lw,uI 4,uI n,some (.tup [.int n,.int w]),none,none] T2) fun r=>∃st:List Int,st.length=n.toNat/\∃l,r.1=.ref l/\r.2[l]?=some (.lst (st.map U.int))/\∃pos' c',Ws pos' c' r.2/\Ft sD pos c pos' c':=by
  refine zx (cs:=[uR lw,some (.tup [.int n,.int w])]) (xs:=ZF n.toNat) (f:=fun i:Nat=>U.int (i:Int)) (S1:=T2) (ok:=fun _=>True) (fun ys S=>∃(st:List Int) (pos':Pl->Option Nat) (c':Pl->O),ys=st.map U.int/\Ws pos' c' S/\pos' (.x 6 0)=some T2.length/\c' (.x 6 0)=.lst ys/\Ft sD pos c pos' c') ?_ rfl (fun _ _ _=>trivial) ?_ ?_ (by rw[Za];omega) ?_;rw[iI (n:=n) (S1:=T2) (by rwa[]) ⋯ ⋯,nZ];rintro x ys S ⟨st,pos',c',rfl,W',p6,c6,F⟩;have hw':pos' (.x 9 0)=some lw:=(F _ (fun z=>hD 9 0 ⋯ ⋯ z.symm) fun f i h1 h2 z=>by injection z with z1 z2;omega).1.trans hw;obtain⟨v,S',e,W2',v0,v1,k'⟩:=W'.sip (mm:=w) hw' ⋯ ⋯;have g6:S'[T2.length]?=some (.lst (st.map U.int)):=by rw[W2'.get p6 nofun,c6]
  refine .of (r:=(.int v,S')) (by rwa[e]) ⟨g6,st++[v],pos',_,by rw[Zo];rfl,W2'.set p6 nofun _,p6,aG,fun s h1 h2=>⟨(F s h1 h2).1,by rw[ah (h2 6 0 ⋯ ⋯)];exact(F s h1 h2).2⟩⟩;exact⟨[],bZ pos (.x 6 0) T2.length,aD c (.x 6 0) (.lst []),rfl,W2.new nofun _,cI,aG,fun s h1 h2=>⟨aw (h2 6 0 ⋯ ⋯),ah (h2 6 0 ⋯ ⋯)⟩⟩;rintro ys S' hl ⟨st,pos',c',rfl,W',p6,c6,F⟩;rw[Q7,Za]at hl;exact⟨st,hl,_,rfl,by rw[W'.get p6 nofun,c6],pos',c',W',F⟩
 obtain⟨⟨u3,T3⟩,e3,st,hst,l3,rfl,g3,pos3,c3,W3,F3⟩:=cst;dsimp only at g3 W3;have hw3:pos3 (.x 9 0)=some lw:=(F3 _ (fun z=>hD 9 0 ⋯ ⋯ z.symm) fun f i h1 h2 z=>by injection z with z1 z2;omega).1.trans hw;obtain⟨us,hus⟩:∃us,us=st.map U.int:=⟨_,rfl⟩;rw[<-hus]at g3;rw[eL (ρ':=[uR lw,uI 4,uI n,some (.tup [.int n,.int w]),some (.tup us),none]) (S':=T3) (by rwa[e3,g3])];obtain⟨d4,T4,e4,W4,m0,m1,_⟩:=W3.sip (mm:=3) hw3 ∅ ∅;obtain⟨many,hmany⟩:∃many,many=2+d4:=⟨_,rfl⟩;have s3:(4:Int)-1=3:=by decide
 rw[eL (ρ':=[uR lw,uI 4,uI n,some (.tup [.int n,.int w]),some (.tup us),uI many]) (S':=T4) (by rw[hmany];rwa[e4,s3])];have cdl:Wp (bX (bA (ag (ak 5) ay)) (gNm 0) (cCB (mN 3) (ag (ak 1) (ag (ak 2) (ag (cC (.int 4)) (ag (cOp fIx (hX (ag (cC (.int 2)) (ag (cC (.int 2)) (ag (cC (.int 3)) ay)))) (cCB i9 (ag (ak 1) (ag (cC (.int 3)) ay)))) (ag (hX (ag (cC (.int 12)) ay)) ay)))))) 1 [0,3] [uR lw,uI 4,uI n,some (.tup [.int n,.int w]),some (.tup us),uI many] T4) fun r=>∃dls:List (List U),dls.length=many.toNat/\(∀d∈dls,∀u∈d,DU n w 3 u)/\∃l,r.1=.ref l/\∃pos' c',Ws pos' c' r.2/\pos' sD=some l/\c' sD=.lst (dls.map U.tup)/\Ft sD pos c pos' c':=by
  refine zx (cs:=[uR lw,some (.tup [.int n,.int w])]) (xs:=ZF many.toNat) (f:=fun i:Nat=>U.int (i:Int)) (S1:=T4) (ok:=fun _=>True) (fun ys S=>∃(dls:List (List U)) (pos':Pl->Option Nat) (c':Pl->O),ys=dls.map U.tup/\(∀d∈dls,∀u∈d,DU n w 3 u)/\Ws pos' c' S/\pos' sD=some T4.length/\c' sD=.lst ys/\Ft sD pos c pos' c') ?_ rfl (fun _ _ _=>trivial) ?_ ?_ (by rw[Za];omega) ?_;rw[iI (n:=many) (S1:=T4) (by rwa[]) ⋯ ⋯,nZ];rintro x ys S ⟨dls,pos',c',rfl,ok,W',pD,cD,F⟩;have hw':pos' (.x 9 0)=some lw:=(F _ (fun z=>hD 9 0 ⋯ ⋯ z.symm) fun f i h1 h2 z=>by injection z with z1 z2;omega).1.trans hw;obtain⟨g,S2,f2,W2',g0,g1,k2'⟩:=(W'.app [.lst [.int 2,.int 2,.int 3]]).sip (mm:=3) hw' ∅ ∅;obtain⟨e,he,he3⟩:∃e:Nat,atI [U.int 2,U.int 2,U.int 3] g=uI (e:Int)/\e<=3:=by
   have:g=0\/g=1\/g=2:=by omega
   rcases this with rfl|rfl|rfl;exact⟨2,at0,∅⟩;exact⟨2,at1,∅⟩;exact⟨3,at2,∅⟩
  have gl2:S2[S.length]?=some (.lst [.int 2,.int 2,.int 3]):=by
   rw[k2' _ (Xj (W'.lt hw')),ga0];rfl
  have n98:Pl.x 9 0≠.x 8 0:=by simp
  obtain⟨⟨u5,S5⟩,f5,ds,hu5,ok5,pos5,c5,D5,F5⟩:=xC (n:=n) (w:=w) ⋯ ⋯ w0 w1 3 e he3 4 _ c' _ lw S2.length ∅ ∅ (W2'.ds 12) ((aw n98).trans hw') cI;dsimp only at hu5 D5;subst hu5;obtain⟨o8,W5⟩:=D5.ws;have fr5:∀s,(∀f i,6<=f->f<=8->s≠.x f i)->pos5 s=pos' s/\c5 s=c' s:=fun s hs=>by
   obtain⟨q1,q2⟩:=F5 s fun i _=>hs 7 i ⋯ ⋯;exact⟨q1.trans (aw (hs 8 0 ⋯ ⋯)),q2⟩
  have hDs:∀f i,6<=f->f<=8->sD≠.x f i:=fun f i h1 h2=>hD f i h1 ⋯;have pD5:pos5 sD=some T4.length:=(fr5 sD hDs).1.trans pD;have n9:sD≠.x 9 0:=hD 9 0 ⋯ ⋯;have g5:S5[T4.length]?=some (.lst (dls.map U.tup)):=by
   rw[W5.get pD5 n9,ah (hDs 8 0 ⋯ ⋯),(fr5 sD hDs).2,cD]
  refine .of (r:=(.tup ds,S5)) (by rwa[f2,gl2,he,f5]) ⟨g5,dls++[ds],pos5,_,by rw[Zo];rfl,fun d hd u hu=>?_,W5.set pD5 n9 _,pD5,aG,fun s h1 h2=>?_⟩;rcases Zz.mp hd with h|h;exact ok d h u hu;rw[ZN.mp h]at hu;exact DU.mono (ok5 u hu) he3;obtain⟨q1,q2⟩:=fr5 s h2;obtain⟨q3,q4⟩:=F s h1 h2;exact⟨q1.trans q3,by rw[ah h1,ah (h2 8 0 ⋯ ⋯),q2,q4]⟩;have n9:sD≠.x 9 0:=hD 9 0 ⋯ ⋯;exact⟨[],bZ pos3 sD T4.length,aD c3 sD (.lst []),rfl,(fun d hd=>nomatch hd),W4.new n9 _,cI,aG,fun s h1 h2=>⟨(aw h1).trans (F3 s h1 h2).1,(ah h1).trans (F3 s h1 h2).2⟩⟩;rintro ys S' hl ⟨dls,pos',c',rfl,ok,W',pD,cD,F⟩;rw[Q7,Za]at hl;exact⟨dls,hl,ok,_,rfl,pos',c',W',pD,cD,F⟩
 obtain⟨⟨u5,T5⟩,e5,dls,hdl,okd,lo,rfl,pos5,c5,W5,pD,cD,F5⟩:=cdl;dsimp only at W5;refine Ji (.of (r:=(.tup [.tup [.int n,.int w],.tup us,.ref lo],T5)) (by rwa[e5]) ⟨n,w,st,dls,lo,by rw[hus],⟨⋯,⋯,w0,w1,hst,⋯,⋯,okd⟩,pos5,c5,W5,pD,cD,F5⟩)
end
end OL
namespace OQ
open PySem PySem.Spec PyProof.Rows L2 OG OP
def hZ(n w:Int)(X:Tc)(is:List Nat):Tc:=is.foldl (fun X i=>(tGo n w X i).2) X
def gb(n w:Int):Tc->List Nat->List Str
 |_,[]=>[]
 |X,i::r=>(tGo n w X i).1::gb n w (tGo n w X i).2 r
section
variable{n w:Int}{X:Tc}{m r i:Nat}{y:Tyg}{a:Int}{D:Dc}{K:Kc}
def pS{is:List Nat}:hZ n w X (is++[i])=(tGo n w (hZ n w X is) i).2:=by unfold hZ;rw[List.foldl_append];rfl
def jT:∀(is:List Nat) (X:Tc),gb n w X (is++[i])=gb n w X is++[(tGo n w (hZ n w X is) i).1]
 |[],X=>rfl
 |k::is,X=>by
  show _::gb n w _ (is++[i])=_;rw[jT is];rfl
def pN:∀(is:List Nat) (X:Tc),(gb n w X is).length=is.length
 |[],X=>rfl
 |k::is,X=>by
  show(_::gb n w _ is).length=_;rw[ZZ,pN is,ZZ]
def Bh:(i7 X i y).os.length=X.os.length/\(i7 X i y).pa=X.pa:=by
 unfold i7;split;exact⟨Zx ..,rfl⟩;exact⟨Zx ..,rfl⟩
def mE:(jx X i).os.length=X.os.length/\(jx X i).pa=X.pa:=by unfold jx;split<;>exact⟨rfl,rfl⟩
def Lz{X:Tc}:(tOn n w X i y D a).2.os.length=X.os.length/\(tOn n w X i y D a).2.pa=X.pa:=by
 unfold tOn;split;unfold qQ;split;exact⟨rfl,rfl⟩;split;exact Bh;split;exact⟨Zx ..,rfl⟩;exact⟨Zx ..,rfl⟩;split;unfold qR;split;exact⟨rfl,rfl⟩;split;exact⟨Zx ..,rfl⟩;exact Bh;split;exact⟨Zx ..,rfl⟩;refine⟨?_,rfl⟩;show((X.os.set i _).set i _).length=_;rw[Zx,Zx]
def IG:(tGo n w X i).2.os.length=X.os.length/\(tGo n w X i).2.pa=X.pa:=by
 unfold tGo;split;unfold yN;split;exact⟨rfl,rfl⟩;split;exact⟨rfl,rfl⟩;split;exact mE;split;exact⟨Lz.1.trans mE.1,Lz.2.trans mE.2⟩;split;unfold qP;split;exact⟨(Zx ..).trans mE.1,mE.2⟩;exact mE;exact⟨(Zx ..).trans mE.1,mE.2⟩;exact⟨rfl,rfl⟩
def vn:∀(is:List Nat) (X:Tc),(hZ n w X is).os.length=X.os.length/\(hZ n w X is).pa=X.pa
 |[],X=>⟨rfl,rfl⟩
 |k::is,X=>by
  obtain⟨h1,h2⟩:=vn is (tGo n w X k).2;exact⟨h1.trans IG.1,h2.trans IG.2⟩
def Ti.runs(n0:1<=n)(n1:n<=6)(w0:2<=w):∀(is:List Nat) (X:Tc) (m r:Nat),Ti n w X m r->(∀i∈is,i<X.os.length)->Ti n w (hZ n w X is) (m+is.length) (r+2*is.length)
 |[],X,m,r,I,_=>I
 |i::is,X,m,r,I,h=>by
  have hi:=h i ZG;have hy:X.os[i]?=some X.os[i]:=Z7 hi;have e:tGo n w X i=yN n w X i X.os[i]:=by unfold tGo;rw[hy]
  have I2:=I.go hy n0 n1 w0;rw[<-e]at I2;have:=Ti.runs n0 n1 w0 is (tGo n w X i).2 (m+1) (r+2) I2 fun k hk=>by rw[IG.1];exact h k (ZJ _ hk)
  rw[ZZ,show m+(is.length+1)=m+1+is.length by omega,show r+2*(is.length+1)=r+2+2*is.length by omega];exact this
def twL:List Str:=["","idle","asleep","held","begun","went","fell","slept","took","wrote","done"]
def Ke:(qQ n X i y D a).1∈twL:=by
 unfold qQ;split
 (dsimp only;decide +kernel)
 ·split
  (dsimp only;decide +kernel)
  ·split<;>(dsimp only;decide +kernel)
def QU:(tOn n w X i y D a).1∈twL:=by
 unfold tOn;split;exact Ke
 ·split
  ·unfold qR;split
   (dsimp only;decide +kernel)
   ·split<;>(dsimp only;decide +kernel)
  ·split<;>(dsimp only;decide +kernel)
def QX:(tGo n w X i).1∈twL:=by
 unfold tGo;split
 ·unfold yN;split
  (dsimp only;decide +kernel)
  ·split
   (dsimp only;decide +kernel)
   ·split
    (dsimp only;decide +kernel)
    ·split;exact QU
     ·split
      ·unfold qP;split<;>(dsimp only;decide +kernel)
      (dsimp only;decide +kernel)
 (dsimp only;decide +kernel)
def zr:∀(is:List Nat) (X:Tc),∀s∈gb n w X is,s∈twL
 |[],X,s,h=>nomatch h
 |k::is,X,s,h=>by
  rcases ZD.mp h with rfl|h;exact QX;exact zr is _ s h
def Kd{s:Str}{S:Sto}{k:Nat}(h:s∈twL):Lay k S (.str s):=.str (by
 have:twL.all (fun w=>PyData.strOk w)=true:=by decide +kernel
 exact XC.mp this s h)
def EvA(K:Kc):Prop:=∀x∈K.ev,EvL x
def EvA.call{k:Kl}(h:EvA K):EvA (Ir K k).2:=IM h
def EvA.puts(a:Int):∀(ps:List (Int×Int)) (K:Kc),EvA K->EvA (dq K a ps)
 |[],K,h=>h
 |e::ps,K,h=>EvA.puts a ps (vI K a e.1 e.2) (EvA.call (k:=.pt a e.1 e.2) h)
def EvA.fall(h:EvA K):EvA (Ed K a):=kb h (.two _ ∅ _)
def FN:(i7 X i y).K=X.K:=by unfold i7;split<;>rfl
def OB:(jx X i).K=X.K:=by unfold jx;split<;>rfl
def EvA.on{X:Tc}(h:EvA X.K):EvA (tOn n w X i y D a).2.K:=by
 unfold tOn;split
 ·unfold qQ;have h2:EvA (cE (dq X.K a (ppL n ⟨D.hs,D.ps,[]⟩)) a).2:=EvA.call (k:=.tk a) (EvA.puts a _ _ h);split;exact h
  ·split;rw[FN];exact h2
   ·split<;>exact h2
 split;unfold qR;have h2:∀b,EvA (dJ X.K a b).2:=fun b=>EvA.call (k:=.lk a b) h;split;exact h;split;exact h2 _;rw[FN];exact h2 _;split;exact h;exact h.fall
def EvA.go{X:Tc}(h:EvA X.K):EvA (tGo n w X i).2.K:=by
 have h1:EvA (jx X i).K:=by rw[OB];exact h
 unfold tGo;split
 ·unfold yN;split;exact h
  ·split;exact h
   ·split;exact h1
    ·split;exact h1.on
     ·split
      ·unfold qP;split<;>exact EvA.call (k:=.wr _) h1
      exact EvA.call (k:=.bg _) h1
 exact h
def EvA.runs:∀(is:List Nat) (X:Tc),EvA X.K->EvA (hZ n w X is).K
 |[],X,h=>h
 |k::is,X,h=>EvA.runs is _ h.go
end
def Lay.bl{b:Bool}{S:Sto}{k:Nat}:Lay k S (.bl b):=⟨_,.bl b,rfl,Zp _⟩
def Lay.non{S:Sto}{k:Nat}:Lay k S .non:=⟨_,.non,rfl,Zp _⟩
def DU.lay{n w:Int}{e:Nat}{u:U}{S:Sto}(h:DU n w e u):Lay (2*e+1) S u:=by
 induction h with
 |@pl e d h=>exact(Lay.deed d).mono ⋯
 |@tr e a b h1 h2 ih1 ih2=>
  refine Lay.mono (.tup fun u hu=>?_) (show 2*e+2+1<=2*(e+1)+1 by omega);simp only[ZD,XB,or_false]at hu;rcases hu with rfl|rfl|rfl;exact .str ∅;exact .tup fun u hu=>ih1 u hu;exact .tup fun u hu=>ih2 u hu
end OQ
namespace OL
open PySem PySem.Spec PyProof.Rows L2 OG OP OQ
def Ce(X:Tc)(i:Nat):U:=match X.os[i]? with
 |some y=>.tup [.int y.fa,yg y]
 |none=>.non
def HM{X:Tc}{i:Nat}{y:Tyg}(h:X.os[i]?=some y):Ce X i=.tup [.int y.fa,yg y]:=by unfold Ce;rw[h]
def DL{X:Tc}{i:Nat}{S:Sto}:Lay 2 S (Ce X i):=by
 unfold Ce;split;rename_i y _;refine .tup fun u hu=>?_;simp only[ZD,XB,or_false]at hu;rcases hu with rfl|rfl;exact .int;unfold yg;split;exact .ints;exact .non;exact .non
variable{z:Cz}{zO:O}{j m:Nat}{pos:Pl->Option Nat}{c:Pl->O}{T:Sto}
section
variable{r l0:Nat}{n w:Int}{X:Tc}{p t o:Nat->Nat}{q:Int->Nat->Nat}{lr:Nat}{ld:Nat->Nat}
def xQ(z:Cz)(zO:O):Fn:=fnU 3 2 (lI (mZ z) (m7 z) (sf z) (BY z) (kY z zO) (uW z) z.T)
def Nq(X:Tc)(l1 l2 l3:Nat):U:=.tup [.ref l1,.ref l2,.tup (X.K.bx.map U.int),.ref l3,.bl (wJ X)]
structure yM(X:Tc)(l1 l2 l3:Nat)(S:Sto):Prop where
 a:S[l1]?=some (.lst X.K.ev)
 b:S[l2]?=some (.lst ((jc X).map U.int))
 c:S[l3]?=some (.lst ((ZF X.os.length).map (Ce X)))
def yM.app{l1 l2 l3:Nat}{S:Sto}(h:yM X l1 l2 l3 S)(Y:Sto):yM X l1 l2 l3 (S++Y):=⟨aF h.a,aF h.b,aF h.c⟩
def AI{many:Int}(M:Mm pos c T)(R:Tr z j n w pos c X p q t o lr ld)(I:Ti n w X m r)(hz:T[l0]?=some zO)(hm:m<64)(hmany:many=X.os.length)(hl:X.os.length<=900):∃G l1 l2 l3,xQ z zO [.ref (t 0),.int many] T=some (Nq X l1 l2 l3,T++G)/\yM X l1 l2 l3 (T++G):=by
 have t0:=M.get R.pT R.cT;unfold tO' at t0;have cc:Wp (bX (bA (ag (ak 1) ay)) (gNm 0) (iU (ag (aL z.T (m7 z) (ak 1) (ag (ak 0) ay)) (ag (aL z.T (mZ z) (ak 1) (ag (ak 0) ay)) ay))) 1 [0] [uR (t 0),uI many,none] T) fun s=>s.1=.ref T.length/\∃G,s.2=T++(.lst ((ZF X.os.length).map (Ce X))::G):=by
  refine CJ (cs:=[uR (t 0)]) (xs:=ZF X.os.length) (f:=fun i:Nat=>U.int (i:Int)) (v:=Ce X) (S1:=T) (ok:=fun _=>True) ?_ (fun _=>trivial) (by rw[Za];omega) rfl (fun i hi G=>?_) fun G=>⟨rfl,G,rfl⟩;rw[iI (n:=many) (S1:=T) (by rwa[]) ⋯ ⋯,nZ,hmany,YV];obtain⟨y,hy⟩:∃y,X.os[i]?=some y:=⟨_,Z7 (Zs.mp hi)⟩;have M1:=M.app G;have s0:=aF (r:=G) t0;have e1:=zI M1 R hy;have e2:=zH M1 R hy (I.ys i _ hy).sg;rw[HM hy];generalize T++G=S at s0 e1 e2;exact .of (r:=(.tup [.int y.fa,yg y],S)) (by rwa[s0,e1,e2]) ⟨rfl,[],(Zj _).symm⟩
 obtain⟨⟨u1,T1⟩,e1,rfl,G1,hT1⟩:=cc;dsimp only at hT1;have M1:=M.app (.lst ((ZF X.os.length).map (Ce X))::G1);rw[<-hT1]at M1;have s1:=M1.get R.pT R.cT;unfold tO' at s1;have e2:=zG M1 R;have M2:=M1.app [.lst X.K.ev];have g3:T1[T.length]?=some (.lst ((ZF X.os.length).map (Ce X))):=by rw[hT1,ga0];rfl
 have g2:(T1++[O.lst X.K.ev])[T1.length]?=some (.lst X.K.ev):=by rw[ga0];rfl
 have hz2:(T1++[O.lst X.K.ev])[l0]?=some zO:=aF (by rw[hT1];exact aF hz);obtain⟨G3,l2,e3,g4,_⟩:=sZ M2 R hz2 (by have:=I.il;omega) hl fun i y h=>(I.ys i y h).sg;have s2:=aF (r:=[O.lst X.K.ev]) s1;obtain⟨T2,hT2⟩:∃T2,T2=T1++[O.lst X.K.ev]:=⟨_,rfl⟩;rw[<-hT2]at e2 M2 g2 e3 g4 s2;have M3:=M2.app G3;have s3:=aF (r:=G3) s2;obtain⟨T3,hT3⟩:∃T3,T3=T2++G3:=⟨_,rfl⟩;rw[<-hT3]at e3 M3 g4 s3;have e4:=G6 M3 R;obtain⟨G5,e5⟩:=zF M3 R I.k (fun i y h hs=>by
  have Y:=I.ys i y h;cases Y.sg with
  |out h=>rw[h]at hs;exact absurd hs FD
  |go h=>rw[h]at hs;exact absurd hs LF
  |tk h=>rw[h]at hs;exact absurd hs LD
  |sl h ea=>exact⟨_,ea,Y.at_ _ ea⟩
  |dn h=>rw[h]at hs;exact absurd hs.symm vC) hl
 refine⟨(.lst ((ZF X.os.length).map (Ce X))::G1)++([O.lst X.K.ev]++(G3++G5)),T1.length,l2,T.length,?_,?_⟩;rw[<-ZO,<-hT1,<-ZO,<-hT2,<-ZO,<-hT3];unfold xQ Nq;rw[oI];unfold lI;rwa[e1,s1,e2,s2,e3,s3,e4,e5];rw[<-ZO,<-hT1,<-ZO,<-hT2,<-ZO,<-hT3];exact⟨aF (by rw[hT3];exact aF g2),aF g4,aF (by rw[hT3];exact aF (by rw[hT2];exact aF g3))⟩
def MH{l1 l2 l3 k1 k2 k3:Nat}{S:Sto}(h:yM X l1 l2 l3 S)(k:yM X k1 k2 k3 S)(ev:EvA X.K):xv true (Nq X l1 l2 l3) (Nq X k1 k2 k3) S=some (.bl false,S):=by
 have il:∀{ns:List Int},∀u∈ns.map U.int,Lay 2 S u:=fun u hu=>by
  obtain⟨i,_,rfl⟩:=Zr.mp hu;exact .int
 have a:=iX.lst h.a k.a (vm fun u hu=>((ev u hu).lay S).mono (by decide:1<=2));have b:=iX.lst h.b k.b (vm (d:=2) (S:=S) il);have c:=iX.lst h.c k.c (vm fun u hu=>by
  obtain⟨i,_,rfl⟩:=Zr.mp hu;exact DL)
 have d:=iX.tup (gz.all (k:=2) (S:=S) (us:=X.K.bx.map U.int) il);exact(iX.tup (.cons a (.cons b (.cons d (.cons c (.cons (.refl .bl) .nil)))))).ne ∅
def CC{n w:Int}{is:List Nat}{l k:Nat}{S:Sto}(h:S[l]?=some (.lst ((gb n w X is).map U.str)))(k':S[k]?=some (.lst ((gb n w X is).map U.str))):xv true (.ref l) (.ref k) S=some (.bl false,S):=
 (iX.lst h k' (vm (d:=1) fun u hu=>by
  obtain⟨s,hs,rfl⟩:=Zr.mp hu;exact Kd (zr is X s hs))).ne ∅
end
structure Fz where
 lw:Nat
 l:Nat->Nat
 ld:Nat->Nat
 ls:Nat->Nat
 lx:Nat->Nat
 n:Nat->Int
 w:Nat->Int
 st:Nat->List Int
 dls:Nat->List (List U)
 pa:Nat->Option Int
 p:Nat->Nat->Nat
 t:Nat->Nat->Nat
 o:Nat->Nat->Nat
def sU(F:Fz)(j:Nat):U:=.tup [.tup [.int (F.n j),.int (F.w j)],.tup ((F.st j).map U.int),.ref (F.ld j)]
def tX(F:Fz)(is:Nat->List Nat)(j:Nat):Tc:=hZ (F.n j) (F.w j) (CO (F.st j) (F.pa j) (F.dls j)) (is j)
def FzO(F:Fz):Prop:=∀j,j<2->SmO (F.n j) (F.w j) (F.st j) (F.dls j)
structure L0(zO:O)(F:Fz)(pos:Pl->Option Nat)(c:Pl->O):Prop where
 z0:pos (.x 0 0)=some 0
 cz:c (.x 0 0)=zO
 p9:pos (.x 9 0)=some F.lw
 c9:∃z:Int,c (.x 9 0)=.lst [.int z]
 p2:∀f,f<6->pos (.x 2 f)=some (F.l f)
 c20:c (.x 2 0)=.lst [sU F 0,sU F 1]
 c21:c (.x 2 1)=.lst [stU (F.pa 0),stU (F.pa 1)]
 c23:c (.x 2 3)=.lst [.ref (F.t 0 0),.ref (F.t 1 0)]
 c24:c (.x 2 4)=.lst [.ref (F.ls 0),.ref (F.ls 1)]
 c25:c (.x 2 5)=.lst [.ref (F.lx 0),.ref (F.lx 1)]
 p1:∀j,j<2->pos (.x 1 j)=some (F.ld j)
 c1:∀j,j<2->c (.x 1 j)=.lst ((F.dls j).map U.tup)
structure Lj(z:Cz)(F:Fz)(pos:Pl->Option Nat)(c:Pl->O)(is:Nat->List Nat)(j:Nat):Prop where
 ps:pos (.x 4 j)=some (F.ls j)
 cs:c (.x 4 j)=.lst ((is j).map fun i:Nat=>.int (i:Int))
 px:pos (.x 5 j)=some (F.lx j)
 cx:c (.x 5 j)=.lst ((gb (F.n j) (F.w j) (CO (F.st j) (F.pa j) (F.dls j)) (is j)).map U.str)
 r:∃q lr ld,Tr z j (F.n j) (F.w j) pos c (tX F is j) (F.p j) q (F.t j) (F.o j) lr ld
 k:∀i∈is j,i<(F.dls j).length
structure Lx(z:Cz)(zO:O)(F:Fz)(m:Nat)(pos:Pl->Option Nat)(c:Pl->O)(T:Sto)(is:Nat->List Nat):Prop where
 M:Mm pos c T
 a:L0 zO F pos c
 b:∀j,j<2->Lj z F pos c is j
 len:∀j,j<2->(is j).length<=m
variable{F:Fz}{pos':Pl->Option Nat}{c':Pl->O}{T':Sto}{is:Nat->List Nat}{s:Pl}
section
variable{is':Nat->List Nat}
def d9{f i:Nat}(hf:f<20)(h:wQ j s):s≠.x f i:=fun e=>by
 subst e;rcases h with h|⟨f',i',_,h⟩;exact h;unfold tp at h;injection h with h1 h2;omega
def fz{f i:Nat}(hf:f<20):¬wQ j (.x f i):=fun h=>d9 hf h rfl
def rg{j':Nat}(hj:j≠j')(h:wQ j s):¬wQ j' s:=fun h'=>by
 rcases h with h|⟨f,i,hf,rfl⟩;rcases h' with h'|⟨f',i',_,rfl⟩;cases s with
 |k a b=>exact hj (h.symm.trans h')
 |a a b c=>exact hj (h.symm.trans h')
 |x a b=>exact h
 exact h;rcases h' with h'|⟨f',i',hf',e⟩;exact h';unfold tp at e;injection e with e1 e2;omega
def L0.fr(h:L0 zO F pos c)(k:∀f i,f<=2\/f=9->pos' (.x f i)=pos (.x f i)/\c' (.x f i)=c (.x f i)):L0 zO F pos' c':=by
 have k9:=k 9 0 (.inr rfl);have k0:=k 0 0 (.inl ∅);have k2:=fun f=>k 2 f (.inl ∅);have k1:=fun f=>k 1 f (.inl ∅);exact⟨k0.1.trans h.z0,k0.2.trans h.cz,k9.1.trans h.p9,let ⟨z,e⟩:=h.c9;⟨z,k9.2.trans e⟩,fun f hf=>(k2 f).1.trans (h.p2 f hf),(k2 0).2.trans h.c20,(k2 1).2.trans h.c21,(k2 3).2.trans h.c23,(k2 4).2.trans h.c24,(k2 5).2.trans h.c25,fun j hj=>(k1 j).1.trans (h.p1 j hj),fun j hj=>(k1 j).2.trans (h.c1 j hj)⟩
def L0.well(h:L0 zO F pos c)(z:Int):L0 zO F pos (aD c (.x 9 0) (.lst [.int z])):=
 ⟨h.z0,(ah nofun).trans h.cz,h.p9,⟨z,aG⟩,h.p2,(ah nofun).trans h.c20,(ah nofun).trans h.c21,(ah nofun).trans h.c23,(ah nofun).trans h.c24,(ah nofun).trans h.c25,h.p1,fun j hj=>(ah nofun).trans (h.c1 j hj)⟩
def Lj.fr(h:Lj z F pos c is j)(k:∀s,s=.x 4 j\/s=.x 5 j\/wQ j s->pos' s=pos s/\c' s=c s)(e:is' j=is j):Lj z F pos' c' is' j:=by
 have k4:=k (.x 4 j) (.inl rfl);have k5:=k (.x 5 j) (.inr (.inl rfl));obtain⟨q,lr,ld,R⟩:=h.r;have et:tX F is' j=tX F is j:=by unfold tX;rw[e]
 exact⟨k4.1.trans h.ps,by rw[e];exact k4.2.trans h.cs,k5.1.trans h.px,by rw[e];exact k5.2.trans h.cx,⟨q,lr,ld,by rw[et];exact R.keep fun s hs=>k s (.inr (.inr hs))⟩,by rw[e];exact h.k⟩
def Lx.app(X:Lx z zO F m pos c T is)(G:Sto):Lx z zO F m pos c (T++G) is:=⟨X.M.app G,X.a,X.b,X.len⟩
def Lx.sip{mm:Int}(X:Lx z zO F m pos c T is)(h0:0<mm)(h1:mm<2^60):∃d T' c',i9 [.ref F.lw,.int mm] T=some (.int d,T')/\Lx z zO F m pos c' T' is/\0<=d/\d<mm:=by
 obtain⟨z,e9⟩:=X.a.c9;obtain⟨d,z',e,M',d0,d1⟩:=Oy X.M X.a.p9 e9 h0 h1;refine⟨d,_,_,e,⟨M',X.a.well z',fun j hj=>(X.b j hj).fr (fun s hs=>⟨rfl,ah ?_⟩) rfl,X.len⟩,d0,d1⟩;rcases hs with rfl|rfl|hs;simp;simp;exact d9 ∅ hs
def CN(j:Nat):(tX F is j).os.length=(F.dls j).length:=by
 unfold tX;rw[(vn _ _).1];exact Q7 ..
def Ov(FO:FzO F)(hj:j<2)(k:∀i∈is j,i<(F.dls j).length):Ti (F.n j) (F.w j) (tX F is j) (is j).length (2*(is j).length):=by
 have S:=FO j hj;have:=Ti.runs S.n0 (by have:=S.n1;omega) S.w0 (is j) _ 0 0 (E7 (n:=F.n j) (w:=F.w j) (st:=F.st j) (pa:=F.pa j) (dls:=F.dls j) (e:=3) S.st (by have:=S.n1;omega) ∅ S.ok) fun i hi=>by
  show i<((F.dls j).map wk).length;rw[Q7];exact k i hi
 rw[YT,YT]at this;exact this
def Ow(j:Nat):EvA (tX F is j).K:=EvA.runs _ _ fun x hx=>nomatch hx
def EI{α:Type}{f:Nat->α}{d:Int}{j:Nat}(hj:d.toNat=j)(d0:0<=d)(j2:j<2):atI [f 0,f 1] d=some (f j):=by
 have:d=0\/d=1:=by omega
 rcases this with rfl|rfl;subst hj;exact at0;subst hj;exact at1
def fL(z:Cz)(zO:O)(g:Fn->Fn->Fn->Fn->Fn->Fn->Fn->Fn->Cl->CS):CS:=g uV (qE (mN 3)) i9 (xQ z zO) (MJ z) (uW z) (kY z zO) (lM z) z.T
def rhL(ns:List Int)(F:Fz)(k:Int)(r:List (Option U)):Rho:=some (.kl ns)::uI k::uR F.lw::uR (F.l 0)::uR (F.l 1)::uR (F.l 2)::uR (F.l 3)::uR (F.l 4)::uR (F.l 5)::r
def GZ{ns:List Int}{k:Int}{r9 r10 r11 r12 r13:Option U}(hz:CzO z)(FO:FzO F)(X:Lx z zO F m pos c T is)(hm:m<60) :
  Wp (fL z zO rZ (rhL ns F k [r9,r10,r11,r12,r13]) T) fun s=>s.1=.nx/\∃r10' r11' pos' c' is',s.2.1=rhL ns F k [r9,r10',r11',r12,r13]/\Lx z zO F (m+1) pos' c' s.2.2 is':=by
 obtain⟨d,T1,c1,e1,X1,d0,d1⟩:=X.sip (mm:=2) ∅ ∅;obtain⟨j,hj⟩:∃j,d.toNat=j:=⟨_,rfl⟩;have j2:j<2:=by omega
 have S:=FO j j2;have g20:=X1.M.get (X1.a.p2 0 ∅) X1.a.c20;have gd:=X1.M.get (X1.a.p1 j j2) (X1.a.c1 j j2);have a0:=EI (f:=sU F) hj d0 j2;have ix2:∀S,fIx (sU F j) (.int 2) S=some (.ref (F.ld j),S):=fun S=>rfl;obtain⟨i0,T2,c2,e2,X2,i00,i01⟩:=X1.sip (mm:=((F.dls j).length:Int)) (by have:=S.d0;omega) (by have:=S.d1;omega);have ln:jC [.ref (F.ld j)] T1=some (.int ((F.dls j).length:Int),T1):=by simp only[jC,gd,Q7]
 unfold fL rZ rhL;rw[eL (ρ':=rhL ns F k [r9,uI d,r11,r12,r13]) (S':=T1) (by rwa[rhL,e1])];rw[eL (ρ':=rhL ns F k [r9,uI d,uI i0,r12,r13]) (S':=T2) (by rwa[rhL,g20,a0,ix2,ln,e2])];obtain⟨i,hi⟩:∃i:Nat,i0=(i:Int):=⟨i0.toNat,⋯⟩;subst hi;have li:i<(F.dls j).length:=by omega
 have L:=X2.b j j2;have g24:=X2.M.get (X2.a.p2 4 ∅) X2.a.c24;have gs:=X2.M.get L.ps L.cs;have a4:=EI (f:=fun j=>U.ref (F.ls j)) hj d0 j2;have ll:=X2.len j j2;have hL:((is j).map fun i:Nat=>U.int (i:Int)).length<LIM:=by rw[Q7];unfold LIM;omega
 have M3:=X2.M.set L.ps (.lst ((is j).map (fun i:Nat=>U.int (i:Int))++[.int (i:Int)]));rw[eL (ρ':=rhL ns F k [r9,uI d,uI (i:Int),r12,r13]) (S':=T2.set (F.ls j) (.lst ((is j).map (fun i:Nat=>U.int (i:Int))++[.int (i:Int)]))) (by rwa[rhL,g24,a4,gs,dZ hL])];obtain⟨T3,hT3⟩:∃T3,T3=T2.set (F.ls j) (.lst ((is j).map (fun i:Nat=>U.int (i:Int))++[.int (i:Int)])):=⟨_,rfl⟩;rw[<-hT3]at M3 ⊢;obtain⟨c3,hc3⟩:∃c3,c3=aD c2 (.x 4 j) (.lst ((is j).map (fun i:Nat=>U.int (i:Int))++[.int (i:Int)])):=⟨_,rfl⟩;rw[<-hc3]at M3;have k3:∀s,s≠.x 4 j->c3 s=c2 s:=fun s hs=>by rw[hc3];exact ah hs
 obtain⟨q,lr,ld,R⟩:=L.r;have R3:Tr z j (F.n j) (F.w j) pos c3 (tX F is j) (F.p j) q (F.t j) (F.o j) lr ld:=R.keep fun s hs=>⟨rfl,k3 s (d9 ∅ hs)⟩;have I:=Ov (is:=is) FO j2 L.k;have lX:i<(tX F is j).os.length:=by rw[CN];exact li
 have hy:(tX F is j).os[i]?=some (tX F is j).os[i]:=Z7 lX;have eg:tGo (F.n j) (F.w j) (tX F is j) i=yN (F.n j) (F.w j) (tX F is j) i (tX F is j).os[i]:=by unfold tGo;rw[hy]
 obtain⟨⟨v4,T4⟩,e4,hv4,pos4,c4,q4,lr4,ld4,M4,R4,F4⟩:=L9 (i:=i) hz M3 R3 I ⋯ ⋯ S.n0 (by have:=S.n1;omega) S.w0 hy;rw[<-eg]at hv4 R4;dsimp only at hv4 M4;subst hv4;have f4:∀f i,f<20->pos4 (.x f i)=pos (.x f i)/\c4 (.x f i)=c3 (.x f i):=fun f i h=>F4 _ (fz h);have t3:=M3.get R3.pT R3.cT;unfold tO' at t3;have g25:=M3.get (X2.a.p2 5 ∅) ((k3 _ nofun).trans X2.a.c25);have g23:=M3.get (X2.a.p2 3 ∅) ((k3 _ nofun).trans X2.a.c23);have gx3:=M3.get L.px ((k3 _ nofun).trans L.cx);have gx:=M4.get ((f4 5 j ∅).1.trans L.px) ((f4 5 j ∅).2.trans ((k3 _ nofun).trans L.cx));have a5:=EI (f:=fun j=>U.ref (F.lx j)) hj d0 j2;have a3:=EI (f:=fun j=>U.ref (F.t j 0)) hj d0 j2;obtain⟨ws,hws⟩:∃ws,ws=(gb (F.n j) (F.w j) (CO (F.st j) (F.pa j) (F.dls j)) (is j)).map U.str:=⟨_,rfl⟩;rw[<-hws]at gx3 gx;have hL5:ws.length<LIM:=by rw[hws,Q7,pN];unfold LIM;omega
 have M5:=M4.set ((f4 5 j ∅).1.trans L.px) (.lst (ws++[.str (tGo (F.n j) (F.w j) (tX F is j) i).1]));obtain⟨wd,hwd⟩:∃wd,wd=(tGo (F.n j) (F.w j) (tX F is j) i).1:=⟨_,rfl⟩;rw[<-hwd]at e4 M5;rw[eL (ρ':=rhL ns F k [r9,uI d,uI (i:Int),r12,r13]) (S':=T4.set (F.lx j) (.lst (ws++[.str wd]))) (by rwa[rhL,g25,g23,a5,a3,gx3,t3,e4,gx,dZ hL5])];obtain⟨T5,hT5⟩:∃T5,T5=T4.set (F.lx j) (.lst (ws++[.str wd])):=⟨_,rfl⟩;rw[<-hT5]at M5 ⊢;obtain⟨c5,hc5⟩:∃c5,c5=aD c4 (.x 5 j) (.lst (ws++[.str wd])):=⟨_,rfl⟩;rw[<-hc5]at M5;have k5:∀s,s≠.x 5 j->c5 s=c4 s:=fun s hs=>by rw[hc5];exact ah hs
 obtain⟨is',his⟩:∃is':Nat->List Nat,is'=fun x=>if x=j then is j++[i]else is x:=⟨_,rfl⟩
 have isj:is' j=is j++[i]:=by rw[his];exact Xd rfl
 have iso:∀x,x≠j->is' x=is x:=fun x hx=>by rw[his];exact Xf hx
 have eX:tX F is' j=(tGo (F.n j) (F.w j) (tX F is j) i).2:=by unfold tX;rw[isj,pS]
 have R5:Tr z j (F.n j) (F.w j) pos4 c5 (tX F is' j) (F.p j) q4 (F.t j) (F.o j) lr4 ld4:=by
  rw[eX];exact R4.keep fun s hs=>⟨rfl,k5 s (d9 ∅ hs)⟩
 have X5:Lx z zO F (m+1) pos4 c5 T5 is':=by
  refine⟨M5,X2.a.fr fun f i h=>?_,fun x hx=>?_,fun x hx=>?_⟩;obtain⟨q1,q2⟩:=f4 f i ⋯;have n4:Pl.x f i≠.x 4 j:=fun e=>by injection e with e1 e2;omega
  have n5:Pl.x f i≠.x 5 j:=fun e=>by injection e with e1 e2;omega
  exact⟨q1,by rw[k5 _ n5,q2,k3 _ n4]⟩;by_cases e:x=j;subst e;refine⟨(f4 4 x ∅).1.trans L.ps,?_,(f4 5 x ∅).1.trans L.px,?_,⟨q4,lr4,ld4,R5⟩,fun a ha=>?_⟩;rw[k5 _ nofun,(f4 4 x ∅).2,hc3,aG,isj,Zo];rfl;rw[hc5,aG,isj,jT,Zo,hws,hwd];rfl;rw[isj]at ha;rcases Zz.mp ha with h|h;exact L.k a h;rw[ZN.mp h];exact li;refine(X2.b x hx).fr (fun s hs=>?_) (iso x e);have n4:s≠.x 4 j:=by
   rcases hs with rfl|rfl|hs;intro z;injection z with z1 z2;exact e z2
   simp;exact d9 ∅ hs
  have n5:s≠.x 5 j:=by
   rcases hs with rfl|rfl|hs;simp;intro z;injection z with z1 z2;exact e z2
   exact d9 ∅ hs
  have no:¬wQ j s:=by
   rcases hs with rfl|rfl|hs;exact fz ∅;exact fz ∅;exact rg e hs
  obtain⟨q1,q2⟩:=F4 s no;exact⟨q1,by rw[k5 _ n5,q2,k3 _ n4]⟩;by_cases e:x=j;subst e;rw[isj,ZY];exact YZ ll 1;rw[iso x e];exact Xw (X2.len x hx)
 have t5:=M5.get R5.pT R5.cT;unfold tO' at t5;have g23':=M5.get (X5.a.p2 3 ∅) X5.a.c23;have e6:=zG M5 R5;have gc:(T5++[O.lst (tX F is' j).K.ev])[T5.length]?=some (.lst (tX F is' j).K.ev):=by rw[ga0];rfl
 have sc:(T5++[O.lst (tX F is' j).K.ev]).set T5.length (.lst [])=T5++[.lst []]:=by rw[gs0];rfl
 have ecl:jL (.ref T5.length) [] (T5++[O.lst (tX F is' j).K.ev])=some (.non,T5++[.lst []]):=by simp only[jL,gc,sc]
 rw[eL (ρ':=rhL ns F k [r9,uI d,uI (i:Int),r12,r13]) (S':=T5++[.lst []]) (by simp only[rhL,g23',a3,t5,e6,gc,ecl,PM,JU,JT,JS,EY,yX,yW,va,u9,u6,Jh,xY,xX,sO,lR,sP,JM,JN,Z0,X8,X9,YN])];have X6:=X5.app [.lst []];have t6:=X6.M.get R5.pT R5.cT;unfold tO' at t6;have g236:=X6.M.get (X6.a.p2 3 ∅) X6.a.c23;have I6:=Ov (is:=is') FO j2 (X6.b j j2).k;have hl6:=X6.len j j2;obtain⟨G7,l7,e7,g7,lt7⟩:=sZ X6.M R5 (X6.M.get X6.a.z0 X6.a.cz) (by have:=I6.il;omega) (by rw[CN];have:=S.d1;omega) fun i y h=>(I6.ys i y h).sg;obtain⟨T6,hT6⟩:∃T6,T6=T5++[O.lst []]:=⟨_,rfl⟩;rw[<-hT6]at e7 g7 lt7 t6 g236 X6 ⊢;have X7:=X6.app G7;have hL7:((jc (tX F is' j)).map U.int).length<LIM:=by
  rw[Q7];unfold jc eP qT;rw[Q7];have h1:=Xy (fun a=>(bF (dnK (tX F is' j) (tX F is' j).os.length) a).isSome) ((wR ((tX F is' j).K.ids.map fun a=>FH ((tX F is' j).K.A a))).map fun i=>(tX F is' j).K.ids.getD i 0);rw[Q7,(gq _).length_eq,Za,Q7]at h1;have:=I6.il;unfold LIM;omega
 have np:∀s,pos4 s≠some l7:=fun s e=>by
  have:=X6.M.lt e;omega
 refine .of (r:=(.nx,rhL ns F k [r9,uI d,uI (i:Int),r12,r13],(T6++G7).set l7 (.lst ((jc (tX F is' j)).map U.int++[.int 0])))) ?_ ⟨rfl,_,_,pos4,c5,is',rfl,⟨X7.M.setF np,X7.a,X7.b,X7.len⟩⟩;generalize (jc (tX F is' j)).map U.int=ot at g7 hL7;rwa[rhL,g236,a3,t6,e7,g7,dZ hL7]
end
def F9{α:Type}{ok:Sto->Prop}{ce:CE}{l:Nat}{f:α->U}{cs:Rho}(St:List α->List U->Sto->Prop)(hok:∀xs ys S,St xs ys S->ok S)
  (he:∀x xs ys S,St (x::xs) ys S->Wp (ce (some (f x)::cs) S) fun r=>r.2[l]?=some (.lst ys)/\St xs (ys++[r.1]) (r.2.set l (.lst (ys++[r.1])))) :
  ∀(xs:List α) (ys:List U) (S:Sto) (r0:Option U),St xs ys S->ys.length+xs.length<=9000->Wp (gC ok (gNm 0) ce l (xs.map f) (r0::cs) S) fun S'=>∃ys',St [] ys' S'
 |[],ys,S,r0,h,_=>.of (gR (hok [] ys S h)) ⟨ys,h⟩
 |x::xs,ys,S,r0,h,hn=>by
  rw[ZZ]at hn;obtain⟨⟨v,S1⟩,e1,g1,h1⟩:=he x xs ys S h;dsimp only at g1 h1;obtain⟨S2,e2,ys',h2⟩:=F9 St hok he xs (ys++[v]) _ (some (f x)) h1 (by simp;omega);refine⟨S2,?_,ys',h2⟩;rw[ZK,dR (ρ0:=some (f x)::cs) (S0:=S) (S1:=S1) (x:=v) (ys:=ys) (hok _ ys S h) rfl e1 g1 (by unfold LIM;omega)];exact e2
def J8{α:Type}{ci:CI}{ok:Sto->Prop}{ce:CE}{f:α->U}{ρ cs:Rho}{S S1:Sto}{xs:List α}{caps:List Nat}{Q:U×Sto->Prop}(St:List α->List U->Sto->Prop)(hi:ci ρ S=some (xs.map f,ok,S1))(hr:sM 1 caps ρ=none::cs)(hok:∀xs ys S,St xs ys S->ok S)
  (he:∀x xs ys S,St (x::xs) ys S->Wp (ce (some (f x)::cs) S) fun r=>r.2[S1.length]?=some (.lst ys)/\St xs (ys++[r.1]) (r.2.set S1.length (.lst (ys++[r.1]))))
  (h0:St xs [] (S1++[.lst []])) (hn:xs.length<=9000) (hQ:∀ys S',St [] ys S'->Q (.ref S1.length,S')):Wp (bX ci (gNm 0) ce 1 caps ρ S) Q:=by
 obtain⟨S2,e,ys,h⟩:=F9 (l:=S1.length) (cs:=cs) St hok he xs [] (S1++[.lst []]) none h0 (by rw[XF];omega);refine⟨_,?_,hQ ys S2 h⟩;unfold bX;rw[hi,Z0,hr];dsimp only;rw[e];rfl
def Lx.fm2{i:Nat}(X:Lx z zO F m pos c T is)(hi:2<=i)(Fm:FmT i pos c pos' c')(M:Mm pos' c' T'):Lx z zO F m pos' c' T' is:=
 ⟨M,X.a.fr fun f i h=>Fm _ (fz ⋯),fun x hx=>(X.b x hx).fr (fun s hs=>Fm s (by
  rcases hs with rfl|rfl|hs;exact fz ∅;exact fz ∅;exact rg ⋯ hs)) rfl,X.len⟩
def Lx.x6{f i:Nat}{pos':Pl->Option Nat}{o:O}(X:Lx z zO F m pos c T is)(hf:6<=f)(hf8:f<=8)(hp:∀s,s≠.x f i->pos' s=pos s)(M:Mm pos' (aD c (.x f i) o) T'):Lx z zO F m pos' (aD c (.x f i) o) T' is:=
 ⟨M,X.a.fr fun g k h=>⟨hp _ (fun e=>by injection e with e1 e2;omega),ah (fun e=>by injection e with e1 e2;omega)⟩,fun x hx=>(X.b x hx).fr (fun s hs=>by
  have n:s≠.x f i:=by
   rcases hs with rfl|rfl|hs;intro e;injection e with e1 e2;omega
   intro e;injection e with e1 e2;omega
   exact d9 ⋯ hs
  exact⟨hp s n,ah n⟩) rfl,X.len⟩
def wI{ns:List Int}{k d:Int}{r9 r11 r12 r13:Option U}(hz:CzO z)(FO:FzO F)(X:Lx z zO F m pos c T is)(hm:m<60)(hj:d.toNat=j)(d0:0<=d)(j2:j<2) :
  Wp (fL z zO vZ (rhL ns F k [r9,uI d,r11,r12,r13]) T) fun s=>s.1=.nx/\∃r12' r13' pos' c',s.2.1=rhL ns F k [r9,uI d,r11,r12',r13']/\Lx z zO F m pos' c' s.2.2 is:=by
 have S:=FO j j2;have g20:=X.M.get (X.a.p2 0 ∅) X.a.c20;have g21:=X.M.get (X.a.p2 1 ∅) X.a.c21;have a0:=EI (f:=sU F) hj d0 j2;have a1:=EI (f:=fun j=>stU (F.pa j)) hj d0 j2;have ix0:∀S,fIx (sU F j) (.int 0) S=some (.tup [.int (F.n j),.int (F.w j)],S):=fun S=>rfl;have ix1:∀S,fIx (sU F j) (.int 1) S=some (.tup ((F.st j).map U.int),S):=fun S=>rfl;have ix2:∀S,fIx (sU F j) (.int 2) S=some (.ref (F.ld j),S):=fun S=>rfl;obtain⟨⟨u1,T1⟩,e1,pos1,c1,p3,q1,t3,o3,lr1,ld1,hu1,M1,R1,F1⟩:=vi (j:=2) (n:=F.n j) (w:=F.w j) (st:=F.st j) (pa:=F.pa j) (dls:=F.dls j) (sd:=.x 1 j) hz X.M (X.a.p1 j j2) (X.a.c1 j j2) (fz ∅) (by rw[S.st];have:=S.n1;omega) (by have:=S.d1;omega);dsimp only at hu1 M1;subst hu1;have X1:=X.fm2 (Z6 _) F1 M1;generalize (F.st j).map U.int=ss at e1 ix1;obtain⟨su,hsu⟩:∃su,su=sU F j:=⟨_,rfl⟩;rw[<-hsu]at a0 ix0 ix1 ix2;unfold fL vZ rhL;rw[eL (ρ':=rhL ns F k [r9,uI d,r11,uR (t3 0),r13]) (S':=T1) (by rwa[rhL,g20,g21,a0,a1,ix0,ix1,ix2,e1])];have g201:=X1.M.get (X1.a.p2 0 ∅) X1.a.c20;rw[hsu]at a0;have gd:=X1.M.get (X1.a.p1 j j2) (X1.a.c1 j j2);have ln:jC [.ref (F.ld j)] T1=some (.int ((F.dls j).length:Int),T1):=by simp only[jC,gd,Q7]
 obtain⟨many,hmany⟩:∃many:Int,many=((F.dls j).length:Int):=⟨_,rfl⟩;rw[<-hmany]at ln;rw[hsu]at ix2;rw[eL (ρ':=rhL ns F k [r9,uI d,r11,uR (t3 0),uI many]) (S':=T1) (by rwa[rhL,g201,a0,ix2,ln])];have L1:=X1.b j j2;have g24:=X1.M.get (X1.a.p2 4 ∅) X1.a.c24;have a4:=EI (f:=fun j=>U.ref (F.ls j)) hj d0 j2;have a5:=EI (f:=fun j=>U.ref (F.lx j)) hj d0 j2;have a3:=EI (f:=fun j=>U.ref (F.t j 0)) hj d0 j2;have ll:=X1.len j j2;obtain⟨X0,hX0⟩:∃X0,X0=CO (F.st j) (F.pa j) (F.dls j):=⟨_,rfl⟩;have I0:Ti (F.n j) (F.w j) X0 0 0:=by
  rw[hX0];exact E7 (e:=3) S.st (by have:=S.n1;omega) ∅ S.ok
 have l0:X0.os.length=(F.dls j).length:=by rw[hX0];exact Q7 ..
 rw[<-hX0]at R1;have cst:Wp (bX (iTp (cOp fIx (ak 7) (ak 10))) (gNm 0) (aL z.T (MJ z) (ak 1) (ag (ak 0) ay)) 1 [12] (rhL ns F k [r9,uI d,r11,uR (t3 0),uI many]) T1) fun r=>∃l pos' c' q lr ld,r.1=.ref l/\r.2[l]?=some (.lst ((gb (F.n j) (F.w j) X0 (is j)).map U.str))/\Lx z zO F m pos' c' r.2 is/\Tr z 2 (F.n j) (F.w j) pos' c' (hZ (F.n j) (F.w j) X0 (is j)) p3 q t3 o3 lr ld:=by
  refine J8 (cs:=[uR (t3 0)]) (xs:=is j) (f:=fun i:Nat=>U.int (i:Int)) (S1:=T1) (ok:=fun S=>S[F.ls j]?=some (.lst ((is j).map fun i:Nat=>U.int (i:Int)))) (fun xs ys S=>∃(dn:List Nat) (pos':Pl->Option Nat) (c':Pl->O) (q:Int->Nat->Nat) (lr:Nat) (ld:Nat->Nat),is j=dn++xs/\ys=(gb (F.n j) (F.w j) X0 dn).map U.str/\Lx z zO F m pos' c' S is/\Tr z 2 (F.n j) (F.w j) pos' c' (hZ (F.n j) (F.w j) X0 dn) p3 q t3 o3 lr ld/\pos' (.x 6 0)=some T1.length/\c' (.x 6 0)=.lst ys) (o9 (l:=F.ls j) (by rwa[rhL,g24,a4]) (X1.M.get L1.ps L1.cs)) rfl ?_ ?_ ?_ ⋯ ?_;rintro xs ys S' ⟨dn,pos',c',q,lr,ld,hd,_,X',R',_⟩;exact X'.M.get (X'.b j j2).ps (X'.b j j2).cs;rintro i xs ys S' ⟨dn,pos',c',q,lr,ld,hd,hy,X',R',p6,c6⟩;have okd:∀a∈dn++[i],a<X0.os.length:=fun a ha=>by
   rw[l0];refine L1.k a ?_;rw[hd];rcases Zz.mp ha with h|h;exact Zz.mpr (.inl h);rw[ZN.mp h];exact Zz.mpr (.inr ZG)
  have I:=Ti.runs S.n0 (by have:=S.n1;omega) S.w0 dn X0 0 0 I0 fun a ha=>okd a (Zz.mpr (.inl ha));have ld':dn.length<=m:=by
   have:=congrArg List.length hd;rw[ZY]at this;omega
  have lX:i<(hZ (F.n j) (F.w j) X0 dn).os.length:=by rw[(vn _ _).1];exact okd i (Zz.mpr (.inr ZG))
  have hyy:(hZ (F.n j) (F.w j) X0 dn).os[i]?=some (hZ (F.n j) (F.w j) X0 dn).os[i]:=Z7 lX;have eg:tGo (F.n j) (F.w j) (hZ (F.n j) (F.w j) X0 dn) i=yN (F.n j) (F.w j) (hZ (F.n j) (F.w j) X0 dn) i (hZ (F.n j) (F.w j) X0 dn).os[i]:=by unfold tGo;rw[hyy]
  obtain⟨⟨v4,T4⟩,e4,hv4,pos4,c4,q4,lr4,ld4,M4,R4,F4⟩:=L9 (i:=i) hz X'.M R' I ⋯ ⋯ S.n0 (by have:=S.n1;omega) S.w0 hyy;rw[<-eg]at hv4 R4;dsimp only at hv4 M4;subst hv4;have t4:=X'.M.get R'.pT R'.cT;unfold tO' at t4;have f6:=F4 (.x 6 0) (fz ∅);have p64:pos4 (.x 6 0)=some T1.length:=f6.1.trans p6;have M5:=M4.set p64 (.lst (ys++[.str (tGo (F.n j) (F.w j) (hZ (F.n j) (F.w j) X0 dn) i).1]));refine .of (r:=(.str (tGo (F.n j) (F.w j) (hZ (F.n j) (F.w j) X0 dn) i).1,T4)) (by rwa[t4,e4]) ⟨M4.get p64 (f6.2.trans c6),dn++[i],pos4,_,q4,lr4,ld4,by rw[hd,ZO];rfl,by rw[jT,Zo,hy];rfl,((X'.fm2 (Z6 _) F4 M4).x6 (f:=6) ∅ ∅ (fun _ _=>rfl) M5),?_,p64,aG⟩;rw[pS];exact R4.keep fun s hs=>⟨rfl,ah (d9 ∅ hs)⟩;have M2:=X1.M.new (.x 6 0) (.lst []) [];exact⟨[],_,_,q1,lr1,ld1,rfl,rfl,X1.x6 (f:=6) (i:=0) ∅ ∅ (fun s hs=>aw hs) M2,R1.keep fun s hs=>⟨aw (d9 ∅ hs),ah (d9 ∅ hs)⟩,cI,aG⟩;rintro ys S' ⟨dn,pos',c',q,lr,ld,hd,hy,X',R',p6,c6⟩;rw[Zj]at hd;rw[<-hd]at hy R';exact⟨_,pos',c',q,lr,ld,rfl,by rw[X'.M.get p6 c6,hy],X',R'⟩
 obtain⟨⟨u2,T2⟩,e2,l2,pos2,c2,q2,lr2,ld2,rfl,g2,X2,R2⟩:=cst;dsimp only at g2 X2;have L2:=X2.b j j2;have g25:=X2.M.get (X2.a.p2 5 ∅) X2.a.c25;have gx:=X2.M.get L2.px L2.cx;rw[<-hX0]at gx;have ew:=CC g2 gx;have eX:hZ (F.n j) (F.w j) X0 (is j)=tX F is j:=by rw[hX0];rfl
 rw[eX]at R2;have I2:=Ov (is:=is) FO j2 L2.k;have los:(tX F is j).os.length<=900:=by rw[CN];have:=S.d1;omega
 have hmo:many=((tX F is j).os.length:Int):=by rw[CN];exact hmany
 have ll2:=X2.len j j2;obtain⟨G3,l31,l32,l33,e3,A3⟩:=AI X2.M R2 I2 (X2.M.get X2.a.z0 X2.a.cz) ⋯ hmo los;have X3:=X2.app G3;obtain⟨q0,lr0,ld0,R0⟩:=(X3.b j j2).r;obtain⟨G4,l41,l42,l43,e4,A4⟩:=AI X3.M R0 I2 (X3.M.get X3.a.z0 X3.a.cz) ⋯ hmo los;have g233:=X3.M.get (X3.a.p2 3 ∅) X3.a.c23;have X4:=X3.app G4;have ea:=MH (A3.app G4) A4 (Ow (F:=F) (is:=is) j);generalize T2++G3=T3 at e3 e4 g233 X4 ea;generalize T3++G4=T4 at e4 X4 ea;refine .of (r:=(.nx,rhL ns F k [r9,uI d,r11,uR (t3 0),uI many],T4)) ?_ ⟨rfl,_,_,pos2,c2,rfl,X4⟩;unfold rhL at e2 ⊢;rwa[e2,g25,a5,ew,e3,g233,a3,e4,ea]
variable{S:Sto}
section
variable{ρ:Rho}
def wH(M:Mm pos c S)(s0 s1 s:Pl)(o:O):Mm (bZ (bZ (bZ pos s0 S.length) s1 (S.length+1)) s (S.length+2)) (aD (aD (aD c s0 o) s1 o) s (.lst [.ref S.length,.ref (S.length+1)])) (S++[o,o,.lst [.ref S.length,.ref (S.length+1)]]):=by
 have M1:=((M.new s0 o []).new s1 o []).new s (.lst [.ref S.length,.ref (S.length+1)]) [];simpa using M1
def E6:hX (ag (hX ay) (ag (hX ay) ay)) ρ S=some (.ref (S.length+2),S++[.lst [],.lst [],.lst [.ref S.length,.ref (S.length+1)]]):=by
 rwa[];simp
structure Pr(zO:O)(lw l20 l21:Nat)(lo:Nat->Nat)(n w:Nat->Int)(st:Nat->List Int)(dls:Nat->List (List U))(pa:Nat->Option Int)(pos:Pl->Option Nat)(c:Pl->O)(T:Sto):Prop where
 M:Mm pos c T
 p0:pos (.x 0 0)=some 0
 c0:c (.x 0 0)=zO
 p9:pos (.x 9 0)=some lw
 c9:∃z:Int,c (.x 9 0)=.lst [.int z]
 p1:∀j,j<2->pos (.x 1 j)=some (lo j)
 c1:∀j,j<2->c (.x 1 j)=.lst ((dls j).map U.tup)
 p20:pos (.x 2 0)=some l20
 c20:c (.x 2 0)=.lst [.tup [.tup [.int (n 0),.int (w 0)],.tup ((st 0).map U.int),.ref (lo 0)],.tup [.tup [.int (n 1),.int (w 1)],.tup ((st 1).map U.int),.ref (lo 1)]]
 p21:pos (.x 2 1)=some l21
 c21:c (.x 2 1)=.lst [stU (pa 0),stU (pa 1)]
 ok:∀j,j<2->SmO (n j) (w j) (st j) (dls j)
def j01{p:Nat->Prop}(h0:p 0)(h1:p 1):∀j,j<2->p j:=fun j hj=>by
 match j,hj with
 |0,_=>exact h0
 |1,_=>exact h1
def r14(a0 a1 a2 a3 a4 a5 a6 a7 a8 a9 a10 a11 a12 a13:Option U):Rho:=[a0,a1,a2,a3,a4,a5,a6,a7,a8,a9,a10,a11,a12,a13]
def KY{ns:List Int}{k:Int}{a2 a3 a4 a5 a6 a7 a8 a9 a10 a11 a12 a13:Option U}(M:Mm pos c T)(p0:pos (.x 0 0)=some 0)(c0:c (.x 0 0)=zO)(k0:0<=k) :
  ∃lw l20 l21 lo n w st dls pa pos' c' T',Pr zO lw l20 l21 lo n w st dls pa pos' c' T'/\∀g:CS,(aS (cQ 2 (cCB uV (ag (ak 0) (ag (ak 1) ay))))
  (aS (cQ 3 (hX (ag (cCB (qE (mN 3)) (ag (ak 2) (ag (cC (.int 4)) ay))) (ag (cCB (qE (mN 3)) (ag (ak 2) (ag (cC (.int 4)) ay))) ay))))
  (aS (cQ 4 (bX (bA (ag (cC (.int 2)) ay)) (gNm 0) (cOp fIx (hX (ag (cC .non) (ag (cC .non) (ag (cC (.int 0)) (ag (cC (.int 1)) (ag (cC (.int 2)) ay)))))) (cCB i9 (ag (ak 1) (ag (cC (.int 5)) ay)))) 1 [2])) g))) (r14 (some (.kl ns)) (uI k) a2 a3 a4 a5 a6 a7 a8 a9 a10 a11 a12 a13) T
   = g (r14 (some (.kl ns)) (uI k) (uR lw) (uR l20) (uR l21) a5 a6 a7 a8 a9 a10 a11 a12 a13) T':=by
 obtain⟨z1,ew⟩:=GX (S:=T) ns k0;have W1:Ws (bZ pos (.x 9 0) T.length) c (T++[.lst [.int z1]]):=⟨z1,M.new (.x 9 0) (.lst [.int z1]) []⟩;have h9:bZ pos (.x 9 0) T.length (.x 9 0)=some T.length:=cI;obtain⟨⟨u2,T2⟩,e2,n0,w0,st0,dl0,lo0,hu2,S0,pos2,c2,W2,pD0,cD0,F2⟩:=zQ (sD:=.x 1 0) W1 h9 (fun f i h1 h2 z=>by injection z with z1 z2;omega);dsimp only at hu2 W2;have fr2:∀f i,f<6\/f=9->(f≠1\/i≠0)->pos2 (.x f i)=bZ pos (.x 9 0) T.length (.x f i)/\c2 (.x f i)=c (.x f i):=fun f i hf hi=>F2 _ (fun z=>by injection z with z1 z2;omega) (fun f' i' h1 h2 z=>by injection z with z1 z2;omega);have h92:pos2 (.x 9 0)=some T.length:=(fr2 9 0 (.inr rfl) (.inl ∅)).1.trans h9;obtain⟨⟨u3,T3⟩,e3,n1,w1,st1,dl1,lo1,hu3,S1,pos3,c3,W3,pD1,cD1,F3⟩:=zQ (sD:=.x 1 1) W2 h92 (fun f i h1 h2 z=>by injection z with z1 z2;omega);dsimp only at hu3 W3;have fr3:∀f i,f<6\/f=9->(f≠1\/i≠1)->pos3 (.x f i)=pos2 (.x f i)/\c3 (.x f i)=c2 (.x f i):=fun f i hf hi=>F3 _ (fun z=>by injection z with z1 z2;omega) (fun f' i' h1 h2 z=>by injection z with z1 z2;omega);have W4:=W3.new (s:=.x 2 0) nofun (.lst [u2,u3]);have h94:bZ pos3 (.x 2 0) T3.length (.x 9 0)=some T.length:=by rw[aw nofun,(fr3 9 0 (.inr rfl) (.inl ∅)).1,h92]
 obtain⟨T4,hT4⟩:∃T4,T4=T3++[O.lst [u2,u3]]:=⟨_,rfl⟩;rw[<-hT4]at W4;have cst:Wp (bX (bA (ag (cC (.int 2)) ay)) (gNm 0) (cOp fIx (hX (ag (cC .non) (ag (cC .non) (ag (cC (.int 0)) (ag (cC (.int 1)) (ag (cC (.int 2)) ay)))))) (cCB i9 (ag (ak 1) (ag (cC (.int 5)) ay)))) 1 [2] (r14 (some (.kl ns)) (uI k) (uR T.length) (uR T3.length) a4 a5 a6 a7 a8 a9 a10 a11 a12 a13) T4) fun r=>∃(pas:List (Option Int)) (pos':Pl->Option Nat) (c':Pl->O),pas.length=2/\r.1=.ref T4.length/\Ws pos' c' r.2/\pos' (.x 2 1)=some T4.length/\c' (.x 2 1)=.lst (pas.map stU)/\∀s,s≠.x 2 1->pos' s=bZ pos3 (.x 2 0) T3.length s/\c' s=aD c3 (.x 2 0) (.lst [u2,u3]) s:=by
  refine zx (cs:=[uR T.length]) (xs:=ZF 2) (f:=fun i:Nat=>U.int (i:Int)) (S1:=T4) (ok:=fun _=>True) (fun ys S=>∃(pas:List (Option Int)) (pos':Pl->Option Nat) (c':Pl->O),ys=pas.map stU/\Ws pos' c' S/\pos' (.x 2 1)=some T4.length/\c' (.x 2 1)=.lst ys/\∀s,s≠.x 2 1->pos' s=bZ pos3 (.x 2 0) T3.length s/\c' s=aD c3 (.x 2 0) (.lst [u2,u3]) s) ?_ rfl (fun _ _ _=>trivial) ?_ ?_ ∅ ?_;rw[iI (n:=2) (S1:=T4) (by rwa[]) ∅ ∅,nZ];rfl;rintro x ys S ⟨pas,pos',c',rfl,W',p21,c21,F⟩;have hw':pos' (.x 9 0)=some T.length:=(F _ nofun).1.trans h94;obtain⟨v,S',e,W2',v0,v1,k'⟩:=(W'.app [.lst [.non,.non,.int 0,.int 1,.int 2]]).sip (mm:=5) hw' ∅ ∅;have gl:S'[S.length]?=some (.lst [.non,.non,.int 0,.int 1,.int 2]):=by rw[k' _ (Xj (W'.lt hw')),ga0];rfl
  obtain⟨pa,hpa⟩:∃pa:Option Int,atI [U.non,.non,.int 0,.int 1,.int 2] v=some (stU pa):=by
   have:v=0\/v=1\/v=2\/v=3\/v=4:=by omega
   rcases this with rfl|rfl|rfl|rfl|rfl;exact⟨none,at0⟩;exact⟨none,at1⟩;exact⟨some 0,at2⟩;exact⟨some 1,at3⟩;exact⟨some 2,iW (j:=4) rfl⟩
  have g6:S'[T4.length]?=some (.lst (pas.map stU)):=by rw[W2'.get p21 nofun,c21]
  exact .of (r:=(stU pa,S')) (by rwa[e,gl,hpa]) ⟨g6,pas++[pa],pos',_,by rw[Zo];rfl,W2'.set p21 nofun _,p21,aG,fun s h1=>⟨(F s h1).1,by rw[ah h1];exact(F s h1).2⟩⟩;exact⟨[],_,_,rfl,W4.new (s:=.x 2 1) nofun _,cI,aG,fun s h1=>⟨aw h1,ah h1⟩⟩;rintro ys S' hl ⟨pas,pos',c',rfl,W',p21,c21,F⟩;rw[Q7,Za]at hl;exact⟨pas,pos',c',hl,rfl,W',p21,c21,F⟩
 obtain⟨⟨u5,T5⟩,e5,pas,pos5,c5,hpas,rfl,⟨z5,M5⟩,p21,c21,F5⟩:=cst;dsimp only at M5;match pas,hpas with
 |[pa0,pa1],_=>
  refine⟨T.length,T3.length,T4.length,fun j=>if j=0 then lo0 else lo1,fun j=>if j=0 then n0 else n1,fun j=>if j=0 then w0 else w1,fun j=>if j=0 then st0 else st1,fun j=>if j=0 then dl0 else dl1,fun j=>if j=0 then pa0 else pa1,pos5,_,T5,⟨M5,?_,?_,?_,⟨z5,aG⟩,j01 ?_ ?_,j01 ?_ ?_,?_,?_,p21,?_,j01 S0 S1⟩,?_⟩;rw[(F5 _ nofun).1,aw nofun,(fr3 0 0 (.inl ∅) (.inl ∅)).1,(fr2 0 0 (.inl ∅) (.inl ∅)).1,aw nofun];exact p0;rw[ah nofun,(F5 _ nofun).2,ah nofun,(fr3 0 0 (.inl ∅) (.inl ∅)).2,(fr2 0 0 (.inl ∅) (.inl ∅)).2];exact c0;rw[(F5 _ nofun).1];exact h94;rw[(F5 _ nofun).1,aw nofun,(fr3 1 0 (.inl ∅) (.inr ∅)).1];exact pD0;rw[(F5 _ nofun).1,aw nofun];exact pD1;rw[ah nofun,(F5 _ nofun).2,ah nofun,(fr3 1 0 (.inl ∅) (.inr ∅)).2];exact cD0;rw[ah nofun,(F5 _ nofun).2,ah nofun];exact cD1;rw[(F5 _ nofun).1,cI];rw[ah nofun,(F5 _ nofun).2,aG,hu2,hu3];rfl;rw[ah nofun,c21];rfl;intro g;rw[eL (ρ':=r14 (some (.kl ns)) (uI k) (uR T.length) a3 a4 a5 a6 a7 a8 a9 a10 a11 a12 a13) (S':=T++[.lst [.int z1]]) (by rwa[r14,ew])];obtain⟨T1,hT1⟩:∃T1,T1=T++[O.lst [U.int z1]]:=⟨_,rfl⟩;rw[<-hT1]at e2 ⊢;rw[eL (ρ':=r14 (some (.kl ns)) (uI k) (uR T.length) (uR T3.length) a4 a5 a6 a7 a8 a9 a10 a11 a12 a13) (S':=T4) (by rw[hT4];rwa[r14,e2,e3])];rw[eL (ρ':=r14 (some (.kl ns)) (uI k) (uR T.length) (uR T3.length) (uR T4.length) a5 a6 a7 a8 a9 a10 a11 a12 a13) (S':=T5) (by unfold r14 at e5 ⊢;rwa[e5])]
end
noncomputable def nb(f i a:Nat):Bool:=!(decide (f=2)&&decide (i=a))
def ne4{f i f' i':Nat}(h:f≠f'\/i≠i'):Pl.x f i≠.x f' i':=fun e=>by injection e with e1 e2;omega
section
variable{lw l20 l21:Nat}{lo:Nat->Nat}{n w:Nat->Int}{st:Nat->List Int}{dls:Nat->List (List U)}{pa:Nat->Option Int}
def IY{ns:List Int}{k:Int}{a5 a6 a7 a8 a9 a10 a11 a12 a13:Option U}(hz:CzO z)(P:Pr zO lw l20 l21 lo n w st dls pa pos c T) :
  ∃(F:Fz) (T':Sto) (pos':Pl->Option Nat) (c':Pl->O),FzO F/\Lx z zO F 0 pos' c' T' (fun _=>[])/\∀g:CS,(aS (cQ 5 (bX (iTp (ak 3)) (gNm 0) (cCB oG (ag (cOp fIx (ak 0) (cC (.int 2))) ay)) 1 []))
  (aS (cQ 6 (bX (bA (ag (cC (.int 2)) ay)) (gNm 0) (cCB (iD z.T (lM z)) (ag (cOp fIx (cOp fIx (ak 3) (ak 0)) (cC (.int 0))) (ag (cOp fIx (cOp fIx (ak 3) (ak 0)) (cC (.int 1))) (ag (cOp fIx (ak 1) (ak 0)) (ag (cOp fIx (ak 2) (ak 0)) ay))))) 1 [5,4,3]))
  (aS (dY (aR (cOp (xv true) (ak 5) (bX (iTp (ak 3)) (gNm 0) (cOp fIx (ak 0) (cC (.int 2))) 1 []))) (b7 (cC (.bl false))) bW)
  (aS (bR (cBM jL (cOp fIx (ak 5) (cC (.int 0))) ay))
  (aS (bR (cBM bK (cOp fIx (ak 5) (cC (.int 1))) (ag (iU ay) ay)))
  (aS (cQ 7 (hX (ag (hX ay) (ag (hX ay) ay))))
  (aS (cQ 8 (hX (ag (hX ay) (ag (hX ay) ay)))) g))))))) (r14 (some (.kl ns)) (uI k) (uR lw) (uR l20) (uR l21) a5 a6 a7 a8 a9 a10 a11 a12 a13) T
   = g (rhL ns F k [a9,a10,a11,a12,a13]) T':=by
 obtain⟨s0,hs0⟩:∃s0,s0=U.tup [.tup [.int (n 0),.int (w 0)],.tup ((st 0).map U.int),.ref (lo 0)]:=⟨_,rfl⟩;obtain⟨s1,hs1⟩:∃s1,s1=U.tup [.tup [.int (n 1),.int (w 1)],.tup ((st 1).map U.int),.ref (lo 1)]:=⟨_,rfl⟩;have c20:=P.c20;rw[<-hs0,<-hs1]at c20;have i02:∀S,fIx s0 (.int 2) S=some (.ref (lo 0),S):=fun S=>by rw[hs0];rfl
 have i12:∀S,fIx s1 (.int 2) S=some (.ref (lo 1),S):=fun S=>by rw[hs1];rfl
 have i00:∀S,fIx s0 (.int 0) S=some (.tup [.int (n 0),.int (w 0)],S):=fun S=>by rw[hs0];rfl
 have i10:∀S,fIx s1 (.int 0) S=some (.tup [.int (n 1),.int (w 1)],S):=fun S=>by rw[hs1];rfl
 have i01:∀S,fIx s0 (.int 1) S=some (.tup ((st 0).map U.int),S):=fun S=>by rw[hs0];rfl
 have i11:∀S,fIx s1 (.int 1) S=some (.tup ((st 1).map U.int),S):=fun S=>by rw[hs1];rfl
 have K0:=P.ok 0 ∅;have K1:=P.ok 1 ∅;obtain⟨u0,hu0⟩:∃u0,u0=(dls 0).map U.tup:=⟨_,rfl⟩;obtain⟨u1,hu1⟩:∃u1,u1=(dls 1).map U.tup:=⟨_,rfl⟩;have c10:=P.c1 0 ∅;have c11:=P.c1 1 ∅;rw[<-hu0]at c10;rw[<-hu1]at c11;have p10:=P.p1 0 ∅;have p11:=P.p1 1 ∅;have Ma:=P.M.new (.x 2 2) (.lst []) [];obtain⟨Ta,hTa⟩:∃Ta,Ta=T++[O.lst []]:=⟨_,rfl⟩;rw[<-hTa]at Ma;have Mb:=Ma.new (.x 3 0) (.lst u0) [];obtain⟨Tb,hTb⟩:∃Tb,Tb=Ta++[O.lst u0]:=⟨_,rfl⟩;rw[<-hTb]at Mb;have qb:bZ (bZ pos (.x 2 2) T.length) (.x 3 0) Ta.length (.x 2 2)=some T.length:=by simp[bZ]
 have Mc:=Mb.set qb (.lst [.ref Ta.length]);obtain⟨Tc',hTc⟩:∃Tc',Tc'=Tb.set T.length (O.lst [.ref Ta.length]):=⟨_,rfl⟩;rw[<-hTc]at Mc;have Md:=Mc.new (.x 3 1) (.lst u1) [];obtain⟨Td,hTd⟩:∃Td,Td=Tc'++[O.lst u1]:=⟨_,rfl⟩;rw[<-hTd]at Md;have qd:bZ (bZ (bZ pos (.x 2 2) T.length) (.x 3 0) Ta.length) (.x 3 1) Tc'.length (.x 2 2)=some T.length:=by simp[bZ]
 have Me:=Md.set qd (.lst [.ref Ta.length,.ref Tc'.length]);obtain⟨Te,hTe⟩:∃Te,Te=Td.set T.length (O.lst [.ref Ta.length,.ref Tc'.length]):=⟨_,rfl⟩;rw[<-hTe]at Me;have eh:bX (iTp (ak 3)) (gNm 0) (cCB oG (ag (cOp fIx (ak 0) (cC (.int 2))) ay)) 1 [] (r14 (some (.kl ns)) (uI k) (uR lw) (uR l20) (uR l21) a5 a6 a7 a8 a9 a10 a11 a12 a13) T=some (.ref T.length,Te):=by
  have g20:=P.M.get P.p20 c20;unfold bX;rw[o9 (l:=l20) (S1:=T) (us:=[s0,s1]) (by rwa[r14]) g20,Z0];show Option.bind (gC (fun S=>S[l20]?=some (.lst [s0,s1])) (gNm 0) (cCB oG (ag (cOp fIx (ak 0) (cC (.int 2))) ay)) T.length [s0,s1] [none] (T++[.lst []])) _=_;rw[<-hTa];have ga1:=Ma.get (s:=.x 1 0) (p:=lo 0) ((aw nofun).trans p10) ((ah nofun).trans c10);rw[dR (ρ0:=[some s0]) (S0:=Ta) (S1:=Tb) (x:=.ref Ta.length) (ys:=[]) (Ma.get (s:=.x 2 0) (p:=l20) ((aw nofun).trans P.p20) ((ah nofun).trans c20)) rfl (by rw[hTb];rwa[i02,ga1]) (Mb.get qb (by simp[aD])) ∅,Zf,<-hTc];have gc1:=Mc.get (s:=.x 1 1) (p:=lo 1) (o:=.lst u1) (by rw[aw nofun,aw nofun];exact p11) (by rw[ah nofun,ah nofun,ah nofun];exact c11);rw[dR (ρ0:=[some s1]) (S0:=Tc') (S1:=Td) (x:=.ref Tc'.length) (ys:=[.ref Ta.length]) (Mc.get (s:=.x 2 0) (p:=l20) (by rw[aw nofun,aw nofun];exact P.p20) (by rw[ah nofun,ah nofun,ah nofun];exact c20)) rfl (by rw[hTd];rwa[i12,gc1]) (Md.get qd (by simp[aD])) (by unfold LIM;exact(by decide:1<100000)),XZ,Zf,<-hTe];rw[gR (Me.get (s:=.x 2 0) (p:=l20) (by rw[aw nofun,aw nofun,aw nofun];exact P.p20) (by rw[ah nofun,ah nofun,ah nofun,ah nofun,ah nofun];exact c20))];rfl
 obtain⟨pe,hpe⟩:∃pe,pe=bZ (bZ (bZ pos (.x 2 2) T.length) (.x 3 0) Ta.length) (.x 3 1) Tc'.length:=⟨_,rfl⟩;obtain⟨ce,hce⟩:∃ce,ce=aD (aD (aD (aD (aD c (.x 2 2) (.lst [])) (.x 3 0) (.lst u0)) (.x 2 2) (.lst [.ref Ta.length])) (.x 3 1) (.lst u1)) (.x 2 2) (.lst [.ref Ta.length,.ref Tc'.length]):=⟨_,rfl⟩;rw[<-hpe,<-hce]at Me;have pe_:∀f i,(!decide (f=3)&&nb f i 2)=true->pe (.x f i)=pos (.x f i)/\ce (.x f i)=c (.x f i):=fun f i h=>by
  simp[nb]at h;have n22:Pl.x f i≠.x 2 2:=ne4 ⋯;have n30:Pl.x f i≠.x 3 0:=ne4 ⋯;have n31:Pl.x f i≠.x 3 1:=ne4 ⋯;rw[hpe,hce,aw n31,aw n30,aw n22,ah n22,ah n31,ah n22,ah n30,ah n22];exact⟨rfl,rfl⟩
 have q22:pe (.x 2 2)=some T.length:=by rw[hpe];simp[bZ]
 have d22:ce (.x 2 2)=.lst [.ref Ta.length,.ref Tc'.length]:=by rw[hce];simp[aD]
 have q30:pe (.x 3 0)=some Ta.length:=by rw[hpe];simp[bZ]
 have d30:ce (.x 3 0)=.lst u0:=by rw[hce];simp[aD]
 have q31:pe (.x 3 1)=some Tc'.length:=by rw[hpe];simp[bZ]
 have d31:ce (.x 3 1)=.lst u1:=by rw[hce];simp[aD]
 clear Ma Mb Mc Md hTa hTb hTc hTd hTe hpe hce qb qd;generalize T.length=l22 at *;generalize Ta.length=h0 at *;generalize Tc'.length=h1 at *;have Mf:=Me.new (.x 2 3) (.lst []) [];obtain⟨Tf,hTf⟩:∃Tf,Tf=Te++[O.lst []]:=⟨_,rfl⟩;rw[<-hTf]at Mf;have xs0:∀f i,nb f i 3=true->bZ pe (.x 2 3) Te.length (.x f i)=pe (.x f i)/\aD ce (.x 2 3) (.lst []) (.x f i)=ce (.x f i):=fun f i h=>by
  simp[nb]at h;have n:Pl.x f i≠.x 2 3:=ne4 ⋯;exact⟨aw n,ah n⟩
 obtain⟨⟨v1,Tg⟩,e1,posg,cg,pp0,qq0,t0,o0,lr0,ld0,hv1,Mg,Rg,Fg⟩:=vi (j:=0) (n:=n 0) (w:=w 0) (st:=st 0) (pa:=pa 0) (dls:=dls 0) (sd:=.x 3 0) hz Mf ((xs0 3 0 rfl).1.trans q30) (by rw[(xs0 3 0 rfl).2,d30,hu0]) (fz ∅) (by rw[K0.st];have:=K0.n1;omega) (by have:=K0.d1;omega);dsimp only at hv1 Mg;subst hv1;have fg:∀f i,f<20->posg (.x f i)=_/\cg (.x f i)=_:=fun f i h=>Fg _ (fz h);have qg:posg (.x 2 3)=some Te.length:=(fg 2 3 ∅).1.trans cI;have Mh:=Mg.set qg (.lst [.ref (t0 0)]);obtain⟨Th,hTh⟩:∃Th,Th=Tg.set Te.length (O.lst [.ref (t0 0)]):=⟨_,rfl⟩;rw[<-hTh]at Mh;have Rh:Tr z 0 (n 0) (w 0) posg (aD cg (.x 2 3) (.lst [.ref (t0 0)])) (CO (st 0) (pa 0) (dls 0)) pp0 qq0 t0 o0 lr0 ld0:=Rg.keep fun s hs=>⟨rfl,ah (d9 ∅ hs)⟩;have fh:∀f i,(decide (f<20)&&nb f i 3)=true->posg (.x f i)=pe (.x f i)/\aD cg (.x 2 3) (.lst [.ref (t0 0)]) (.x f i)=ce (.x f i):=fun f i h=>by
  have h':=(Yj.mp h).2;simp[nb]at h;exact⟨(fg f i h.1).1.trans (xs0 f i h').1,by rw[ah (ne4 ⋯),(fg f i h.1).2,(xs0 f i h').2]⟩
 obtain⟨⟨v2,Ti'⟩,e2,posi,ci,pp1,qq1,t1,o1,lr1,ld1,hv2,Mi,Ri,Fi⟩:=vi (j:=1) (n:=n 1) (w:=w 1) (st:=st 1) (pa:=pa 1) (dls:=dls 1) (sd:=.x 3 1) hz Mh ((fh 3 1 rfl).1.trans q31) (by rw[(fh 3 1 rfl).2,d31,hu1]) (fz ∅) (by rw[K1.st];have:=K1.n1;omega) (by have:=K1.d1;omega);dsimp only at hv2 Mi;subst hv2;have fi:∀f i,f<20->posi (.x f i)=posg (.x f i)/\ci (.x f i)=aD cg (.x 2 3) (.lst [.ref (t0 0)]) (.x f i):=fun f i h=>Fi _ (fz h);have qi:posi (.x 2 3)=some Te.length:=(fi 2 3 ∅).1.trans qg;have Mj:=Mi.set qi (.lst [.ref (t0 0),.ref (t1 0)]);obtain⟨Tj,hTj⟩:∃Tj,Tj=Ti'.set Te.length (O.lst [.ref (t0 0),.ref (t1 0)]):=⟨_,rfl⟩;rw[<-hTj]at Mj;have Rj1:Tr z 1 (n 1) (w 1) posi (aD ci (.x 2 3) (.lst [.ref (t0 0),.ref (t1 0)])) (CO (st 1) (pa 1) (dls 1)) pp1 qq1 t1 o1 lr1 ld1:=Ri.keep fun s hs=>⟨rfl,ah (d9 ∅ hs)⟩;have Rj0:Tr z 0 (n 0) (w 0) posi (aD ci (.x 2 3) (.lst [.ref (t0 0),.ref (t1 0)])) (CO (st 0) (pa 0) (dls 0)) pp0 qq0 t0 o0 lr0 ld0:=Rh.keep fun s hs=>by
  obtain⟨a1,a2⟩:=Fi s (rg ∅ hs);exact⟨a1,by rw[ah (d9 ∅ hs),a2]⟩
 have fj:∀f i,(decide (f<20)&&nb f i 3)=true->posi (.x f i)=pe (.x f i)/\aD ci (.x 2 3) (.lst [.ref (t0 0),.ref (t1 0)]) (.x f i)=ce (.x f i):=fun f i h=>by
  have h':=h;simp[nb]at h;exact⟨(fi f i h.1).1.trans (fh f i h').1,by rw[ah (ne4 ⋯),(fi f i h.1).2,(fh f i h').2]⟩
 have dj:aD ci (.x 2 3) (.lst [.ref (t0 0),.ref (t1 0)]) (.x 2 3)=.lst [.ref (t0 0),.ref (t1 0)]:=aG;have eb:bX (bA (ag (cC (.int 2)) ay)) (gNm 0) (cCB (iD z.T (lM z)) (ag (cOp fIx (cOp fIx (ak 3) (ak 0)) (cC (.int 0))) (ag (cOp fIx (cOp fIx (ak 3) (ak 0)) (cC (.int 1))) (ag (cOp fIx (ak 1) (ak 0)) (ag (cOp fIx (ak 2) (ak 0)) ay))))) 1 [5,4,3] (r14 (some (.kl ns)) (uI k) (uR lw) (uR l20) (uR l21) (uR l22) a6 a7 a8 a9 a10 a11 a12 a13) Te=some (.ref Te.length,Tj):=by
  unfold bX;rw[iI (n:=2) (S1:=Te) (by rwa[]) ∅ ∅,Z0];show Option.bind (gC (fun _=>True) (gNm 0) _ Te.length [.int 0,.int 1] [none,uR l22,uR l21,uR l20] (Te++[.lst []])) _=_;rw[<-hTf];have f20:=Mf.get (s:=.x 2 0) (p:=l20) (o:=.lst [s0,s1]) ((xs0 2 0 rfl).1.trans ((pe_ 2 0 rfl).1.trans P.p20)) ((xs0 2 0 rfl).2.trans ((pe_ 2 0 rfl).2.trans c20));have f21:=Mf.get (s:=.x 2 1) (p:=l21) (o:=.lst [stU (pa 0),stU (pa 1)]) ((xs0 2 1 rfl).1.trans ((pe_ 2 1 rfl).1.trans P.p21)) ((xs0 2 1 rfl).2.trans ((pe_ 2 1 rfl).2.trans P.c21));have f22:=Mf.get (s:=.x 2 2) (p:=l22) ((xs0 2 2 rfl).1.trans q22) ((xs0 2 2 rfl).2.trans d22);rw[dR (ρ0:=[uI 0,uR l22,uR l21,uR l20]) (S0:=Tf) (S1:=Tg) (x:=.ref (t0 0)) (ys:=[]) trivial rfl (by rwa[f20,f21,f22,i00,i01,e1]) (Mg.get qg ((fg 2 3 ∅).2.trans aG)) ∅,Zf,<-hTh];have h20:=Mh.get (s:=.x 2 0) (p:=l20) (o:=.lst [s0,s1]) ((fh 2 0 rfl).1.trans ((pe_ 2 0 rfl).1.trans P.p20)) ((fh 2 0 rfl).2.trans ((pe_ 2 0 rfl).2.trans c20));have h21:=Mh.get (s:=.x 2 1) (p:=l21) (o:=.lst [stU (pa 0),stU (pa 1)]) ((fh 2 1 rfl).1.trans ((pe_ 2 1 rfl).1.trans P.p21)) ((fh 2 1 rfl).2.trans ((pe_ 2 1 rfl).2.trans P.c21));have h22:=Mh.get (s:=.x 2 2) (p:=l22) ((fh 2 2 rfl).1.trans q22) ((fh 2 2 rfl).2.trans d22);rw[dR (ρ0:=[uI 1,uR l22,uR l21,uR l20]) (S0:=Th) (S1:=Ti') (x:=.ref (t1 0)) (ys:=[.ref (t0 0)]) trivial rfl (by rwa[h20,h21,h22,i10,i11,e2]) (Mi.get qi ((fi 2 3 ∅).2.trans aG)) (by unfold LIM;exact(by decide:1<100000)),XZ,Zf,<-hTj];rw[gR trivial];rfl
 generalize Te.length=l23 at eb qi;generalize aD ci (.x 2 3) (.lst [.ref (t0 0),.ref (t1 0)])=cj at Mj Rj1 Rj0 fj dj;clear Mf Mg Mh Mi Rg Rh Ri Fg Fi fg fi fh xs0 hTf hTh hTj e1 e2 qg;have j20:=Mj.get (s:=.x 2 0) (p:=l20) (o:=.lst [s0,s1]) ((fj 2 0 rfl).1.trans ((pe_ 2 0 rfl).1.trans P.p20)) ((fj 2 0 rfl).2.trans ((pe_ 2 0 rfl).2.trans c20));have j22:=Mj.get (s:=.x 2 2) (p:=l22) ((fj 2 2 rfl).1.trans q22) ((fj 2 2 rfl).2.trans d22);have j10:=Mj.get (s:=.x 1 0) (p:=lo 0) (o:=.lst u0) ((fj 1 0 rfl).1.trans ((pe_ 1 0 rfl).1.trans p10)) ((fj 1 0 rfl).2.trans ((pe_ 1 0 rfl).2.trans c10));have j11:=Mj.get (s:=.x 1 1) (p:=lo 1) (o:=.lst u1) ((fj 1 1 rfl).1.trans ((pe_ 1 1 rfl).1.trans p11)) ((fj 1 1 rfl).2.trans ((pe_ 1 1 rfl).2.trans c11));have j30:=Mj.get (s:=.x 3 0) (p:=h0) ((fj 3 0 rfl).1.trans q30) ((fj 3 0 rfl).2.trans d30);have j31:=Mj.get (s:=.x 3 1) (p:=h1) ((fj 3 1 rfl).1.trans q31) ((fj 3 1 rfl).2.trans d31);have cw:Wp (bX (iTp (ak 3)) (gNm 0) (cOp fIx (ak 0) (cC (.int 2))) 1 [] (r14 (some (.kl ns)) (uI k) (uR lw) (uR l20) (uR l21) (uR l22) (uR l23) a7 a8 a9 a10 a11 a12 a13) Tj) fun r=>r.1=.ref Tj.length/\∃G,r.2=Tj++(.lst [.ref (lo 0),.ref (lo 1)]::G):=by
  refine CJ (cs:=[]) (xs:=[(s0,lo 0),(s1,lo 1)]) (f:=fun x=>x.1) (v:=fun x=>.ref x.2) (S1:=Tj) (ok:=fun S=>S[l20]?=some (.lst [s0,s1])) (o9 (l:=l20) (by rwa[r14]) j20) (fun G=>aF j20) (Zb rfl) rfl (fun x hx G=>?_) fun G=>⟨rfl,G,rfl⟩;rcases ZD.mp hx with rfl|hx;exact .of (r:=(.ref (lo 0),Tj++G)) (by rwa[i02]) ⟨rfl,[],(Zj _).symm⟩;rw[ZN.mp hx];exact .of (r:=(.ref (lo 1),Tj++G)) (by rwa[i12]) ⟨rfl,[],(Zj _).symm⟩
 obtain⟨⟨v3,Tk⟩,e3,rfl,G3,hTk⟩:=cw;dsimp only at hTk;have Mk:=Mj.app (.lst [.ref (lo 0),.ref (lo 1)]::G3);have en:xv true (.ref l22) (.ref Tj.length) Tk=some (.bl false,Tk):=by
  have ly:∀j,j<2->∀u∈(dls j).map U.tup,Lay 8 Tk u:=fun j hj u hu=>by
   obtain⟨d,hd,rfl⟩:=Zr.mp hu;exact .tup fun x hx=>DU.lay ((P.ok j hj).ok d hd x hx)
  have k30:Tk[h0]?=some (.lst u0):=by rw[hTk];exact aF j30
  have k31:Tk[h1]?=some (.lst u1):=by rw[hTk];exact aF j31
  have k10:Tk[lo 0]?=some (.lst u0):=by rw[hTk];exact aF j10
  have k11:Tk[lo 1]?=some (.lst u1):=by rw[hTk];exact aF j11
  have k22:Tk[l22]?=some (.lst [.ref h0,.ref h1]):=by rw[hTk];exact aF j22
  have kk:Tk[Tj.length]?=some (.lst [.ref (lo 0),.ref (lo 1)]):=by rw[hTk,ga0];rfl
  have a:=iX.lst k30 k10 (vm (d:=8) fun u hu=>ly 0 ∅ u (by rw[<-hu0];exact hu));have b:=iX.lst k31 k11 (vm (d:=8) fun u hu=>ly 1 ∅ u (by rw[<-hu1];exact hu));exact(iX.lst k22 kk (.cons a (.cons b .nil))).ne ∅
 rw[<-hTk]at Mk;have k22:=Mk.get (s:=.x 2 2) (p:=l22) ((fj 2 2 rfl).1.trans q22) ((fj 2 2 rfl).2.trans d22);have q30j:posi (.x 3 0)=some h0:=(fj 3 0 rfl).1.trans q30;have q31j:posi (.x 3 1)=some h1:=(fj 3 1 rfl).1.trans q31;have k30:=Mk.get q30j ((fj 3 0 rfl).2.trans d30);have Ml:=Mk.set q30j (.lst []);have ecl:jL (.ref h0) [] Tk=some (.non,Tk.set h0 (.lst [])):=by simp only[jL,k30]
 generalize Tk.set h0 (O.lst [])=Tl at Ml ecl;have m22:=Ml.get (s:=.x 2 2) (p:=l22) ((fj 2 2 rfl).1.trans q22) ((ah nofun).trans ((fj 2 2 rfl).2.trans d22));have m31:=Ml.get q31j ((ah nofun).trans ((fj 3 1 rfl).2.trans d31));have Mm':=Ml.set q31j (.lst (u1++[.tup []]));have hL:u1.length<LIM:=by rw[hu1,Q7];have:=K1.d1;unfold LIM;omega
 obtain⟨Tm,hTm⟩:∃Tm,Tm=Tl.set h1 (O.lst (u1++[.tup []])):=⟨_,rfl⟩;rw[<-hTm]at Mm';have Mn:=wH Mm' (.x 4 0) (.x 4 1) (.x 2 4) (.lst []);obtain⟨Tn,hTn⟩:∃Tn,Tn=Tm++[.lst [],.lst [],.lst [.ref Tm.length,.ref (Tm.length+1)]]:=⟨_,rfl⟩;rw[<-hTn]at Mn;have Mo:=wH Mn (.x 5 0) (.x 5 1) (.x 2 5) (.lst []);obtain⟨F,hF⟩:∃F:Fz,F={ lw:=lw,l:=fun f=>if f=0 then l20 else if f=1 then l21 else if f=2 then l22 else if f=3 then l23 else if f=4 then Tm.length+2 else Tn.length+2,ld:=lo,ls:=fun j=>Tm.length+j,lx:=fun j=>Tn.length+j,n:=n,w:=w,st:=st,dls:=dls,pa:=pa,p:=fun j=>if j=0 then pp0 else pp1,t:=fun j=>if j=0 then t0 else t1,o:=fun j=>if j=0 then o0 else o1 }:=⟨_,rfl⟩;obtain⟨po,hpo⟩:∃po,po=bZ (bZ (bZ (bZ (bZ (bZ posi (.x 4 0) Tm.length) (.x 4 1) (Tm.length+1)) (.x 2 4) (Tm.length+2)) (.x 5 0) Tn.length) (.x 5 1) (Tn.length+1)) (.x 2 5) (Tn.length+2):=⟨_,rfl⟩;obtain⟨co,hco⟩:∃co,co=aD (aD (aD (aD (aD (aD (aD (aD cj (.x 3 0) (.lst [])) (.x 3 1) (.lst (u1++[.tup []]))) (.x 4 0) (.lst [])) (.x 4 1) (.lst [])) (.x 2 4) (.lst [.ref Tm.length,.ref (Tm.length+1)])) (.x 5 0) (.lst [])) (.x 5 1) (.lst [])) (.x 2 5) (.lst [.ref Tn.length,.ref (Tn.length+1)]):=⟨_,rfl⟩;rw[<-hpo,<-hco]at Mo;have kp:∀f i,(decide (f<20)&&!decide (f=3)&&!decide (f=4)&&!decide (f=5)&&nb f i 2&&nb f i 3&&nb f i 4&&nb f i 5)=true->po (.x f i)=pos (.x f i)/\co (.x f i)=c (.x f i):=fun f i h=>by
  have ha:(decide (f<20)&&nb f i 3)=true:=by simp[nb]at h ⊢;omega
  have hb:(!decide (f=3)&&nb f i 2)=true:=by simp[nb]at h ⊢;omega
  simp[nb]at h;rw[hpo,hco,aw (ne4 ⋯),aw (ne4 ⋯),aw (ne4 ⋯),aw (ne4 ⋯),aw (ne4 ⋯),aw (ne4 ⋯),ah (ne4 ⋯),ah (ne4 ⋯),ah (ne4 ⋯),ah (ne4 ⋯),ah (ne4 ⋯),ah (ne4 ⋯),ah (ne4 ⋯),ah (ne4 ⋯)];obtain⟨a1,a2⟩:=fj f i ha;obtain⟨b1,b2⟩:=pe_ f i hb;exact⟨a1.trans b1,a2.trans b2⟩
 have ko:∀(j:Nat) (s:Pl),wQ j s->po s=posi s/\co s=cj s:=fun j s hs=>by
  have nn:∀f i,f<20->s≠.x f i:=fun f i h=>d9 h hs;rw[hpo,hco,aw (nn _ _ ∅),aw (nn _ _ ∅),aw (nn _ _ ∅),aw (nn _ _ ∅),aw (nn _ _ ∅),aw (nn _ _ ∅),ah (nn _ _ ∅),ah (nn _ _ ∅),ah (nn _ _ ∅),ah (nn _ _ ∅),ah (nn _ _ ∅),ah (nn _ _ ∅),ah (nn _ _ ∅),ah (nn _ _ ∅)];exact⟨rfl,rfl⟩
 refine⟨F,_,_,_,by subst hF;exact P.ok,⟨Mo,⟨?_,?_,?_,?_,?_,?_,?_,?_,?_,?_,?_,?_⟩,j01 ⟨?_,?_,?_,?_,?_,(fun i hi=>nomatch hi)⟩ ⟨?_,?_,?_,?_,?_,(fun i hi=>nomatch hi)⟩,fun j hj=>Z6 _⟩,?_⟩;exact(kp 0 0 rfl).1.trans P.p0;exact(kp 0 0 rfl).2.trans P.c0;rw[(kp 9 0 rfl).1,hF];exact P.p9;rw[(kp 9 0 rfl).2];exact P.c9;subst hF;intro f hf;match f,hf with
 |0,_=>exact(kp 2 0 rfl).1.trans P.p20
 |1,_=>exact(kp 2 1 rfl).1.trans P.p21
 |2,_=>
  rw[hpo,aw nofun,aw nofun,aw nofun,aw nofun,aw nofun,aw nofun];exact(fj 2 2 rfl).1.trans q22
 |3,_=>
  rw[hpo,aw nofun,aw nofun,aw nofun,aw nofun,aw nofun,aw nofun];exact qi
 |4,_=>rw[hpo];simp[bZ]
 |5,_=>rw[hpo];simp[bZ]
 rw[(kp 2 0 rfl).2,hF];exact P.c20;rw[(kp 2 1 rfl).2,hF];exact P.c21;rw[hco,ah nofun,ah nofun,ah nofun,ah nofun,ah nofun,ah nofun,ah nofun,ah nofun,dj,hF];rfl;rw[hF,hco];simp[aD];rw[hF,hco];simp[aD];rw[hF];exact j01 ((kp 1 0 rfl).1.trans (p10)) ((kp 1 1 rfl).1.trans (p11));rw[hF];exact j01 ((kp 1 0 rfl).2.trans (P.c1 0 ∅)) ((kp 1 1 rfl).2.trans (P.c1 1 ∅));rw[hF,hpo];simp[bZ];rw[hco];simp[aD];rw[hF,hpo];simp[bZ];rw[hco];simp[aD,gb];subst hF;exact⟨_,_,_,Rj0.keep (ko 0)⟩;rw[hF,hpo];simp[bZ];rw[hco];simp[aD];rw[hF,hpo];simp[bZ];rw[hco];simp[aD,gb];subst hF;exact⟨_,_,_,Rj1.keep (ko 1)⟩;intro g;rw[eL (ρ':=r14 (some (.kl ns)) (uI k) (uR lw) (uR l20) (uR l21) (uR l22) a6 a7 a8 a9 a10 a11 a12 a13) (S':=Te) (by unfold r14 at eh ⊢;rwa[eh])];rw[eL (ρ':=r14 (some (.kl ns)) (uI k) (uR lw) (uR l20) (uR l21) (uR l22) (uR l23) a7 a8 a9 a10 a11 a12 a13) (S':=Tj) (by unfold r14 at eb ⊢;rwa[eb])];rw[eL (ρ':=r14 (some (.kl ns)) (uI k) (uR lw) (uR l20) (uR l21) (uR l22) (uR l23) a7 a8 a9 a10 a11 a12 a13) (S':=Tk) (by unfold r14 at e3 ⊢;rwa[e3,en])];rw[eL (ρ':=r14 (some (.kl ns)) (uI k) (uR lw) (uR l20) (uR l21) (uR l22) (uR l23) a7 a8 a9 a10 a11 a12 a13) (S':=Tl) (by unfold r14;rwa[k22,k30,ecl])];rw[eL (ρ':=r14 (some (.kl ns)) (uI k) (uR lw) (uR l20) (uR l21) (uR l22) (uR l23) a7 a8 a9 a10 a11 a12 a13) (S':=Tm) (by unfold r14;rw[hTm];rwa[m22,m31,dZ hL])];rw[eL (ρ':=r14 (some (.kl ns)) (uI k) (uR lw) (uR l20) (uR l21) (uR l22) (uR l23) (uR (Tm.length+2)) a8 a9 a10 a11 a12 a13) (S':=Tn) (by rw[yU,E6,hTn];rfl)];rw[eL (ρ':=rhL ns F k [a9,a10,a11,a12,a13]) (by rw[yU,E6];subst hF;rfl)]
end
section
variable{ns:List Int}
def Bg(zO:O)(S:Sto):Prop:=∃pos c,Mm pos c S/\pos (.x 0 0)=some 0/\c (.x 0 0)=zO
def IW{k:Int}{a2 a3 a4 a5 a6 a7 a8 a9 a10 a11 a12 a13:Option U}{T:Sto}(hz:CzO z)(B:Bg zO T)(k0:0<=k):Wp (fL z zO rY (r14 (some (.kl ns)) (uI k) a2 a3 a4 a5 a6 a7 a8 a9 a10 a11 a12 a13) T) fun s=>s.1=.nx/\(∃r:List (Option U),r.length=12/\s.2.1=some (.kl ns)::uI k::r)/\Bg zO s.2.2:=by
 obtain⟨pos,c,M,p0,c0⟩:=B;unfold fL rY;obtain⟨lw,l20,l21,lo,n,w,st,dls,pa,pos1,c1,T1,P,e1⟩:=KY (zO:=zO) (ns:=ns) (k:=k) (a2:=a2) (a3:=a3) (a4:=a4) (a5:=a5) (a6:=a6) (a7:=a7) (a8:=a8) (a9:=a9) (a10:=a10) (a11:=a11) (a12:=a12) (a13:=a13) M p0 c0 k0;rw[e1];clear e1;obtain⟨F,T2,pos2,c2,FO,X,e2⟩:=IY (ns:=ns) (k:=k) (a5:=a5) (a6:=a6) (a7:=a7) (a8:=a8) (a9:=a9) (a10:=a10) (a11:=a11) (a12:=a12) (a13:=a13) hz P;rw[e2];clear e2;have lp:Wp (oP (bA (ag (cC (.int 50)) ay)) (gNm 9) (fL z zO rZ) (rhL ns F k [a9,a10,a11,a12,a13]) T2) fun s=>s.1=.nx/\∃r9 r10 r11 pos' c' is,s.2.1=rhL ns F k [r9,r10,r11,a12,a13]/\Lx z zO F 50 pos' c' s.2.2 is:=by
  have hi:bA (ag (cC (.int 50)) ay) (rhL ns F k [a9,a10,a11,a12,a13]) T2=some ((ZF 50).map fun i:Nat=>U.int (i:Int),fun _=>True,T2):=by
   rw[iI (n:=50) (S1:=T2) (by rwa[]) ∅ ∅,nZ];rfl
  refine MV hi (CH (fun xs ρ S=>∃m r9 r10 r11 pos' c' is,m+xs.length=50/\ρ=rhL ns F k [r9,r10,r11,a12,a13]/\Lx z zO F m pos' c' S is) (fun ρ S h=>?_) (fun x xs ρ S h=>?_) _ _ _ ⟨0,_,_,_,_,_,_,by rw[Za],rfl,X⟩);obtain⟨m,r9,r10,r11,pos',c',is,hm,rfl,X'⟩:=h;rw[XF,Nat.add_zero]at hm;subst hm;exact⟨trivial,rfl,_,_,_,_,_,_,rfl,X'⟩;obtain⟨m,r9,r10,r11,pos',c',is,hm,rfl,X'⟩:=h;rw[ZZ]at hm;refine⟨trivial,.of (r:=(rhL ns F k [uI (x:Int),r10,r11,a12,a13],S)) rfl ?_⟩;refine(GZ (ns:=ns) (k:=k) (r9:=(uI (x:Int))) (r10:=r10) (r11:=r11) (r12:=a12) (r13:=a13) hz FO X' ⋯).mono fun s hs=>?_;obtain⟨h1,r10',r11',pos2,c2,is2,h2,X2⟩:=hs;exact .inl ⟨h1,m+1,_,_,_,pos2,c2,is2,⋯,h2,X2⟩
 obtain⟨⟨ot,ρ3,T3⟩,e3,h1,r9,r10,r11,pos3,c3,is,h2,X3⟩:=lp;dsimp only at h1 h2 X3;subst h1 h2;unfold fL at e3;rw[eL e3];clear e3;obtain⟨⟨o4,ρ4,T4⟩,e4,h4,r12,r13,pos4,c4,h4',X4⟩:=wI (ns:=ns) (k:=k) (d:=0) (j:=0) (r9:=r9) (r11:=r11) (r12:=a12) (r13:=a13) hz FO X3 ∅ rfl ∅ ∅;dsimp only at h4 h4' X4;subst h4 h4';obtain⟨⟨o5,ρ5,T5⟩,e5,h5,r12',r13',pos5,c5,h5',X5⟩:=wI (ns:=ns) (k:=k) (d:=1) (j:=1) (r9:=r9) (r11:=r11) (r12:=r12) (r13:=r13) hz FO X4 ∅ rfl ∅ ∅;dsimp only at h5 h5' X5;subst h5 h5';refine .of (r:=(.nx,rhL ns F k [r9,uI 1,r11,r12',r13'],T5)) ?_ ⟨rfl,⟨_,rfl,rfl⟩,pos5,c5,X5.M,X5.a.z0,X5.a.cz⟩;unfold oP;rw[iI (n:=2) (S1:=T3) (by rwa[]) ∅ ∅,Z0];exact((jg trivial rfl e4).trans (jg trivial rfl e5)).trans (iH trivial)
def Dm:Pl->Option Nat:=fun s=>if s=.x 0 0 then some 0 else none
def m0D:Mm Dm (fun _=>zO) [zO]:=by
 refine⟨fun s p h=>?_,fun s s' p h h'=>?_⟩;unfold Dm at h;split at h;cases h;rfl;cases h;unfold Dm at h h';split at h;split at h';rename_i a b;rw[a,b];cases h';cases h
def bg0:Bg zO [zO]:=⟨Dm,_,m0D,Xd rfl,rfl⟩
def LL(hz:CzO z)(ns:List Int)(hl:ns.length<=63):∃ρ' S',IX uV (qE (mN 3)) i9 (xQ z zO) (MJ z) (uW z) (kY z zO) (lM z) z.T [some (.kl ns),none,none,none,none,none,none,none,none,none,none,none,none,none] [zO]=some (.rt (.bl true),ρ',S'):=by
 obtain⟨v,hv⟩:∃v,v=(if ((if ((ns.length:Nat):Int)<3 then((ns.length:Nat):Int)else 3):Int)>2 then(if ((ns.length:Nat):Int)<3 then((ns.length:Nat):Int)else 3)else 2):=⟨_,rfl⟩;have v0:0<=v/\v<=3:=by rw[hv];split<;>split<;>omega
 have a1:ag (cCB Jp (ag (cC (.int 2)) (ag (cCB Jo (ag (cC (.int 3)) (ag (cCB jC (ag (ak 0) ay)) ay))) ay))) ay [some (.kl ns),none,none,none,none,none,none,none,none,none,none,none,none,none] [zO]=some ([.int v],[zO]):=by
  have h1:∀i j:Int,Jo [.int i,.int j] [zO]=some (.int (if j<i then j else i),[zO]):=fun i j=>rfl;have h2:∀i j:Int,Jp [.int i,.int j] [zO]=some (.int (if j>i then j else i),[zO]):=fun i j=>rfl;have h3:jC [.kl ns] [zO]=some (.int ((ns.length:Nat):Int),[zO]):=rfl;rw[hv];rwa[h1,h2,h3]
 have hi:bA (ag (cCB Jp (ag (cC (.int 2)) (ag (cCB Jo (ag (cC (.int 3)) (ag (cCB jC (ag (ak 0) ay)) ay))) ay))) ay) [some (.kl ns),none,none,none,none,none,none,none,none,none,none,none,none,none] [zO]=some ((ZF v.toNat).map fun i:Nat=>U.int (i:Int),fun _=>True,[zO]):=by
  rw[iI (n:=v) (S1:=[zO]) a1 v0.1 ⋯,nZ]
 have b0:Bg zO [zO]:=bg0;have lp:Wp (oP (bA (ag (cCB Jp (ag (cC (.int 2)) (ag (cCB Jo (ag (cC (.int 3)) (ag (cCB jC (ag (ak 0) ay)) ay))) ay))) ay)) (gNm 1) (fL z zO rY) [some (.kl ns),none,none,none,none,none,none,none,none,none,none,none,none,none] [zO]) fun s=>s.1=.nx:=by
  refine MV hi (CH (fun xs ρ S=>(∃r:List (Option U),r.length=13/\ρ=some (.kl ns)::r)/\Bg zO S) (fun ρ S h=>⟨trivial,rfl⟩) (fun x xs ρ S h=>?_) _ _ _ ⟨⟨_,rfl,rfl⟩,b0⟩);obtain⟨⟨r,hr,rfl⟩,B⟩:=h;match r,hr with
  |[a1,a2,a3,a4,a5,a6,a7,a8,a9,a10,a11,a12,a13],_=>
   refine⟨trivial,.of (r:=(r14 (some (.kl ns)) (uI (x:Int)) a2 a3 a4 a5 a6 a7 a8 a9 a10 a11 a12 a13,S)) rfl ?_⟩;refine(IW (k:=(x:Int)) hz B ⋯).mono fun s hs=>?_;obtain⟨h1,⟨r,hr,h2⟩,h3⟩:=hs;exact .inl ⟨h1,⟨_,by rw[ZZ,hr],h2⟩,h3⟩
 obtain⟨⟨o,ρ1,S1⟩,e,h1⟩:=lp;dsimp only at h1;subst h1;unfold fL at e;unfold IX;rw[eL e];exact⟨_,_,rfl⟩
end
def H0{P:ZI}{w:Zk}{K:Q3}{h:Heap}{mg:Str->Option Q4}{st:Zv}{k:Nat}{sp:Sp}{fa:Addr}(d:MS K "law" st)(X:K.In h)(G:h.Ns mainGlobals mg)(hfa:mg "law"=some (.ref fa))(ok:∀fd,Fun K "law" "law" st fa fd->∀base:Heap,Ca mg base->lQ P w K mg base CX0 k fa fd ["script"] sp)
  (b:∀(kV doc pm:Q4) (an:Option Addr) (cdv ct v:Q4),bindArgs (YB "law" "law" (gX st) (bN st) (aA st) .none kV doc pm an cdv ct) ⟨[v],[]⟩=pure [(("script":Str),v)]:=by intros;rfl) :
  ∃fd:XE,(∀(s:Q5) (v:Q4),BindsTo s fd ⟨[v],[]⟩ [("script",v)])/\∀base:Heap,K.In base->base.Ns mainGlobals mg->Ca mg base->lQ P w K mg base CX0 k fa fd ["script"] sp:=by
 obtain⟨f,a,fd,F⟩:=d;cases hfa.symm.trans (PySem.W.mg_of X G a);refine⟨fd,fun s v=>?_,fun base _ _ bm=>ok fd F base bm⟩;obtain⟨oc,od,kV,doc,pm,an,cdv,ct,osl,rfl,lk,hcd⟩:=F.ex;exact .of_eq (b kV doc pm an cdv ct v)
def MI{l:PySem.W.OpenLaw}{w:Zk}{K:Q3}{h:Heap}{mg:Str->Option Q4}{fa:Addr}(X:K.In h)(G:h.Ns mainGlobals mg)(hfa:mg "law"=some (.ref fa))
  {y124:Addr}
  {y131:Addr}
  {y134:Addr}
  {y129:Addr}
  {y135:Addr}
  (ds:MR K [("with_at",tF),("onwards",tH),("_law_well",nV),("_law_sip",qc),("_law_dealing",jD),("_law_some",nW),("_law_all",qe),("law",Hg)])
  (y110:B8 K "Attempt" y124 ["glance","looked","puts","stamp","unwritten","is_open"] [("__init__","Attempt.__init__",jI),("instant","Attempt.instant",iC)])
  (y118:B8 K "Keeper" y131 ["boxes","marks","holders","ticks","events","known"] [("__init__","Keeper.__init__",ky),("end","Keeper.end",mx),("found","Keeper.found",jG),("untaken","Keeper.untaken",i6),("is_barred","Keeper.is_barred",gI),("has_changed","Keeper.has_changed",fF),("would_fall","Keeper.would_fall",gh),("look_anew","Keeper.look_anew",gH),("begin","Keeper.begin",jH),("look","Keeper.look",kx),("put","Keeper.put",mr),("take","Keeper.take",kq),("write","Keeper.write",jF),("fall","Keeper.fall",kB),("looked_into","Keeper.looked_into",fE),("log","Keeper.log",mw),("order","Keeper.order",gW),("now","Keeper.now",mv)])
  (y123:B8 K "Doing" y134 ["wheel","held","puts","part"] [("__init__","Doing.__init__",my),("deed","Doing.deed",mC),("asks","Doing.asks",mD),("hold","Doing.hold",mz),("part_behind","Doing.part_behind",gm),("go_behind","Doing.go_behind",iA),("hear","Doing.hear",mB),("enter_try","Doing.enter_try",iB),("goes_back","Doing.goes_back",iq),("do_deed","Doing.do_deed",je),("put_pairs","Doing.put_pairs",ik)])
  (y119:B8 K "Trying" y129 ["dealing","attempt","doing","stage","fallen","fallen_lately"] [("__init__","Trying.__init__",ke)])
  (y127:MtE K y135 "__init__" "Tries.__init__" mq)
  (y126:B8 K "Tries" y135 ["world","keeper","patience","ones","begun","row"] [("is_first","Tries.is_first",i4),("sleeps","Tries.sleeps",jE),("leave_row","Tries.leave_row",ic),("go_in","Tries.go_in",km),("go_asleep","Tries.go_asleep",ig),("go_falling","Tries.go_falling",gG),("go_done","Tries.go_done",jd),("go_looking","Tries.go_looking",gF),("may_not_take","Tries.may_not_take",fD),("go_taking","Tries.go_taking",ie),("go_writing","Tries.go_writing",gE),("go_on","Tries.go_on",kj),("go","Tries.go",qh),("log","Tries.log",nY),("order","Tries.order",kh),("now","Tries.now",nX),("falls","Tries.falls",kn),("hands","Tries.hands",ki),("rests","Tries.rests",kg)])
  (zs:Nw K Qs)
  {cO pO:Addr} (cod:Jg K y131 "order" cO pO) :
  ∃fd:XE,(∀(s:Q5) (v:Q4),BindsTo s fd ⟨[v],[]⟩ [("script",v)])/\∀base:Heap,K.In base->base.Ns mainGlobals mg->Ca mg base->lQ l.prog w K mg base CX0 8 fa fd ["script"] (wL pO K):=by
 obtain⟨y121,y122,y108,y116,y54,y102,y115,y136,-⟩:=ds;obtain⟨y59,y20,-⟩:=y110.ms;have y125:=y110.tc;obtain⟨y62,y101,y60,y39,y16,y4,y8,y11,y58,y78,y83,y65,y49,y82,y2,y100,y57,y84,-⟩:=y118.ms;have y130:=y118.tc;obtain⟨y92,y90,y93,y98,y9,y24,y94,y26,y29,y45,y21,-⟩:=y123.ms;have y132:=y123.tc;obtain⟨y68,-⟩:=y119.ms;have y128:=y119.tc;obtain⟨y37,y51,y23,y70,y25,y18,y44,y19,y0,y22,y12,y81,y113,y105,y61,y106,y72,y64,y71,-⟩:=y126.ms;have y133:=y126.tc;have B:=zs.blt X G;refine H0 y136 X G hfa fun fd F_law base bm=>?_;have V:Vw ⟨l.prog,w,K,mg,base⟩ ⟨y135,_⟩ ⟨y129,_⟩ ⟨y134,_⟩ ⟨y131,_⟩ ⟨y124,_⟩:=⟨B,y133,y128,y132,y130,y125⟩;have y55:=pF V (k:=0) (y110.mkd y59 X G);have y28:=lE V (k:=0) (y20.mt);have y76:=rH V (k:=0) (y118.mkd y62 X G);have y85:=uq V (k:=0) (y101.mt);have y53:=pC V (k:=0) (y60.mt);have y38:=mM V (k:=1) (y39.mt) y53;have y17:=kN V (k:=0) (y16.mt);have y1:=jB V (k:=0) (y4.mt);have y6:=jW V (k:=1) (y8.mt) y17 y1;have y10:=kM V (k:=0) (y11.mt);have y48:=pE V (k:=1) (y58.mt) y55;have y75:=rG V (k:=2) (y78.mt) y38 y6 y85.up y10.up;have y89:=uj V (k:=2) (y83.mt) y38;have y73:=rF V (k:=2) (y65.mt) y38 y85.up y17.up y1.up;have y50:=pj V (k:=1) (y49.mt) y53 y85;have y79:=rJ V (k:=2) (y82.mt) y38 y85.up;have y5:=jA V (k:=0) (y2.mt);have y86:=uo V (k:=0) (y100.mt);have y52:=pq (P:=l.prog) (w:=w) (base:=base) (k:=1) (y57.mt) cod bm B y130 y125 y28;have y96:=um V (k:=0) (y84.mt);have y120:=Ba V (k:=0) (y121.df X G);have y117:=Bb V (k:=0) (fuel:=100) (y122.df X G);have y91:=uy V (k:=0) (y90.mt);have y88:=uz V (k:=1) (y93.mt) y91;have y95:=uw V (k:=1) (y98.mt) y120;have y7:=jX V (k:=0) (y9.mt);have y32:=lC V (k:=1) (y24.mt) y117 y7;have y99:=ux V (k:=2) (y94.mt) y95 y91.up y32;have y27:=lD V (k:=1) (y26.mt) y117 y7;have y34:=lB V (k:=0) (y29.mt);have y43:=oC V (k:=2) (y45.mt) (Has.mono y120 ∅) y91.up y34.up y27 y95 y32;have y31:=lA V (k:=0) (y21.mt);have y97:=uu V (k:=1) (y123.mkd y92 X G) y117;have y67:=rp V (k:=0) (y119.mkd y68 X G);have y87:=ui V (k:=1) (y126.mkE y127 X G (fun us hl _ _ _ _ _ _ _=>match us,hl with|[_,_,_,_,_],_=>⟨_,rfl,rfl⟩)) y76 y67;have y36:=mL V (k:=0) (y37.mt);have y56:=ph V (k:=1) (y51.mt) y1;have y30:=lh V (k:=0) (y23.mt);have y69:=rD V (k:=2) (y70.mt) y48 y97;have y35:=lu V (k:=3) (y25.mt) y79 y30.up;have y13:=kL V (k:=0) (y18.mt);have y46:=oB V (k:=1) (y44.mt) y30;have y15:=kK V (k:=3) (y19.mt) y91.up y36.up y17.up y75 y13.up y99;have y3:=jy V (k:=1) (y0.mt) y36 y17 y5;have y33:=lj V (k:=3) (y22.mt) y31.up y3.up y89 y73 y13.up y46.up;have y14:=kJ V (k:=2) (y12.mt) y50 y46;have y80:=rC V (k:=4) (y81.mt) y91.up y33 y88.up y15 y43.up y35;have y112:=yw V (k:=5) (y113.mt) y56.up y36.up y80 y14.up y69.up;have y109:=vO V (k:=1) (y105.mt) y86;have y74:=rA V (k:=5) (y61.mt) y52;have y103:=vN V (k:=1) (y106.mt) y96;have y66:=rE V (k:=0) (y72.mt);have y63:=rB V (k:=0) (y64.mt);have y77:=rq V (k:=2) (y71.mt) y56;have y104:=vL V (k:=0) (y108.df X G);have y114:=yu V (k:=0) (y116.df X G);have y47:yR l.prog w K mg base "_law_dealing" 2 ["well","world","most","deep","purse"] (mN 0):=fc V (k:=1) (y54.df X G) y114 ((y54.df X G (ps:=["well","world","most","deep","purse"])).no);have y42:yR l.prog w K mg base "_law_dealing" 3 ["well","world","most","deep","purse"] (mN 1):=fc V (k:=2) (y54.df X G) (Has.mono y114 ∅) y47;have y40:yR l.prog w K mg base "_law_dealing" 4 ["well","world","most","deep","purse"] (mN 2):=fc V (k:=3) (y54.df X G) (Has.mono y114 ∅) y42;have y41:yR l.prog w K mg base "_law_dealing" 5 ["well","world","most","deep","purse"] (mN 3):=fc V (k:=4) (y54.df X G) (Has.mono y114 ∅) y40;have y107:=vM V (k:=5) (y102.df X G) (Has.mono y114 ∅) y41;have y111:=yv V (k:=6) (y115.df X G) y63.up y66.up y77.up y103.up y74 y109.up;exact Ph (P:=l.prog) (w:=w) (base:=base) (k:=6) F_law B y133 (Has.mono y104 ∅) (Has.mono y107 ∅) (Has.mono y114 ∅) y111 (y112.mono ∅) (y109.mono ∅) (y74.mono ∅) (y87.mono ∅) fun ns hl=>LL (z:=⟨⟨y131,_⟩,⟨y124,_⟩,⟨y134,_⟩,⟨y129,_⟩,⟨y135,_⟩⟩) ⟨rfl,rfl,rfl,rfl,rfl⟩ ns hl
def QD{l:PySem.W.OpenLaw}{q:ZI}{eQ:List Str}{XP:(Str->Option Q4)->Heap->Prop}{YP:Zk->Heap->Prop}{d:DefRec}{K:Params->Q3}(p:Addr)(hn:l.most=some 63)(hdf:d.params.defaults=[])
  (hY:∀(w:Zk) (h:Heap),YP w h->(K w.params).In h/\h.get? p=some (PySem.W.tabObj #[])) (hK:∀w:Zk,(K w.params).lookup p=none) (hC:∀w:Zk,∃c,PySem.W.codeHdIn (K w.params) c p=true)
  (F:∀(w:Zk) (mg:Str->Option Q4) (fa:Addr) (h:Heap),(K w.params).In h->h.Ns mainGlobals mg->mg d.name=some (.ref fa)->
   ∃fd:XE,(∀(s:Q5) (u:Q4),BindsTo s fd ⟨[u],[]⟩ [("script",u)])/\∀base:Heap,(K w.params).In base->base.Ns mainGlobals mg->Ca mg base->lQ l.prog w (K w.params) mg base CX0 8 fa fd ["script"] (wL p (K w.params))) :
  PySem.W.WalkO q eQ XP YP l.row.toRowW d [] (fun f vs=>PySem.call f vs):=
 L2.CF (n:=63) (k:=8) (x:="script") (p:=p) (sp:=fun w=>wL p (K w.params)) hn ∅ hdf ⟨rfl,∅,∅,rfl⟩ hY hK hC F (fun _ _ a ns hl hO hS=>⟨a,ns,rfl,LM hO hS,hl,hO.1,fun _=>rfl⟩)
end OL
namespace PySem.W.Fast
def tw9576755553494631551:=0
def tw940839836953778373:=0
def tw16338366956079182858:=0
def tw333718414922392879:=0
def tw9795772165717448809:=0
def tw8424234641340448263:=0
def tw2059403258555275840:=0
def tw18159825079185313011:=0
def tw12656419844868196651:=0
def tw12529947695447869616:=0
def tw15279574921737006832:=0
def tw616889321258261918:=0
def tw2785685500294487853:=0
def tw5138430019857418292:=0
def tw2201178222437913755:=0
def tw4702234303291528139:=0
def tw16586304115980061489:=0
def tw7964930895882133815:=0
def tw14245495629310146650:=0
def tw6452897332483520775:=0
def tw7130106140418791512:=0
def tw5351857205805430714:=0
def tw10562725036960624815:=0
def tw2636433502055960628:=0
def tw11301920462836192536:=0
def tw7363675423674560607:=0
def tw7155427640428148400:=0
def tw15442015904733519787:=0
def tw12583158189683442837:=0
def tw9838039838797188713:=0
def tw2549783450175289818:=0
def tw9549469561231669375:=0
def tw13983478148111467285:=0
def tw17140352660911246971:=0
def tw12843665699699348929:=0
def tw593495307698910899:=0
def tw14347308819987196571:=0
def tw18407354369997630907:=0
def tw9812972170361128511:=0
def tw1246141048418223287:=0
def tw4776190594427711181:=0
def tw1509942616732530186:=0
def tw8172015137530342168:=0
def tw4849122982329297584:=0
def tw2917315911916838970:=0
def tw18062196941631070325:=0
def tw13907835482160675405:=0
def tw2482408522131833079:=0
def tw15418551967692761244:=0
def tw6753567179667568701:=0
def tw5764911354749333459:=0
def tw12884039771416434418:=0
def tw3483223521436969189:=0
def tw14904754685335010770:=0
def tw16222441345032632517:=0
def tw14278563213548894176:=0
def tw7298039660977092976:=0
def tw10898683242560901552:=0
def tw519490601829795769:=0
def tw1549728899868259743:=0
def tw16792156846874152589:=0
def tw11649741927556247388:=0
def tw2973088243053962111:=0
def tw12638181669730338652:=0
def tw5499449850461895288:=0
def tw9558720809635727262:=0
def tw11798352850343818074:=0
def tw6447145623559787779:=0
def tw2039256427779271856:=0
def tw12147275945427410303:=0
def tw15201684699288591963:=0
def tw10377025701676156680:=0
def tw12617385701694225840:=0
def tw10379256438739306581:=0
def tw595935325359997203:=0
def tw10728394723823585284:=0
def tw6281290748220717290:=0
def tw193314811909345238:=0
def tw13174000503050186627:=0
def tw2549038576235018152:=0
def tw7421062831015190567:=0
def tw10609244375058254322:=0
def tw6545452376895012064:=0
def tw16185156530155967222:=0
def tw703749977143136451:=0
def tw18325614243306599171:=0
def tw15234128820206374325:=0
def tw13459059157651550220:=0
def tw802079800273895414:=0
def tw23304443551557038:=0
def tw950420808799032444:=0
def tw10525015238540617976:=0
def tw8518931319928462600:=0
def tw3106316458145556867:=0
def tw437752250828042774:=0
def tw16089054696088832863:=0
def tw14922360737199769523:=0
def tw9604237078480678808:=0
def tw5725700176683852714:=0
def tw3454275135776109487:=0
def tw17464962376637639992:=0
def tw8574285744250979973:=0
def tw1341738118178058299:=0
def tw5761352310002609456:=0
def tw16997703242717431152:=0
def tw328434056630749177:=0
def tw10612248884927870276:=0
def tw2080052495303900646:=0
def tw16063237938133717424:=0
def tw13622906390254287641:=0
def tw7347724716694376456:=0
def tw14400560110338495191:=0
def tw16641526369968374391:=0
def tw15892915630797467217:=0
def tw2306157638380019895:=0
def tw5028997702786967158:=0
def tw17404253757991676726:=0
def tw12738892656087304691:=0
def tw10416837534322153053:=0
def tw4046555343124727993:=0
def tw12747818119232647255:=0
def tw2537260929711686175:=0
def tw13127051253554012737:=0
def tw5789755114976538025:=0
def tw9635669165863604279:=0
def tw10417108222052177397:=0
def tw6386637247891760394:=0
def tw8977984242921901108:=0
def tw13352942358175393794:=0
def tw5915821217250316085:=0
def tw6469238701369126958:=0
def tw2050854767639982185:=0
def tw3138243650122806094:=0
def tw17293007757306467664:=0
def tw2455737571235598346:=0
def tw11830189425114338646:=0
def tw5681312571308092857:=0
def tw2370734646129166708:=0
def tw7775512431142549118:=0
def tw15492124174873542213:=0
def tw16732198235573202992:=0
def tw17252495774199463231:=0
def tw3064395632560877405:=0
def tw2430409802323509657:=0
def tw10703840226956412063:=0
def tw8469782185095956023:=0
def tw3822761282744667270:=0
def tw8551912068524917224:=0
def tw3277302794100965762:=0
def tw767568653321773239:=0
def tw5215088738267911237:=0
def tw14989757524582206132:=0
def tw15498512994139058970:=0
def tw12862016296684066279:=0
def tw477505149085920736:=0
def tw2358152905625598544:=0
def tw12640814036663107967:=0
def tw1901698087493406764:=0
def tw13595396314342539593:=0
def tw11015954638444996646:=0
def tw3173119089314356575:=0
def tw16602788776854868974:=0
def tw2500731785672883472:=0
def tw3807870783409318744:=0
def tw11426310392533474139:=0
def tw6722194076785680780:=0
def tw8270628501196943192:=0
def tw5543125433752448360:=0
def tw13188270579335471957:=0
def tw122271787231014440:=0
def tw12093360226822018500:=0
def tw16009909127423138817:=0
def tw9739848547734311276:=0
def tw8261430418721113648:=0
def tw2399131335425985036:=0
def tw13381275145222786354:=0
def tw6068314161148948309:=0
def tw13633860272393956085:=0
def tw18257813031443754796:=0
def tw14484120587672981475:=0
def tw3462817326209033780:=0
def tw11701538073349831937:=0
def tw13403271095023130305:=0
def tw18184900718753653577:=0
def tw18052002332783511877:=0
def tw14145056221150337189:=0
def tw10966848242637564055:=0
def tw12939826579146959129:=0
def tw17875498947788027150:=0
def tw4514460095538937503:=0
def tw9270089274616969297:=0
def tw17003552181978970144:=0
def tw16592397781274589941:=0
def tw8027783110519269212:=0
def tw4680426656559989106:=0
def tw12522167925323211235:=0
def tw6948106132269307906:=0
def tw9845597717752914630:=0
def tw12724472570121161155:=0
def tw15489584223136696533:=0
def tw1749260443355405063:=0
def tw1640492062200894006:=0
def tw15667236276220794073:=0
def tw8987401320527248197:=0
def tw18040121359130076588:=0
def tw15971082194750076575:=0
def tw13631386465732538374:=0
def tw1916022830199225110:=0
def tw14027775691041379220:=0
def tw17369844095949578246:=0
def tw15721737279703098542:=0
def tw5545537955910993611:=0
def tw14641810425972356540:=0
def tw9496151253098415246:=0
def tw2154777273557559042:=0
def tw4923234460487993399:=0
def tw12151269261051416659:=0
def tw11044033384462792170:=0
def tw15728777046158805991:=0
def tw10814984763928852298:=0
def tw8397251231809182298:=0
def tw5512255645111988067:=0
def tw9856356519244694245:=0
def tw12725451363261481315:=0
def tw14134139799813065040:=0
def tw5593107411048557485:=0
def tw3955203510854241528:=0
def tw8375299865152888007:=0
def tw13915253359496810505:=0
def tw5286022857003859588:=0
def tw16517052280960560879:=0
def tw4108764928769621960:=0
def tw17414436917802380585:=0
def tw8588162993497863305:=0
def tw202817260096667322:=0
def tw12990115923109807918:=0
def tw1254348747535595040:=0
def tw12262049130546023369:=0
def tw11546435773639617728:=0
def tw10199000527311753389:=0
def tw16354978171571802768:=0
def tw1611814771299930581:=0
def tw404855354603475691:=0
def tw18245718366200438806:=0
def tw8640426343357523116:=0
def tw7878769575290565019:=0
def tw12241425574297980741:=0
def tw5409869616103692064:=0
def tw15931931886478401121:=0
def tw9560480623093574561:=0
def tw1076708259564264452:=0
def tw5940670329411464513:=0
def tw14681191966348778845:=0
def tw9300420419571035940:=0
def tw8293256302121693821:=0
def tw2186587498980550802:=0
def tw15244591853719827687:=0
def tw12747636284759698542:=0
def tw12475936847972082092:=0
def tw11488676490294493436:=0
def tw3741659240960227581:=0
def tw9646299929448479563:=0
def tw5333164140199638239:=0
def tw12152370544211115228:=0
def tw8202280915322956901:=0
def tw2375166336485423778:=0
def tw17745800759515282355:=0
def tw10864030872723046839:=0
def tw9536429382618637625:=0
def tw1904857593975453215:=0
def tw16782319449845143928:=0
def tw16514140710811343927:=0
def tw13761540689348709693:=0
def tw11431785591526397982:=0
def tw63052928354288443:=0
def tw6768464835146687541:=0
def tw5060999810174135416:=0
def tw9183492378261037344:=0
def tw5946623005650314649:=0
def tw14200818965834517705:=0
def tw12747901558301091870:=0
def tw7061253578184682015:=0
def tw4055093847585404316:=0
def tw2046296969029666578:=0
def tw14503260928606703193:=0
def tw12006283238730292635:=0
def tw14148533492706177954:=0
def tw1090751396446928451:=0
def tw9895695785360525546:=0
def tw6663730759678245400:=0
def tw6180110107055132808:=0
def tw17938466610079565098:=0
def tw1759722316724437227:=0
def tw15480090112469752645:=0
def tw12203947270212362224:=0
def tw11588324097538714259:=0
def tw17139755878879783304:=0
def tw16513453448632156367:=0
def tw9813091705728119066:=0
def tw714066588752883463:=0
def tw6646394462365906977:=0
def tw17642631408112490904:=0
def tw13547517116217590096:=0
def tw11290913238276730961:=0
def tw7527008267077652488:=0
def tw11519391811289527979:=0
def tw15629047935217620057:=0
def tw2481054690886774043:=0
def tw9740080811479476204:=0
def tw18167236284837557892:=0
def tw5962340697274935278:=0
def tw15225568307538092207:=0
def tw17483542461647735449:=0
def tw16861254661745187902:=0
def tw9959525352166617284:=0
def tw751356321288010121:=0
def tw5965042809416407902:=0
def tw8539175481816280538:=0
def tw16176911501456470323:=0
def tw10977992425449352538:=0
def tw4282869917586744368:=0
def tw17518714817708129331:=0
def tw14806067450504001512:=0
def tw3241014800818255527:=0
def tw8074669060588121918:=0
def tw716845458263128156:=0
def tw1467784348987313299:=0
def tw12424465951216501576:=0
def tw1697280242142743954:=0
def tw17405354228907760873:=0
def tw13518343766368342125:=0
def tw9814183718842524050:=0
def tw14630800350142203439:=0
def tw12601759772921229038:=0
def tw4142977264316941960:=0
end PySem.W.Fast
open PySem PySem.W PyProof.Rows
open OP in
set_option maxRecDepth 100000 in
set_option maxHeartbeats 0 in
theorem PySem.Challenge.cw_oneglance_k47_two_tries_by_turns_holds : PySem.Challenge.rw_oneglance_k47_two_tries_by_turns.Holds := by
 w_on; o_law; k_head; (case hw => w_witness2)
 k_fill
 refine OL.QD (l := PySem.Challenge.rw_oneglance_k47_two_tries_by_turns) 306 rfl rfl (fun w h Y => ⟨PySem.W.km_in_of Y, PySem.W.km_tabs_of Y 306 nofun⟩) (fun w => by kernel_rfl) (fun w => ⟨310, by kernel_rfl⟩) ?F;case F =>
  intro w mg fa h KX G hmg;refine' OL.MI KX G hmg ?ds ?y110 ?y118 ?y123 ?y119 ?y127 ?y126 ?zs ?cod
  (case ds => (repeat (refine' ⟨QY ?a ?l ?c ?k, ?_⟩; (case a => k_is); (case l => k_is); (case c => k_is); (case k => k_is))); exact trivial)
  (case y110 => (refine' ⟨?a, ?b, ?c, ?d, ?e, ?f, ?g, ?n, ?m⟩; (case a => k_is); (case b => k_is); (case c => k_is); (case d => k_is); (case e => k_is); (case f => k_is); (case g => k_is); (case n => (repeat (refine' ⟨?a, ?_⟩; (case a => k_is))); exact trivial); (case m => (repeat (refine' ⟨LI ?a ?i ?l ?c ?k, ?_⟩; (case a => k_is); (case i => k_is); (case l => k_is); (case c => k_is); (case k => k_is))); exact trivial)))
  (case y118 => (refine' ⟨?a, ?b, ?c, ?d, ?e, ?f, ?g, ?n, ?m⟩; (case a => k_is); (case b => k_is); (case c => k_is); (case d => k_is); (case e => k_is); (case f => k_is); (case g => k_is); (case n => (repeat (refine' ⟨?a, ?_⟩; (case a => k_is))); exact trivial); (case m => (repeat (refine' ⟨LI ?a ?i ?l ?c ?k, ?_⟩; (case a => k_is); (case i => k_is); (case l => k_is); (case c => k_is); (case k => k_is))); exact trivial)))
  (case y123 => (refine' ⟨?a, ?b, ?c, ?d, ?e, ?f, ?g, ?n, ?m⟩; (case a => k_is); (case b => k_is); (case c => k_is); (case d => k_is); (case e => k_is); (case f => k_is); (case g => k_is); (case n => (repeat (refine' ⟨?a, ?_⟩; (case a => k_is))); exact trivial); (case m => (repeat (refine' ⟨LI ?a ?i ?l ?c ?k, ?_⟩; (case a => k_is); (case i => k_is); (case l => k_is); (case c => k_is); (case k => k_is))); exact trivial)))
  (case y119 => (refine' ⟨?a, ?b, ?c, ?d, ?e, ?f, ?g, ?n, ?m⟩; (case a => k_is); (case b => k_is); (case c => k_is); (case d => k_is); (case e => k_is); (case f => k_is); (case g => k_is); (case n => (repeat (refine' ⟨?a, ?_⟩; (case a => k_is))); exact trivial); (case m => (repeat (refine' ⟨LI ?a ?i ?l ?c ?k, ?_⟩; (case a => k_is); (case i => k_is); (case l => k_is); (case c => k_is); (case k => k_is))); exact trivial)))
  (case y126 => (refine' ⟨?a, ?b, ?c, ?d, ?e, ?f, ?g, ?n, ?m⟩; (case a => k_is); (case b => k_is); (case c => k_is); (case d => k_is); (case e => k_is); (case f => k_is); (case g => k_is); (case n => (repeat (refine' ⟨?a, ?_⟩; (case a => k_is))); exact trivial); (case m => (repeat (refine' ⟨LI ?a ?i ?l ?c ?k, ?_⟩; (case a => k_is); (case i => k_is); (case l => k_is); (case c => k_is); (case k => k_is))); exact trivial)))
  (case zs => (repeat (refine' ⟨?a, ?_⟩; (case a => k_is))); exact trivial)
  (case cod => exact ⟨_, _, _, by k_is, by k_is, rfl, rfl, by kernel_rfl⟩)
  (case y127 => (refine' mtE ?a ?i ?l ?c ?t; (case a => k_is); (case i => k_is); (case l => k_is); (case c => k_is); (case t => k_is)))
