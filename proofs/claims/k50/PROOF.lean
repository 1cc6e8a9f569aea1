import PyProof.Rows.All
import Wide.All
import OpenK.AllK
import Wide.FinOn
import Lean
import PyProof.EqAt
import PyProof.EqKinds
import PyProof.TupleCall
import PySem.Challenge.RW_oneglance_k50_great_patience_is_none
local macro_rules|`(tactic|trivial)=>`(tactic|exact Or.inl rfl)
local macro_rules|`(tactic|trivial)=>`(tactic|exact Or.inr rfl)
set_option maxHeartbeats 4000000
set_option Elab.async false
set_option linter.all false
set_option maxRecDepth 100000
noncomputable section
open Option renaming bind_eq_some_iff→Q0, bind_some→Q8, isSome_iff_exists→ZF, getD_some→ZP, map_eq_some_iff→Zz, map_some→Zj
open PySem.W renaming Frag→Q1
open PySem renaming Value→Q2, Shared→Q3, wpAny_bind→Q5, starEach→QJ, Expr→QB, sizeLine→QD, wpAny_pure→Qq, Program→Qx, model→Qy, Stmt→Z0, World→Z7, Around→Z9, bootBuiltins→ZE, backTo→ZD, wpAny_mono→ZT, FuncData→Zu, swapsWith→Za, Scope→Zl
open List renaming getElem?_eq_some_iff→Q4, length_map→Q9, getElem?_eq_getElem→QQ, replicate→QX, length_cons→QK, mem_cons_of_mem→QY, size_toArray→QR, map_cons→QU, length_append→QH, range→QF, mem_append_right→QC, mem_cons_self→QN, getElem?_map→QL, mem_cons→Qz, append_assoc→Qw, mem_singleton→Qu, getElem?_set_ne→Qt, length_set→Qs, mem_append→Z6, append_nil→Z8, getElem?_append_right→ZZ, find?_cons→ZX, getElem?_append_left→ZJ, mem_map→ZV, getElem?_set_self→ZK, length_range→ZY, getElem?_set→ZR, map_map→ZG, mem_range→ZN, set_set→ZL, getElem?_cons_zero→ZI, getElem?_cons_succ→ZO, mem_of_getElem?→ZS, nil_append→Zq, getElem?_eq_none→Zx, map_nil→Zv, length_nil→Zk, getElem?_replicate→Zy, cons_append→Zw, map_congr_left→Zb, map_append→Zg, lookup_cons→Zh, all_eq_true→Ze, any_cons→Zf, replicate_succ→Zm, getElem?_range→Zn, not_mem_nil→Zp, nodup_cons→Zs, length_singleton→X0, nodup_append→X4, flatten_cons→X5, getD_eq_getElem?_getD→X8
open PySem.Heap renaming get?_push_of_some→Q6, lt_size→QV, get?_push_size→Qv
open Nat renaming le_refl→Q7, lt_of_lt_of_le→QM, ne_of_lt→Qr, le_trans→ZQ, le_of_ble_eq_true→ZU, zero_le→ZC, lt_irrefl→Zr, le_succ→X7
open Bool renaming false_ne_true→QZ, eq_iff_iff→Zc, false_eq_true→Zt, and_eq_true→Zo
open Array renaming length_toList→ZH, getD_eq_getD_getElem?→X6
open Int renaming le_refl→Zi
theorem X9{c:Prop}{_:Decidable c}(h:c){α}{t e:α}:ite c t e=t:=if_pos h
theorem XQ{c:Prop}{_:Decidable c}(h:¬c){α}{t e:α}:ite c t e=e:=if_neg h
theorem XZ{p:Prop}[Decidable p](h:¬p):decide p=false:=decide_eq_false h
theorem XX{p:Prop}[Decidable p](h:p):decide p=true:=decide_eq_true h
namespace L2
open PySem PySem.Spec PyProof.Rows
abbrev Key:=Sum Int Str
def tj:Key->Q2->Bool
 |.inl k,v=>Value.isInt k v
 |.inr x,v=>Value.isStrOf x v
def Qk(w:Z7):Key->Int
 |.inl k=>hashInt k
 |.inr x=>hashStr w x
def bH:∀{k:Key} {v:Q2},tj k v=true->(∃i t,k=Sum.inl i/\v=Value.int i t)\/(∃x t,k=Sum.inr x/\v=Value.str x t)
 |.inl i,v,h=>by
  obtain⟨t,e⟩:=Value.isInt_shape (k:=i) (v:=v) h;exact .inl ⟨i,t,rfl,e⟩
 |.inr x,v,h=>by
  obtain⟨t,e⟩:=Value.isStrOf_shape (x:=x) (v:=v) h;exact .inr ⟨x,t,rfl,e⟩
def Ao(i:Int)(t:Tok):tj (.inl i) (.int i t)=true:=by simp[tj,Value.isInt]
def An(x:Str)(t:Tok):tj (.inr x) (.str x t)=true:=by simp[tj,Value.isStrOf]
def Ll(a b:Int):decide ((Sum.inl a:Key)=Sum.inl b)=(a == b):=by
 by_cases e:a=b;subst e;simp;have h:¬(Sum.inl a:Key)=Sum.inl b:=fun q=>e (Sum.inl.inj q);rw[XZ h];exact(beq_eq_false_iff_ne.mpr e).symm
def Li(a b:Str):decide ((Sum.inr a:Key)=Sum.inr b)=decide (a=b):=by
 by_cases e:a=b;subst e;simp;have h:¬(Sum.inr a:Key)=Sum.inr b:=fun q=>e (Sum.inr.inj q);rw[XZ h,XZ e]
def Lk(a:Int)(b:Str):decide ((Sum.inl a:Key)=Sum.inr b)=false:=XZ (fun q=>nomatch q)
def Lj(a:Str)(b:Int):decide ((Sum.inr a:Key)=Sum.inl b)=false:=XZ (fun q=>nomatch q)
def cH(prog:Qx)(w:Z7):PySem.KeyKind prog w Key where
 is:=tj
 hash:=Qk w
 inj:=fun v a b ha hb=>by
  rcases bH ha with⟨i,t,rfl,rfl⟩|⟨x,t,rfl,rfl⟩;rcases bH hb with⟨j,u,rfl,e⟩|⟨y,u,rfl,e⟩;injection e with e1 _;rw[e1];exact nomatch e;rcases bH hb with⟨j,u,rfl,e⟩|⟨y,u,rfl,e⟩;exact nomatch e;injection e with e1 _;rw[e1]
 byValue:=fun k v h=>by
  rcases bH h with⟨i,t,rfl,rfl⟩|⟨x,t,rfl,rfl⟩<;>rfl
 pyHash:=fun hv h=>by
  rcases bH hv with⟨i,t,rfl,rfl⟩|⟨x,t,rfl,rfl⟩;exact wpAny_pyHash_int h;exact wpAny_pyHash_str h
 eqBool:=fun hu hv h=>by
  rcases bH hu with⟨i,t,rfl,rfl⟩|⟨x,t,rfl,rfl⟩;rcases bH hv with⟨j,u,rfl,rfl⟩|⟨y,u,rfl,rfl⟩;rw[Ll]at h;exact wpAny_eqBool_int h;rw[Lk]at h;exact SeqAt.EqAt.int_str i t y u _ _ _ _ h;rcases bH hv with⟨j,u,rfl,rfl⟩|⟨y,u,rfl,rfl⟩;rw[Lj]at h;exact SeqAt.EqAt.str_int x t j u _ _ _ _ h;rw[Li]at h;exact wpAny_eqBool_str h
 «strs»:=fun k x t v h=>by
  rcases bH h with⟨i,u,rfl,e⟩|⟨y,u,rfl,e⟩;exact nomatch e
  ·injection e with e1 _;subst e1;cases v<;>rfl
def uY(prog:Qx)(w:Z7)(i:Int)(t:Tok):(cH prog w).is (.inl i) (.int i t)=true:=Ao i t
def uX(prog:Qx)(w:Z7)(x:Str)(t:Tok):(cH prog w).is (.inr x) (.str x t)=true:=An x t
inductive V where
 |non|bl (b:Bool)|int (i:Int)|str (x:Str)|byt (b:Array UInt8)|flt (b:UInt64)|ref (a:Addr)|ty (n:String)
 deriving DecidableEq
def cI:V->Q2->Prop
 |.non,u=>u=Value.none
 |.bl b,u=>u=Value.bool b
 |.int i,u=>∃t,u=Value.int i t
 |.str x,u=>∃t,u=Value.str x t
 |.byt b,u=>∃t,u=Value.bytes b t
 |.flt b,u=>∃t,u=Value.float b t
 |.ref a,u=>u=Value.ref a
 |.ty n,u=>u=Value.type n
abbrev bX:List V->List Q2->Prop:=Paired cI
def bX.length{xs:List V}{us:List Q2}(r:bX xs us):xs.length=us.length:=Paired.length r
def bX.get:∀{xs:List V} {us:List Q2} {i:Nat} {x:V},bX xs us->xs[i]?=some x->∃u,us[i]?=some u/\cI x u
 |_,_,_,_,.nil,e=>by simp at e
 |_,_,0,_,.cons r _,e=>by simp at e;subst e;exact⟨_,rfl,r⟩
 |_,_,i+1,x,.cons _ t,e=>by
  obtain⟨u,h1,h2⟩:=bX.get (i:=i) (x:=x) t (by simpa using e);exact⟨u,by simpa using h1,h2⟩
def bX.set{x:V}{u:Q2}(r:cI x u):∀{xs:List V} {us:List Q2} (i:Nat),bX xs us->bX (xs.set i x) (us.set i u)
 |_,_,_,.nil=>.nil
 |_,_,0,.cons _ t=>.cons r t
 |_,_,i+1,.cons q t=>.cons q (bX.set r i t)
def bX.append:∀{xs ys:List V} {us ws:List Q2},bX xs us->bX ys ws->bX (xs++ys) (us++ws)
 |_,_,_,_,.nil,s=>s
 |_,_,_,_,.cons r t,s=>.cons r (bX.append t s)
def bX.take:∀{xs:List V} {us:List Q2} (n:Nat),bX xs us->bX (xs.take n) (us.take n)
 |_,_,0,_=>.nil
 |_,_,_+1,.nil=>.nil
 |_,_,n+1,.cons r t=>.cons r (bX.take n t)
def bX.drop:∀{xs:List V} {us:List Q2} (n:Nat),bX xs us->bX (xs.drop n) (us.drop n)
 |_,_,0,r=>r
 |_,_,_+1,.nil=>.nil
 |_,_,n+1,.cons _ t=>bX.drop n t
def rq:Option V->Option Q2->Prop
 |some v,some u=>cI v u
 |none,none=>True
 |_,_=>False
def KV{κ:Type}:List (κ×V)->List (κ×Q2)->Prop:=Paired fun(p:κ×V) (q:κ×Q2)=>p.1=q.1/\cI p.2 q.2
def kV:Key->V
 |.inl i=>.int i
 |.inr x=>.str x
inductive HO where
 |lst (xs:List V)
 |tup (xs:List V)
 |dK (kvs:List (Key×V))|dT (kvs:List (List Key×V))
 |set (S:Int->Bool) (n:Nat)
 |ins (C dx:Addr) (fs:List (Str×V))
 |own (x:Addr)
 |xd (fs:List (Str×V))
 |met (f x:Addr)
 |rng (lo hi:Int)
 |frz (o:Obj) (u:HO)
 |tbl (ps:Array Q2)
 |ext (φ:Heap->Prop)
abbrev Hp:=Addr->Option HO
def upd(H:Hp)(a:Addr)(o:HO):Hp:=fun b=>if b=a then some o else H b
def aH{H:Hp}{a:Addr}{o:HO}:upd H a o a=some o:=by unfold upd;rw[X9 rfl]
def aI{H:Hp}{a b:Addr}{o:HO}(h:b≠a):upd H a o b=H b:=by unfold upd;rw[XQ h]
def Oh{H:Hp}{a b:Addr}{o u:HO}(h:H a=some o)(h':H b=some u)(d:o≠u):a≠b:=by
 intro e;subst e;rw[h]at h';exact d (Option.some.inj h')
def dM{H:Hp}{a b:Addr}{o:HO}(h:H a=some o)(h':H b=none):a≠b:=by
 intro e;subst e;rw[h]at h';cases h'
section
variable(P:Qx)(w:Z7)
def eF(H:Hp)(h:Heap)(a:Addr):HO->Prop
 |.lst xs=>xs.length<=QD/\∃(its:List Q2) (n:Nat),bX xs its/\h.get? a=some { cls:=.type "list",data:=.seq its.toArray n }
 |.tup xs=>xs.length<=QD/\∃its:List Q2,bX xs its/\IsTup h a its.toArray
 |.dK kvs=>kvs.length<=QD/\(a == sysModules)=false/\∃vs,KV kvs vs/\h.DictOf (cH P w) a vs
 | .dT kvs=>kvs.length<=QD/\(a == sysModules)=false/\∃xs:List (List Key×Addr×Q2),
   Paired (fun(p:List Key×V) (q:List Key×Addr×Q2)=>p.1=q.1/\H q.2.1=some (.tup (p.1.map kV))/\cI p.2 q.2.2) kvs xs/\
   ∃o es ep,h.get? a=some o/\o.ExactDict/\o.data=.dict es ep/\es.toList=xs.map (entryOfKey (tupleKind (cH P w)))/\(xs.map (·.1)).Nodup
 |.set S n=>h.SetOf (intKind P w) a S n
 | .ins C dx fs=>H dx=some (.own a)/\fs.length<=1000/\dx≠a/\h.get? a=some (PySem.W.instObj C dx)/\
   ∃mA,h.Ns1 dx mA/\(∀f,rq (fs.lookup f) (mA f))/\PySem.Within mA (fs.map (·.1))
 |.own _=>∃o,h.get? a=some o
 |.xd fs=>∃mA,h.Ns1 a mA/\∀f,rq (fs.lookup f) (mA f)
 |.rng lo hi=>∃t u v,h.get? a=some { cls:=.type "range",data:=.fields #[.int lo t,.int hi u,.int 1 v] }
 |.frz o u=>h.get? a=some o/\eF H h a u
 |.tbl ps=>h.get? a=some { cls:=.none,data:=.fields ps }
 |.met f x=>h.get? a=some (PySem.W.methodObj (.ref f) (.ref x))
 |.ext φ=>φ h/\(∃o,h.get? a=some o)/\∀h1 h2:Heap,φ h1->(∀o,h1.get? a=some o->h2.get? a=some o)->φ h2
def HOk(H:Hp)(h:Heap):Prop:=∀a o,H a=some o->eF P w H h a o
end
variable{P:Qx}{H H':Hp}{h h':Heap}{a:Addr}{o:HO}
section
variable{w:Z7}
def eF.lt(x:eF P w H h a o):a<h.objs.size:=by
 cases o with
 |lst xs=>obtain⟨_,_,_,_,e⟩:=x;exact QV e
 |tup xs=>obtain⟨_,_,_,p⟩:=x;exact p.lt
 |dK kvs=>obtain⟨_,_,_,_,o,_,_,e,_⟩:=x;exact QV e
 |dT kvs=>obtain⟨_,_,_,_,o,_,_,e,_⟩:=x;exact QV e
 |set S n=>obtain⟨o,_,_,_,e,_⟩:=x;exact QV e
 |ins C dx fs=>obtain⟨_,_,_,e,_⟩:=x;exact QV e
 |own y=>obtain⟨_,e⟩:=x;exact QV e
 |xd fs=>obtain⟨_,⟨_,_,_,e,_⟩,_⟩:=x;exact QV e
 |rng lo hi=>obtain⟨_,_,_,e⟩:=x;exact QV e
 |frz ob u=>obtain⟨e,_⟩:=x;exact QV e
 |tbl ps=>exact QV (show h.get? a=some _ from x)
 |met f y=>exact QV (show h.get? a=some _ from x)
 |ext φ=>obtain⟨_,⟨_,e⟩,_⟩:=x;exact QV e
def Paired.mapP{α β:Type}{F G:α->β->Prop}:∀{l₁:List α} {l₂:List β},Paired F l₁ l₂->(∀a b,F a b->G a b)->Paired G l₁ l₂
 |_,_,.nil,_=>.nil
 |_,_,.cons r t,f=>.cons (f _ _ r) (Paired.mapP t f)
def eF.stay(x:eF P w H h a o)(k:∀b u,(b=a\/H b=some (.own a))->h.get? b=some u->h'.get? b=some u)
  (ho:∀b,H b=some (.own a)->H' b=some (.own a)) (ht:∀b xs,H b=some (.tup xs)->H' b=some (.tup xs)):eF P w H' h' a o:=by
 induction o with
 |lst xs=>obtain⟨z,its,n,r,e⟩:=x;exact⟨z,its,n,r,k _ _ (.inl rfl) e⟩
 |tup xs=>obtain⟨z,its,r,ob,e,c⟩:=x;exact⟨z,its,r,ob,k _ _ (.inl rfl) e,c⟩
 |dK kvs=>obtain⟨z,y,vs,r,ob,es,ep,e,c⟩:=x;exact⟨z,y,vs,r,ob,es,ep,k _ _ (.inl rfl) e,c⟩
 |dT kvs=>
  obtain⟨z,y,xs,r,ob,es,ep,e,c⟩:=x;exact⟨z,y,xs,Paired.mapP r fun p q z=>⟨z.1,ht _ _ z.2.1,z.2.2⟩,ob,es,ep,k _ _ (.inl rfl) e,c⟩
 |set S n=>obtain⟨ob,es,ep,t,e,c⟩:=x;exact⟨ob,es,ep,t,k _ _ (.inl rfl) e,c⟩
 |ins C dx fs=>
  obtain⟨d,z,ne,e,mA,⟨od,es,ep,e2,c⟩,r⟩:=x;exact⟨ho _ d,z,ne,k _ _ (.inl rfl) e,mA,⟨od,es,ep,k _ _ (.inr d) e2,c⟩,r⟩
 |own y=>obtain⟨ob,e⟩:=x;exact⟨ob,k _ _ (.inl rfl) e⟩
 |xd fs=>obtain⟨mA,⟨od,es,ep,e,c⟩,r⟩:=x;exact⟨mA,⟨od,es,ep,k _ _ (.inl rfl) e,c⟩,r⟩
 |rng lo hi=>obtain⟨t,u,v,e⟩:=x;exact⟨t,u,v,k _ _ (.inl rfl) e⟩
 |frz ob u ih=>obtain⟨e,q⟩:=x;exact⟨k _ _ (.inl rfl) e,ih q⟩
 |tbl ps=>
  have e:h.get? a=some { cls:=.none,data:=.fields ps }:=x;show h'.get? a=some { cls:=.none,data:=.fields ps };exact k a _ (.inl rfl) e
 |met f y=>
  have e:h.get? a=some (PySem.W.methodObj (.ref f) (.ref y)):=x;show h'.get? a=some (PySem.W.methodObj (.ref f) (.ref y));exact k a _ (.inl rfl) e
 |ext φ=>obtain⟨p,⟨o,e⟩,st⟩:=x;exact⟨st _ _ p fun o q=>k _ _ (.inl rfl) q,⟨o,k _ _ (.inl rfl) e⟩,st⟩
def HOk.lt(x:HOk P w H h)(e:H a=some o):a<h.objs.size:=(x a o e).lt
def HOk.fresh(x:HOk P w H h)(e:h.objs.size<=a):H a=none:=by
 cases q:H a with
 |none=>rfl
 |some u=>exact absurd (QM (x.lt q) e) (Zr _)
def HOk.kept(x:HOk P w H h)(k:∀b u,h.get? b=some u->h'.get? b=some u):HOk P w H h':=fun a o e=>
 (x a o e).stay (fun b u _ q=>k b u q) (fun _ q=>q) fun _ _ q=>q
def HOk.laid(x:HOk P w H h)(k:∀b u,h.get? b=some u->h'.get? b=some u)(hp:h.objs.size<=a)(new:eF P w (upd H a o) h' a o):HOk P w (upd H a o) h':=fun b u e=>by
 have hn:=x.fresh hp;by_cases hb:b=a;subst hb;rw[aH]at e;cases e;exact new;rw[aI hb]at e;exact(x b u e).stay (fun c v _ q=>k c v q) (fun c q=>by rw[aI (dM q hn)];exact q) fun c xs q=>by rw[aI (dM q hn)];exact q
end
def Rd(H:Hp)(a:Addr)(u:HO):Prop:=H a=some u\/∃o,H a=some (.frz o u)
def Rd.ok{P:Qx}{w:Z7}{H:Hp}{h:Heap}{a:Addr}{u:HO}(r:Rd H a u)(x:HOk P w H h):eF P w H h a u:=by
 rcases r with r|⟨o,r⟩;exact x a u r;obtain⟨_,q⟩:=x a _ r;exact q
def Mut:Option HO->Prop
 |some (.lst _)=>True
 |some (.dK _)=>True
 |some (.dT _)=>True
 |some (.set _ _)=>True
 |some (.ins _ _ _)=>True
 |some (.ext _)=>True
 |_=>False
variable{x e:Addr}
section
variable{w:Z7}{o':HO}
def HOk.write(ok:HOk P w H h)(mu:Mut (H x))(he:e=x\/H e=some (.own x))(k:∀b u,b≠e->h.get? b=some u->h'.get? b=some u)(heo:∃u,h'.get? e=some u)
  (new:eF P w (upd H x o') h' x o'):HOk P w (upd H x o') h':=fun b u q=>by
 have nown:∀c y,H c=some (.own y)->c≠x:=fun c y r z=>by subst z;rw[r]at mu;exact mu
 have ntup:∀c xs,H c=some (.tup xs)->c≠x:=fun c xs r z=>by subst z;rw[r]at mu;exact mu
 by_cases hb:b=x;subst hb;rw[aH]at q;cases q;exact new;rw[aI hb]at q;by_cases hbe:b=e;have q':H b=some (.own x):=by
  rcases he with z|z;exact absurd (hbe.trans z) hb;rw[hbe];exact z
 rw[q]at q';cases q';obtain⟨v,hv⟩:=heo;exact⟨v,by rw[hbe];exact hv⟩;refine(ok b u q).stay (fun c v hc r=>k c v ?_ r) (fun c r=>by rw[aI (nown c b r)];exact r) fun c xs r=>by rw[aI (ntup c xs r)];exact r
 rcases hc with rfl|hc;exact hbe;rintro rfl;rcases he with z|z;exact nown c b hc z;rw[hc]at z;cases z;exact hb rfl
end
structure Un(fs ex:List Addr)(H H':Hp)(h h':Heap):Prop where
 keep:∀b o,h.get? b=some o->H b=none->b∉fs->b∉ex->h'.get? b=some o
 slot:∀b o,h.get? b=some o->H b=none->b∈fs->b∉ex->∃sl,h'.get? b=some { o with slots:=sl }
 free:∀b o,h.get? b=some o->H b=none->b∉ex->H' b=none
 there:∀b o,h.get? b=some o->b∉ex->∃o',h'.get? b=some o'
 tups:∀b xs,H b=some (.tup xs)->H' b=some (.tup xs)
 frzs:∀b o u,H b=some (.frz o u)->H' b=some (.frz o u)
 tbls:∀b ps,H b=some (.tbl ps)->∃more,H' b=some (.tbl (ps++more))
section
variable{fs ex:List Addr}{H1:Hp}{h1:Heap}
def Un.any(u:Un fs ex H H1 h h1){b:Addr}{ob:Obj}(q:h.get? b=some ob)(n:H b=none)(hx:b∉ex):∃sl,h1.get? b=some { ob with slots:=sl }:=by
 by_cases hb:b∈fs;exact u.slot b ob q n hb hx;exact⟨ob.slots,u.keep b ob q n hb hx⟩
def Un.kept(k:∀b u,h.get? b=some u->h'.get? b=some u):Un fs ex H H h h':=
 ⟨fun b ob q _ _ _=>k b ob q,fun b ob q _ _ _=>⟨ob.slots,k b ob q⟩,fun _ _ _ n _=>n,fun b ob q _=>⟨ob,k b ob q⟩,fun _ _ q=>q,fun _ _ _ q=>q,fun _ ps q=>⟨#[],by rw[q];simp⟩⟩
def Un.refl:Un fs ex H H h h:=Un.kept fun _ _ q=>q
def Un.laid(k:∀b u,h.get? b=some u->h'.get? b=some u)(hp:h.objs.size<=a)(hn:H a=none):Un fs ex H (upd H a o) h h' where
 keep:=fun b u q _ _ _=>k b u q
 slot:=fun b u q _ _ _=>⟨u.slots,k b u q⟩
 free:=fun b u q n _=>by rw[aI (Qr (QM (QV q) hp))];exact n
 there:=fun b u q _=>⟨u,k b u q⟩
 tups:=fun b xs q=>by rw[aI (dM q hn)];exact q
 frzs:=fun b u xs q=>by rw[aI (dM q hn)];exact q
 tbls:=fun b ps q=>⟨#[],by rw[aI (dM q hn),q];simp⟩
def Un.write(mu:Mut (H x))(he:e=x\/H e=some (.own x))(k:∀b u,b≠e->h.get? b=some u->h'.get? b=some u)(heo:∃u,h'.get? e=some u):Un fs ex H (upd H x o) h h':=by
 have hx:∀b,H b=none->b≠x:=fun b n z=>by subst z;rw[n]at mu;exact mu
 have hb:∀b,H b=none->b≠e:=fun b n z=>by
  subst z;rcases he with r|r;exact hx b n r;rw[n]at r;cases r
 have hm:∀b u,H b=some u->¬Mut (some u)->b≠x:=fun b u q nm z=>by subst z;rw[q]at mu;exact nm mu
 refine⟨fun b u q n _ _=>k b u (hb b n) q,fun b u q n _ _=>⟨u.slots,k b u (hb b n) q⟩,fun b u q n _=>by rw[aI (hx b n)];exact n,fun b u q _=>?_,
  fun b xs q=>by rw[aI (hm b _ q fun z=>z)];exact q,fun b u xs q=>by rw[aI (hm b _ q fun z=>z)];exact q,fun b ps q=>⟨#[],by rw[aI (hm b _ q fun z=>z),q];simp⟩⟩
 by_cases hbe:b=e;subst hbe;exact heo;exact⟨u,k b u hbe q⟩
end
def trk(h:Heap)(H:Hp):List Addr:=(QF h.objs.size).filter fun a=>(H a).isSome
def DQ(h:Heap)(H:Hp):Heap:=PySem.W.hideAll h (trk h H)
def AF(h:Heap)(H:Hp):(DQ h H).objs.size=h.objs.size:=PySem.W.hideAll_size _ _
def qE{h:Heap}{H:Hp}{b:Addr}{o:Obj}(e:h.get? b=some o)(n:H b=none):(DQ h H).get? b=some o:=
 PySem.W.hideAll_get _ e fun hm=>by
  have q:(H b).isSome=true:=(List.mem_filter.mp hm).2;rw[n]at q;simp at q
def Hq{h:Heap}{H:Hp}{b:Addr}{o:Obj}(e:(DQ h H).get? b=some o):h.get? b=some o/\H b=none:=by
 have e':h.get? b=some o:=PySem.W.of_hideAll (trk h H) e;refine⟨e',?_⟩;cases q:H b with
 |none=>rfl
 |some x=>
  have hm:b∈trk h H:=List.mem_filter.mpr ⟨ZN.mpr (QV e'),by simp[q]⟩;have z:(DQ h H).get? b=none:=PySem.W.hideAll_none (trk h H) hm;rw[z]at e;cases e
structure Mod(K:Q1)(mg:Str->Option Q2)(base:Heap):Prop where
 kin:K.In base
 glob:base.Ns mainGlobals mg
 blt:∃mb,base.Ns builtinsNs mb/\∀x:Str,x≠"__name__"->mb x=ZE x
 nolimit:base.NoLimit
structure Cx where
 prog:Qx
 w:Z7
 K:Q1
 mg:Str->Option Q2
 base:Heap
 A:Z9
 N:List Str
 s₀:Q3
 H₀:Hp
 env:Env
 outer:List Env
 stack:List Env
 ex:List Addr
 fn:Str->Bool
 calm:Bool
 pn:List (Addr×Obj)
 xe:Q2->Q3->Prop
def frs(l:List Env):List Addr:=l.filterMap (·.frame)
abbrev Cx.fs(X:Cx):List Addr:=frs X.outer
def Vis(sc:Zl)(x:Str):Prop:=sc.names.lookup x=some .local\/sc.names.lookup x=some .cell\/sc.names.lookup x=some .free
def Loc(sc:Zl)(x:Str):Prop:=sc.names.lookup x=some .local\/sc.names.lookup x=some .cell
def Qp(env:Env)(h:Heap)(m:Str->Option Q2)(x:Str)(u:Q2):Prop:=
 (env.kindOf x=some .local/\m x=some u)\/((env.kindOf x=some .cell\/env.kindOf x=some .free)/\∃c,env.cells.lookup x=some c/\h.IsCell c (some u))
structure Cx.Ok(X:Cx):Prop where
 mod:Mod X.K X.mg X.base
 kind:X.env.scope.kind=.function
 glob:X.env.globals=mainGlobals
 blt:X.env.builtins=builtinsNs
 above:X.s₀.heap.objs.size<=X.env.locals
 inj:∀x y c,X.env.cells.lookup x=some c->X.env.cells.lookup y=some c->x=y
 has:∀x,(X.env.kindOf x=some .cell\/X.env.kindOf x=some .free)->∃c,X.env.cells.lookup x=some c
 cab:∀x c,X.fn x=true->X.env.cells.lookup x=some c->X.s₀.heap.objs.size<=c
 hd:X.calm=true->X.A.handled=none
 frames:X.A.frames=some X.stack
 stk:X.stack=X.outer\/(X.stack=X.env::X.outer/\X.env.frame=some X.env.locals)
 exf:∀b∈X.ex,b≠X.env.locals/\∀x c,X.env.cells.lookup x=some c->c≠b
 bs:∀b o,X.base.get? b=some o->X.s₀.heap.get? b=some o/\X.H₀ b=none
 bsz:X.base.objs.size<=X.s₀.heap.objs.size
 noex:∀b o,X.base.get? b=some o->b∉X.ex
 exfs:∀b∈X.ex,b∉X.fs
 funs:X.s₀.heap.FunFrames X.base X.outer
 frf:∀b∈X.fs,X.H₀ b=none
structure Inv(X:Cx)(pins:List (Addr×Obj))(σ:List (Option V))(H:Hp)(s:Q3):Prop where
 ok:X.Ok
 os:s.os=X.s₀.os
 bare:AllBare s.gens
 base:Un X.fs X.ex X.H₀ H X.s₀.heap s.heap
 loc:∃m,s.heap.Ns X.env.locals m/\∀(i:Nat) (x:Str) (v:V),X.N[i]?=some x->σ[i]?=some (some v)->Vis X.env.scope x->∃u,cI v u/\Qp X.env s.heap m x u
 cell:∀x c,X.env.cells.lookup x=some c->∃v,s.heap.IsCell c v
 free:H X.env.locals=none
 freeC:∀x c,X.env.cells.lookup x=some c->H c=none
 pin:∀p∈X.pn++pins,s.heap.get? p.1=some p.2/\H p.1=none/\p.1≠X.env.locals/\p.1∉X.fs/\∀v,p.2.data≠.cell v
 hok:HOk X.prog X.w H s.heap
 len:σ.length=X.N.length
variable{X:Cx}{pins:List (Addr×Obj)}{s:Q3}
section
variable{σ:List (Option V)}
def Cx.Ok.nofr(ok:X.Ok){b:Addr}{o:Obj}(e:X.base.get? b=some o):b∉X.fs:=fun hb=>by
 have:=(ok.funs.mem hb).1;rw[e]at this;cases this
def Inv.bs(I:Inv X pins σ H s):∀b o,X.base.get? b=some o->s.heap.get? b=some o/\H b=none:=fun b o e=>
 ⟨I.base.keep b o (I.ok.bs b o e).1 (I.ok.bs b o e).2 (I.ok.nofr e) (I.ok.noex b o e),I.base.free b o (I.ok.bs b o e).1 (I.ok.bs b o e).2 (I.ok.noex b o e)⟩
def Inv.bk(I:Inv X pins σ H s):∀b o,X.base.get? b=some o->s.heap.get? b=some o:=fun b o e=>(I.bs b o e).1
def Inv.mod(I:Inv X pins σ H s):Mod X.K X.mg X.base:=I.ok.mod
def Inv.kIn(I:Inv X pins σ H s):X.K.In s.heap:=I.ok.mod.kin.keeps I.bk
def Inv.lt(I:Inv X pins σ H s):X.env.locals<s.heap.objs.size:=let ⟨_,hn,_⟩:=I.loc;hn.lt
def Inv.sz(I:Inv X pins σ H s):X.s₀.heap.objs.size<=s.heap.objs.size:=ZQ I.ok.above (Nat.le_of_lt I.lt)
def Inv.nofs(I:Inv X pins σ H s){a:Addr}(h:s.heap.objs.size<=a):a∉X.fs:=fun hb=>by
 obtain⟨_,o,ho,_⟩:=I.ok.funs.mem hb;exact absurd (QM (QV ho) (ZQ I.sz h)) (Zr _)
def Inv.cne(I:Inv X pins σ H s):∀x c,X.env.cells.lookup x=some c->c≠X.env.locals:=fun x c e z=>by
 obtain⟨v,o,ho,hd⟩:=I.cell x c e;obtain⟨m,⟨o',es,ep,ho',hd',_⟩,_⟩:=I.loc;rw[z,ho']at ho;cases ho;rw[hd']at hd;cases hd
def Inv.funs(I:Inv X pins σ H s):s.heap.FunFrames X.base X.outer:=by
 have all:∀(l:List Env),(∀b∈frs l,b∈X.fs)->X.s₀.heap.FunFrames X.base l->s.heap.FunFrames X.base l:=by
  intro l;induction l with
  |nil=>intro _ _;trivial
  |cons env r ih=>
   intro hs hl;obtain⟨hk,⟨L,o,hf,hn,ho,hd⟩,hr⟩:=hl;have hL:L∈X.fs:=hs L (by unfold frs;rw[List.filterMap_cons,hf];exact QN);obtain⟨sl,e⟩:=I.base.slot L o ho (I.ok.frf L hL) hL fun z=>I.ok.exfs L z hL;exact⟨hk,⟨L,_,hf,hn,e,hd⟩,ih (fun b hb=>hs b (by unfold frs;rw[List.filterMap_cons,hf];exact QY _ hb)) hr⟩
 exact all X.outer (fun _ hb=>hb) I.ok.funs
def Inv.stack(I:Inv X pins σ H s):s.heap.FunFrames X.base X.stack:=by
 rcases I.ok.stk with e|⟨e,hf⟩;rw[e];exact I.funs;rw[e];obtain⟨m,hn,_⟩:=I.loc;refine .cons (by rw[I.ok.kind];decide) hf hn ?_ I.funs;exact Heap.get?_none_of_le (ZQ I.ok.bsz I.ok.above)
def Inv.stkSub(I:Inv X pins σ H s):∀b∈frs X.stack,b∈X.env.locals::X.fs:=fun b hb=>by
 rcases I.ok.stk with e|⟨e,hf⟩;rw[e]at hb;exact QY _ hb;rw[e]at hb;unfold frs at hb;rw[List.filterMap_cons,hf]at hb;exact hb
def Inv.stkFree(I:Inv X pins σ H s):∀b∈frs X.stack,H b=none:=fun b hb=>by
 rcases Qz.mp (I.stkSub b hb)with e|hb;rw[e];exact I.free;obtain⟨_,o,ho,_⟩:=I.ok.funs.mem hb;exact I.base.free b o ho (I.ok.frf b hb) fun z=>I.ok.exfs b z hb
def Inv.step{g':Array GenState}{t':Nat}{d':Drawn}{ch:List Addr}(I:Inv X pins σ H s)
  (hch:∀b∈ch,(b∈X.ex\/X.s₀.heap.objs.size<=b)/\b≠X.env.locals/\(∀x c,X.env.cells.lookup x=some c->c≠b)/\∀p∈X.pn++pins,p.1≠b)
  (keep:∀b o,b≠X.env.locals->b∉X.fs->b∉ch->s.heap.get? b=some o->H b=none->h'.get? b=some o)
  (slot:∀b o,b≠X.env.locals->b∈X.fs->b∉ch->s.heap.get? b=some o->H b=none->∃sl,h'.get? b=some { o with slots:=sl }) (free:∀b o,b∉ch->s.heap.get? b=some o->H b=none->H' b=none)
  (there:∀b o,b∉ch->s.heap.get? b=some o->∃o',h'.get? b=some o')
  (tups:∀b xs,H b=some (.tup xs)->H' b=some (.tup xs)) (frzs:∀b o u,H b=some (.frz o u)->H' b=some (.frz o u)) (tbls:∀b ps,H b=some (.tbl ps)->∃more,H' b=some (.tbl (ps++more)))
  (ns:∀m,s.heap.Ns X.env.locals m->h'.Ns X.env.locals m) (hok:HOk X.prog X.w H' h') (hg:AllBare g') :
  Inv X pins σ H' { s with heap:=h',gens:=g',drawn:=d',toks:=t' }:=by
 have neL:∀b o,X.s₀.heap.get? b=some o->b≠X.env.locals:=fun b o e=>Qr (QM (QV e) I.ok.above);have neC:∀b o,X.s₀.heap.get? b=some o->b∉X.ex->b∉ch:=fun b o e hx hb=>by
  rcases(hch b hb).1 with z|z;exact hx z;exact absurd (QM (QV e) z) (Zr _)
 have cellK:∀x c,X.env.cells.lookup x=some c->∀v,s.heap.IsCell c v->h'.IsCell c v:=fun x c e v ⟨o,ho,hd⟩=>by
  have nch:c∉ch:=fun z=>(hch c z).2.2.1 x c e rfl;by_cases hc:c∈X.fs;obtain⟨sl,q⟩:=slot c o (I.cne x c e) hc nch ho (I.freeC x c e);exact⟨_,q,hd⟩;exact⟨o,keep c o (I.cne x c e) hc nch ho (I.freeC x c e),hd⟩
 refine⟨I.ok,I.os,hg,⟨fun b o e n hb hx=>?_,fun b o e n hb hx=>?_,fun b o e n hx=>?_,fun b o e hx=>?_,fun b xs e=>tups b xs (I.base.tups b xs e),fun b o xs e=>frzs b o xs (I.base.frzs b o xs e),fun b ps e=>?_⟩,?_,fun x c e=>?_,?_,fun x c e=>?_,fun p hp=>?_,hok,I.len⟩;exact keep b o (neL b o e) hb (neC b o e hx) (I.base.keep b o e n hb hx) (I.base.free b o e n hx);obtain⟨sl,e1⟩:=I.base.slot b o e n hb hx;obtain⟨sl',e2⟩:=slot b _ (neL b o e) hb (neC b o e hx) e1 (I.base.free b o e n hx);exact⟨sl',e2⟩;obtain⟨o',e1⟩:=I.base.there b o e hx;exact free b o' (neC b o e hx) e1 (I.base.free b o e n hx);obtain⟨o',e1⟩:=I.base.there b o e hx;exact there b o' (neC b o e hx) e1;obtain⟨m1,e1⟩:=I.base.tbls b ps e;obtain⟨m2,e2⟩:=tbls b _ e1;exact⟨m1++m2,by rw[e2,Array.append_assoc]⟩;obtain⟨m,hn,hl⟩:=I.loc;refine⟨m,ns m hn,fun i x v e1 e2 e3=>?_⟩;obtain⟨u,r,l⟩:=hl i x v e1 e2 e3;refine⟨u,r,?_⟩;rcases l with l|⟨k,c,e,z⟩;exact .inl l;exact .inr ⟨k,c,e,cellK x c e _ z⟩;obtain⟨v,z⟩:=I.cell x c e;exact⟨v,cellK x c e v z⟩;obtain⟨m,⟨o,_,_,ho,_⟩,_⟩:=I.loc;exact free _ o (fun z=>(hch _ z).2.1 rfl) ho I.free;obtain⟨v,o,ho,hd⟩:=I.cell x c e;exact free c o (fun z=>(hch c z).2.2.1 x c e rfl) ho (I.freeC x c e);obtain⟨e,n,ne,nf,d⟩:=I.pin p hp;have nch:p.1∉ch:=fun z=>(hch p.1 z).2.2.2 p hp rfl;exact⟨keep p.1 p.2 ne nf nch e n,free p.1 p.2 nch e n,ne,nf,d⟩
def Inv.un{t':Nat}(I:Inv X pins σ H s)(u:Un X.fs [] H H' s.heap h')(hok:HOk X.prog X.w H' h'):Inv X pins σ H' { s with heap:=h',toks:=t' }:=by
 obtain⟨m,⟨o,es,ep,ho,r⟩,_⟩:=id I.loc;obtain⟨sl,hL⟩:=u.any ho I.free (by simp);exact I.step (g':=s.gens) (d':=s.drawn) (ch:=[]) (fun _ z=>nomatch z) (fun b o _ hb _ e n=>u.keep b o e n hb (by simp)) (fun b o _ hb _ e n=>u.slot b o e n hb (by simp)) (fun b o _ e n=>u.free b o e n (by simp)) (fun b o _ e=>u.there b o e (by simp)) u.tups u.frzs u.tbls (fun m' hm=>by
  obtain⟨o',es',ep',ho',r'⟩:=hm;rw[ho]at ho';cases ho';exact⟨_,es',ep',hL,r'⟩) hok I.bare
def Inv.call{g':Array GenState}{t':Nat}{d':Drawn}{ch:List Addr}(I:Inv X pins σ H s)(u:Un (frs X.stack) ch H H' s.heap h')(hok:HOk X.prog X.w H' h')(hg:AllBare g')
  (hch:∀b∈ch,(b∈X.ex\/X.s₀.heap.objs.size<=b)/\b≠X.env.locals/\(∀x c,X.env.cells.lookup x=some c->c≠b)/\∀p∈X.pn++pins,p.1≠b) :
  Inv X pins σ H' { s with heap:=h',gens:=g',drawn:=d',toks:=t' }:=by
 obtain⟨m,⟨o,es,ep,ho,r⟩,_⟩:=id I.loc;obtain⟨sl,hL⟩:=u.any ho I.free fun z=>(hch _ z).2.1 rfl;exact I.step (ch:=ch) hch (fun b o hL hb hc e n=>u.keep b o e n (fun z=>(Qz.mp (I.stkSub b z)).elim hL hb) hc) (fun b o _ _ hc e n=>u.any e n hc) (fun b o hc e n=>u.free b o e n hc) (fun b o hc e=>u.there b o e hc) u.tups u.frzs u.tbls (fun m' hm=>by
  obtain⟨o',es',ep',ho',r'⟩:=hm;rw[ho]at ho';cases ho';exact⟨_,es',ep',hL,r'⟩) hok hg
def Inv.turned{t':Nat}{it:Addr}(I:Inv X pins σ H s)(k:∀b o,b≠it->s.heap.get? b=some o->h'.get? b=some o)(hn:H it=none)(hL:it≠X.env.locals)
  (h1:it∈X.ex\/X.s₀.heap.objs.size<=it) (h2:∀x c,X.env.cells.lookup x=some c->c≠it) (h3:∀p∈X.pn++pins,p.1≠it):Inv X pins σ H { s with heap:=h',toks:=t' }:=by
 have nit:∀b u,H b=some u->b≠it:=fun b u e z=>by rw[z,hn]at e;cases e
 refine I.step (g':=s.gens) (d':=s.drawn) (ch:=[it]) (fun b hb=>?_) (fun b o _ _ hc e _=>k b o (fun z=>hc (by simp[z])) e) (fun b o _ _ hc e _=>⟨o.slots,k b o (fun z=>hc (by simp[z])) e⟩) (fun _ _ _ _ n=>n)
  (fun b o hc e=>⟨o,k b o (fun z=>hc (by simp[z])) e⟩) (fun _ _ e=>e) (fun _ _ _ e=>e) (fun b ps e=>⟨#[],by rw[e];simp⟩) (fun m hm=>?_) (fun b u e=>?_) I.bare
 have e:b=it:=by simpa using hb
 subst e;exact⟨h1,hL,h2,h3⟩;obtain⟨o,es,ep,ho,r⟩:=hm;exact⟨o,es,ep,k _ o (Ne.symm hL) ho,r⟩;refine(I.hok b u e).stay (fun c v hc q=>k c v ?_ q) (fun _ q=>q) fun _ _ q=>q;rcases hc with z|z;rw[z];exact nit b u e;exact nit c _ z
def Inv.tok(I:Inv X pins σ H s)(t:Nat):Inv X pins σ H { s with toks:=t }:=I.un (h':=s.heap) (t':=t) Un.refl I.hok
def Inv.kept{t':Nat}(I:Inv X pins σ H s)(k:∀b u,s.heap.get? b=some u->h'.get? b=some u):Inv X pins σ H { s with heap:=h',toks:=t' }:=I.un (Un.kept k) (I.hok.kept k)
def Inv.laid{a:Addr}{o:HO}{t':Nat}(I:Inv X pins σ H s)(k:∀b u,s.heap.get? b=some u->h'.get? b=some u)(hp:s.heap.objs.size<=a)(new:eF X.prog X.w (upd H a o) h' a o) :
  Inv X pins σ (upd H a o) { s with heap:=h',toks:=t' }:=I.un (Un.laid k hp (I.hok.fresh hp)) (I.hok.laid k hp new)
def Inv.write{x e:Addr}{o:HO}{t':Nat}(I:Inv X pins σ H s)(mu:Mut (H x))(he:e=x\/H e=some (.own x))(k:∀b u,b≠e->s.heap.get? b=some u->h'.get? b=some u)(heo:∃u,h'.get? e=some u)
  (new:eF X.prog X.w (upd H x o) h' x o):Inv X pins σ (upd H x o) { s with heap:=h',toks:=t' }:=I.un (Un.write mu he k heo) (I.hok.write mu he k heo new)
def Inv.pins_of{pins':List (Addr×Obj)}(I:Inv X pins σ H s)(h:∀p∈pins',s.heap.get? p.1=some p.2/\H p.1=none/\p.1≠X.env.locals/\p.1∉X.fs/\∀v,p.2.data≠.cell v):Inv X pins' σ H s:=
 ⟨I.ok,I.os,I.bare,I.base,I.loc,I.cell,I.free,I.freeC,fun p hp=>(Z6.mp hp).elim (fun z=>I.pin p (List.mem_append_left _ z)) (h p),I.hok,I.len⟩
def wt{N:List Str}(hN:N.Nodup){i j:Nat}{x:Str}(a:N[i]?=some x)(b:N[j]?=some x):i=j:=by
 obtain⟨h1,e1⟩:=Q4.mp a;obtain⟨h2,e2⟩:=Q4.mp b;exact(List.getElem_inj hN).mp (e1.trans e2.symm)
def si{M:Model}{A:Z9}{E:Q2->Q3->Prop}{i:Nat}{x:Str}{v:V}{u:Q2}{Q:Unit->Q3->Prop}(I:Inv X pins σ H s)(hN:X.N.Nodup)(hi:X.N[i]?=some x)(hx:Loc X.env.scope x)(r:cI v u)
  (h:∀s',Inv X pins (σ.set i (some v)) H s'->(∃a,Heap.SameBut a s.heap s'.heap/\(a=X.env.locals\/X.env.cells.lookup x=some a))->Q () s') (hf:X.fn x=true\/X.env.scope.names.lookup x=some .local:=by first|exact .inl rfl|exact .inr rfl|assumption):wpAny M A (storeName X.env x u) Q E s:=by
 obtain⟨m,hn,hl⟩:=id I.loc;have hcls:(X.env.scope.kind == .class||(X.env.scope.kind == .module&&X.env.locals !=X.env.globals))=false:=by rw[I.ok.kind];rfl
 have hiσ:i < σ.length:=by rw[I.len];exact(Q4.mp hi).1
 have cne:=I.cne;have tracked:∀{a:Addr} {h':Heap},(∃o,s.heap.get? a=some o/\H a=none)->Heap.SameBut a s.heap h'->HOk X.prog X.w H h':=fun{a h'} ha hs b ob e=>by
  obtain⟨_,_,hfree⟩:=ha;refine(I.hok b ob e).stay (fun c w' hc q=>(hs.2 c ?_).trans q) (fun _ q=>q) fun _ _ q=>q;rintro rfl;rcases hc with rfl|hc;rw[hfree]at e;cases e;rw[hfree]at hc;cases hc
 rcases hx with hk|hk;refine wpAny_storeName_local hk hn (fun h' hn' hs=>?_) hcls;obtain⟨oL,_,_,hoL,_⟩:=id hn;refine h _ ⟨I.ok,I.os,I.bare,⟨fun b o e n hb hx=>?_,fun b o e n hb hx=>?_,I.base.free,fun b o e hx=>?_,I.base.tups,I.base.frzs,I.base.tbls⟩,⟨_,hn',fun j y v' e1 e2 e3=>?_⟩,fun y c e=>?_,I.free,I.freeC,fun p hp=>?_,tracked ⟨oL,hoL,I.free⟩ hs,by simpa using I.len⟩ ⟨_,hs,.inl rfl⟩;exact(hs.2 b (Qr (QM (QV e) I.ok.above))).trans (I.base.keep b o e n hb hx);obtain⟨sl,e1⟩:=I.base.slot b o e n hb hx;exact⟨sl,(hs.2 b (Qr (QM (QV e) I.ok.above))).trans e1⟩;obtain⟨o',e1⟩:=I.base.there b o e hx;exact⟨o',(hs.2 b (Qr (QM (QV e) I.ok.above))).trans e1⟩;by_cases hj:j=i;subst hj;rw[hi]at e1;cases e1;rw[ZK hiσ]at e2;cases e2;exact⟨u,r,.inl ⟨hk,by simp⟩⟩;rw[Qt (Ne.symm hj)]at e2;obtain⟨u',r',q⟩:=hl j y v' e1 e2 e3;refine⟨u',r',?_⟩;rcases q with⟨k,e⟩|⟨k,c,e,z⟩;refine .inl ⟨k,?_⟩;have:y≠x:=fun e=>hj (wt hN e1 (e▸hi));simp[this,e];exact .inr ⟨k,c,e,z.sameBut hs (cne y c e)⟩;obtain⟨w',z⟩:=I.cell y c e;exact⟨w',z.sameBut hs (cne y c e)⟩;obtain⟨e,n,ne,nf,d⟩:=I.pin p hp;exact⟨(hs.2 p.1 ne).trans e,n,ne,nf,d⟩;have hfn:X.fn x=true:=by
  rcases hf with z|z;exact z;rw[z]at hk;cases hk
 obtain⟨c,hc⟩:=I.ok.has x (.inl hk);obtain⟨w',z⟩:=I.cell x c hc;refine wpAny_storeName_cell I.ok.kind hk hc z (fun h' hc' hs=>?_);obtain⟨oc,hoc,hocd⟩:=id z;refine h { s with heap:=h' } ⟨I.ok,I.os,I.bare,⟨fun b o e n hb hx=>?_,fun b o e n hb hx=>?_,I.base.free,fun b o e hx=>?_,I.base.tups,I.base.frzs,I.base.tbls⟩,⟨m,hn.sameBut hs (Ne.symm (cne x c hc)),fun j y v' e1 e2 e3=>?_⟩,fun y c' e=>?_,I.free,I.freeC,fun p hp=>?_,tracked ⟨oc,hoc,I.freeC x c hc⟩ hs,by simpa using I.len⟩ ⟨c,hs,.inr hc⟩;exact(hs.2 b (Qr (QM (QV e) (I.ok.cab x c hfn hc)))).trans (I.base.keep b o e n hb hx);obtain⟨sl,e1⟩:=I.base.slot b o e n hb hx;exact⟨sl,(hs.2 b (Qr (QM (QV e) (I.ok.cab x c hfn hc)))).trans e1⟩;obtain⟨o',e1⟩:=I.base.there b o e hx;exact⟨o',(hs.2 b (Qr (QM (QV e) (I.ok.cab x c hfn hc)))).trans e1⟩;by_cases hj:j=i;subst hj;rw[hi]at e1;cases e1;rw[ZK hiσ]at e2;cases e2;exact⟨u,r,.inr ⟨.inl hk,c,hc,hc'⟩⟩;rw[Qt (Ne.symm hj)]at e2;obtain⟨u',r',q⟩:=hl j y v' e1 e2 e3;refine⟨u',r',?_⟩;rcases q with q|⟨k,c',e,z'⟩;exact .inl q;refine .inr ⟨k,c',e,z'.sameBut hs ?_⟩;rintro rfl;exact hj (wt hN e1 (I.ok.inj _ _ _ e hc▸hi));by_cases hcc:c'=c;subst hcc;exact⟨_,hc'⟩;obtain⟨w2,z2⟩:=I.cell y c' e;exact⟨w2,z2.sameBut hs hcc⟩;obtain⟨e,n,ne,nf,d⟩:=I.pin p hp;refine⟨(hs.2 p.1 ?_).trans e,n,ne,nf,d⟩;intro q;rw[q,hoc]at e;have q':oc=p.2:=Option.some.inj e;exact d w' (by rw[<-q'];exact hocd)
def wa{M:Model}{A:Z9}{E:Q2->Q3->Prop}{i:Nat}{x:Str}{v:V}{u:Q2}{Q:Unit->Q3->Prop}(I:Inv X pins σ H s)(hN:X.N.Nodup)(hi:X.N[i]?=some x)(hx:Loc X.env.scope x)(r:cI v u)
  (h:∀s',Inv X pins (σ.set i (some v)) H s'->Q () s') (hf:X.fn x=true\/X.env.scope.names.lookup x=some .local:=by first|exact .inl rfl|exact .inr rfl|assumption):wpAny M A (storeName X.env x u) Q E s:=
 si I hN hi hx r (fun s' I' _=>h s' I') hf
def Inv.call'{s':Q3}{ch:List Addr}(I:Inv X pins σ H s)(ho:s'.os=s.os)(u:Un (frs X.stack) ch H H' s.heap s'.heap)(hok:HOk X.prog X.w H' s'.heap)(hg:AllBare s'.gens)
  (hch:∀b∈ch,(b∈X.ex\/X.s₀.heap.objs.size<=b)/\b≠X.env.locals/\(∀x c,X.env.cells.lookup x=some c->c≠b)/\∀p∈X.pn++pins,p.1≠b):Inv X pins σ H' s':=by
 obtain⟨h',g',d',t',o'⟩:=s';have e:o'=s.os:=ho;subst e;exact I.call (g':=g') (t':=t') (d':=d') u hok hg hch
end
abbrev XK:=Q2->Option Addr->Hp->Prop
abbrev St:=List (Option V)
abbrev VK:=V->Hp->Prop
abbrev TE:=St->Hp->VK->Prop
abbrev TT:=St->Hp->(Bool->Hp->Prop)->Prop
abbrev TA:=St->Hp->(List V->Hp->Prop)->Prop
structure BW where
 nx:St->Hp->Prop
 rt:VK
 bk:St->Hp->Prop:=fun _ _=>False
 ct:St->Hp->Prop:=fun _ _=>False
abbrev TS:=BW->St->Hp->Prop
def EP(X:Cx)(pins:List (Addr×Obj))(σ:St)(Q:VK)(u:Q2)(s':Q3):Prop:=∃v H',Inv X pins σ H' s'/\cI v u/\Q v H'
def TP(X:Cx)(pins:List (Addr×Obj))(σ:St)(Q:Bool->Hp->Prop)(b:Bool)(s':Q3):Prop:=∃H',Inv X pins σ H' s'/\Q b H'
def AP(X:Cx)(pins:List (Addr×Obj))(σ:St)(Q:List V->Hp->Prop)(us:List Q2)(s':Q3):Prop:=∃vs H',Inv X pins σ H' s'/\bX vs us/\Q vs H'
def SP(X:Cx)(pins:List (Addr×Obj))(D:BW)(f:Flow)(s':Q3):Prop:=
 match f with
 |.next=>∃σ' H',Inv X pins σ' H' s'/\D.nx σ' H'
 |.brk=>∃σ' H',Inv X pins σ' H' s'/\D.bk σ' H'
 |.cont=>∃σ' H',Inv X pins σ' H' s'/\D.ct σ' H'
 |.ret u=>∃v σ' H',Inv X pins σ' H' s'/\cI v u/\D.rt v H'
def PE(X:Cx)(e:QB)(t:TE):Prop:=
 ∀(pins:List (Addr×Obj)) (s:Q3) (σ:St) (H:Hp) (Q:VK),Inv X pins σ H s->t σ H Q->wpAny (Qy X.prog X.w) X.A (eval e X.env) (EP X pins σ Q) X.xe s
def PT(X:Cx)(e:QB)(t:TT):Prop:=
 ∀(pins:List (Addr×Obj)) (s:Q3) (σ:St) (H:Hp) (Q:Bool->Hp->Prop),Inv X pins σ H s->t σ H Q->wpAny (Qy X.prog X.w) X.A (isTrue e X.env (eval e X.env)) (TP X pins σ Q) X.xe s
def PW(X:Cx)(e:QB)(t:TT):Prop:=
 ∀(whole:Sem Q2) (pins:List (Addr×Obj)) (s:Q3) (σ:St) (H:Hp) (Q:Bool->Hp->Prop),Inv X pins σ H s->t σ H Q->wpAny (Qy X.prog X.w) X.A (isTrue e X.env whole) (TP X pins σ Q) X.xe s
def PW.pt{X:Cx}{e:QB}{t:TT}(h:PW X e t):PT X e t:=h _
def PA(X:Cx)(es:List QB)(t:TA):Prop:=
 ∀(pos:Pos) (pins:List (Addr×Obj)) (s:Q3) (σ:St) (H:Hp) (Q:List V->Hp->Prop),Inv X pins σ H s->t σ H Q->wpAny (Qy X.prog X.w) X.A (spliced (ZD pos (QJ es X.env))) (AP X pins σ Q) X.xe s
def PS(X:Cx)(st:Z0)(t:TS):Prop:=
 ∀(pins:List (Addr×Obj)) (s:Q3) (σ:St) (H:Hp) (D:BW),Inv X pins σ H s->t D σ H->wpAny (Qy X.prog X.w) X.A (exec st X.env) (SP X pins D) X.xe s
def PSs(X:Cx)(st:List Z0)(t:TS):Prop:=
 ∀(pins:List (Addr×Obj)) (s:Q3) (σ:St) (H:Hp) (D:BW),Inv X pins σ H s->t D σ H->wpAny (Qy X.prog X.w) X.A (execs st X.env) (SP X pins D) X.xe s
def thn{α:Type}{t:Sem α}{Q Q':α->Q3->Prop}{M:Model}{A:Z9}{E:Q2->Q3->Prop}{s:Q3}(h:wpAny M A t Q E s)(hQ:∀a s,Q a s->Q' a s):wpAny M A t Q' E s:=ZT h hQ fun _ _ x=>x
variable{b:QB}{ta tb:TE}{pos:Pos}
section
def Mf(i:Nat):TE:=fun σ H Q=>∃v,σ[i]?=some (some v)/\Q v H
def tC(v:V):TE:=fun _ H Q=>Q v H
def Kv{i:Nat}{x:Str}{pos:Pos}(hN:X.N[i]?=some x)(hv:Vis X.env.scope x)(hd:(x == ("__debug__":Str))=false:=by decide)(hcd:(x == ("__classdict__":Str))=false:=by decide):PE X (.Name x pos) (Mf i):=by
 intro pins s σ H Q I h;obtain⟨v,e,h⟩:=h;obtain⟨m,hn,hl⟩:=I.loc;obtain⟨u,r,l⟩:=hl i x v hN e hv;have fin:EP X pins σ Q u s:=⟨v,H,I,r,h⟩;rcases l with⟨hk,hm⟩|⟨hk,c,hc,hcell⟩;exact wpAny_Name (wpAny_loadName_local I.ok.kind hk hn hm fin) hd;rcases hk with hk|hk;exact wpAny_Name (wpAny_loadName_cell I.ok.kind hk hc hcell fin) hd;exact wpAny_Name (wpAny_loadName_free I.ok.kind hk hc hcell fin hcd) hd
def KG{i j pos}:PE X (.Constant (.int i) j pos) (tC (.int i)):=fun _ _ _ H _ I h=>wpAny_Constant_int ⟨.int i,H,I.tok _,⟨_,rfl⟩,h⟩
def N8{b j pos}:PE X (.Constant (.bool b) j pos) (tC (.bl b)):=fun _ _ _ H _ I h=>Constant_bool ⟨.bl b,H,I,rfl,h⟩
def KC{j pos}:PE X (.Constant .none j pos) (tC .non):=fun _ _ _ H _ I h=>Constant_none ⟨.non,H,I,rfl,h⟩
def Ky{x j pos}:PE X (.Constant (.str x) j pos) (tC (.str x)):=fun _ _ _ H _ I h=>Calls.Constant_str ⟨.str x,H,I.tok _,⟨_,rfl⟩,h⟩
def Gl(X:Cx)(x:Str):Prop:=X.env.kindOf x=some .globalImplicit
def Af{E:Q2->Q3->Prop}{pins:List (Addr×Obj)}{s:Q3}{σ:St}{H:Hp}{x:Str}{u:Q2}{pos:Pos}{Q:Q2->Q3->Prop}(I:Inv X pins σ H s)(hg:Gl X x)(hm:X.mg x=some u)(h:Q u s)
  (hd:(x == ("__debug__":Str))=false:=by decide):wpAny (Qy X.prog X.w) X.A (eval (.Name x pos) X.env) Q E s:=
 Calls.Name_function_global I.ok.kind hg (Calls.loadGlobal_global (by rw[I.ok.glob];exact I.mod.glob.keeps I.bk) hm h) hd
def sZ{E:Q2->Q3->Prop}{pins:List (Addr×Obj)}{s:Q3}{σ:St}{H:Hp}{x:Str}{u:Q2}{pos:Pos}{Q:Q2->Q3->Prop}(I:Inv X pins σ H s)(hg:Gl X x)(hm:X.mg x=none)(hv:ZE x=some u)(h:Q u s)
  (hn:x≠"__name__":=by decide) (hd:(x == ("__debug__":Str))=false:=by decide):wpAny (Qy X.prog X.w) X.A (eval (.Name x pos) X.env) Q E s:=by
 obtain⟨mb,h1,h2⟩:=I.mod.blt;exact Calls.Name_function_global I.ok.kind hg (Calls.loadGlobal_builtin (by rw[I.ok.glob];exact I.mod.glob.keeps I.bk) hm (by rw[I.ok.blt];exact h1.keeps I.bk) ((h2 x hn).trans hv) h) hd
variable{a:QB}
def PC(X:Cx)(op:CmpOp)(a b:QB)(t:TE):Prop:=
 ∀(pins:List (Addr×Obj)) (s:Q3) (σ:St) (H:Hp) (Q:VK),Inv X pins σ H s->t σ H Q->
  wpAny (Qy X.prog X.w) X.A (eval a X.env) (fun v s₁=>wpAny (Qy X.prog X.w) X.A (eval b X.env) (fun u s₂=>wpAny (Qy X.prog X.w) X.A (compareOp op v u) (EP X pins σ Q) X.xe s₂) X.xe s₁) X.xe s
def tB(t:TE):TT:=fun σ H Q=>t σ H fun x H1=>∃c,x=.bl c/\Q c H1
def KI{op:CmpOp}{t:TE}(h:PC X op a b t)(h1:behindInMarks op b=false:=by first|exact nobehind _ (by decide) (by decide)|rfl):PE X (.Compare a [op] [b] pos) t:=fun pins s σ H Q I hw=>wpAny_Compare1 (h pins s σ H Q I hw) h1
def Kj{op:CmpOp}{t:TE}(h:PC X op a b t)(h1:behindInMarks op b=false:=by first|exact nobehind _ (by decide) (by decide)|rfl):PT X (.Compare a [op] [b] pos) (tB t):=by
 intro pins s σ H Q I hw;refine wpAny_isTrue_Compare1 (thn (h pins s σ H _ I hw) fun v s1 h1=>thn h1 fun u s2 h2=>thn h2 fun c s3 hz=>?_) h1;obtain⟨x,H1,I1,r1,q1⟩:=hz;obtain⟨d,rfl,q⟩:=q1;cases r1;exact wpAny_truthy_bool ⟨H1,I1,q⟩
def Kg{e:QB}{t:TE}(h:PE X e t)(he:∀whole,isTrue e X.env whole=(do let v <-whole;standAt e.pos;holding [v] (truthy v)):=by intro _;rfl):PT X e (tB t):=by
 intro pins s σ H Q I hw;refine isTrue_plain (thn (h pins s σ H _ I hw) fun v s1 ⟨x,H1,I1,r1,q1⟩=>?_) (he _);obtain⟨d,rfl,q⟩:=q1;cases r1;exact wpAny_truthy_bool ⟨H1,I1,q⟩
variable{tA tB':TT}{rest:List QB}
def Pc(t u:TT):TT:=fun σ H Q=>t σ H fun c H1=>if c=true then u σ H1 Q else Q false H1
def tOr(t u:TT):TT:=fun σ H Q=>t σ H fun c H1=>if c=true then Q true H1 else u σ H1 Q
def O8(t:TT):TT:=fun σ H Q=>t σ H fun c H1=>Q (!c) H1
def GR(ha:PT X a tA):PW X (.BoolOp .And [a] pos) tA:=by
 intro wh pins s σ H Q I h;refine isTrue_and (thn (ha pins s σ H Q I h) fun c s1 e=>?_);cases c with
 |true=>exact isTrue_and_nil e
 |false=>exact e
def Ke(ha:PT X a tA):PW X (.BoolOp .Or [a] pos) tA:=by
 intro wh pins s σ H Q I h;refine isTrue_or (thn (ha pins s σ H Q I h) fun c s1 e=>?_);cases c with
 |false=>exact isTrue_or_nil e
 |true=>exact e
def Kf(ha:PT X a tA)(hb:PW X (.BoolOp .And (b::rest) pos) tB'):PW X (.BoolOp .And (a::b::rest) pos) (Pc tA tB'):=by
 intro wh pins s σ H Q I h;refine isTrue_and (thn (ha pins s σ H _ I h) fun c s1 ⟨H1,I1,q1⟩=>?_);cases c with
 |true=>exact hb wh pins s1 σ H1 Q I1 q1
 |false=>exact⟨H1,I1,q1⟩
def NV(ha:PT X a tA)(hb:PW X (.BoolOp .Or (b::rest) pos) tB'):PW X (.BoolOp .Or (a::b::rest) pos) (tOr tA tB'):=by
 intro wh pins s σ H Q I h;refine isTrue_or (thn (ha pins s σ H _ I h) fun c s1 ⟨H1,I1,q1⟩=>?_);cases c with
 |true=>exact⟨H1,I1,q1⟩
 |false=>exact hb wh pins s1 σ H1 Q I1 q1
def Kh(ha:PT X a tA):PT X (.UnaryOp .Not a pos) (O8 tA):=by
 intro pins s σ H Q I h;exact isTrue_not (ha pins s σ H (fun c H1=>Q (!c) H1) I h)
def JY(ta tb:TE):TE:=fun σ H Q=>ta σ H fun x H1=>∃c,x=.bl c/\if c=true then tb σ H1 Q else Q (.bl false) H1
def O7(ta tb:TE):TE:=fun σ H Q=>ta σ H fun x H1=>∃c,x=.bl c/\if c=true then Q (.bl true) H1 else tb σ H1 Q
def JQ(ta:TE):TE:=fun σ H Q=>ta σ H fun x H1=>∃c,x=.bl c/\Q (.bl (!c)) H1
def Kz{op}{t:TE}(h:PE X a t):PE X (.BoolOp op [a] pos) t:=fun pins s σ H Q I hw=>BoolOp_one (h pins s σ H Q I hw)
def KJ(ha:PE X a ta)(hb:PE X (.BoolOp .And (b::rest) pos) tb):PE X (.BoolOp .And (a::b::rest) pos) (JY ta tb):=by
 intro pins s σ H Q I h;refine BoolOp_and (thn (ha pins s σ H _ I h) fun v s1 hz=>?_);obtain⟨x,H1,I1,r1,q1⟩:=hz;obtain⟨c,rfl,q1⟩:=q1;cases r1;refine wpAny_truthy_bool ?_;cases c with
 |true=>exact hb pins s1 σ H1 Q I1 q1
 |false=>exact⟨.bl false,H1,I1,rfl,q1⟩
def NY(ha:PE X a ta)(hb:PE X (.BoolOp .Or (b::rest) pos) tb):PE X (.BoolOp .Or (a::b::rest) pos) (O7 ta tb):=by
 intro pins s σ H Q I h;refine BoolOp_or (thn (ha pins s σ H _ I h) fun v s1 hz=>?_);obtain⟨x,H1,I1,r1,q1⟩:=hz;obtain⟨c,rfl,q1⟩:=q1;cases r1;refine wpAny_truthy_bool ?_;cases c with
 |false=>exact hb pins s1 σ H1 Q I1 q1
 |true=>exact⟨.bl true,H1,I1,rfl,q1⟩
def KA(ha:PE X a ta):PE X (.UnaryOp .Not a pos) (JQ ta):=by
 intro pins s σ H Q I h;refine UnaryOp_ (thn (ha pins s σ H _ I h) fun v s1 hz=>?_);obtain⟨x,H1,I1,r1,q1⟩:=hz;obtain⟨c,rfl,q1⟩:=q1;cases r1;exact not_of (wpAny_truthy_bool ⟨.bl (!c),H1,I1,rfl,q1⟩)
end
def SqL(K:Q1)(H:Hp)(a:Addr)(xs:List V):Prop:=
 Rd H a (.lst xs)\/
  ∃(o:Obj) (its:Array Q2) (n:Nat),K.lookup a=some o/\o.cls=.type "list"/\o.dict=none/\o.data=.seq its n/\its.size<=QD/\bX xs its.toList
def SqT(K:Q1)(H:Hp)(a:Addr)(xs:List V):Prop:=
 Rd H a (.tup xs)\/
  ∃(o:Obj) (its:Array Q2) (n:Nat),K.lookup a=some o/\o.cls=.type "tuple"/\o.data=.seq its n/\its.size<=QD/\bX xs its.toList
def Qo:Q2->Option V
 |.none=>some .non
 |.bool b=>some (.bl b)
 |.int i _=>some (.int i)
 |.str x _=>some (.str x)
 |.bytes b _=>some (.byt b)
 |.float b _=>some (.flt b)
 |.ref a=>some (.ref a)
 |.type n=>some (.ty n)
 |_=>none
def cI.abs{x:V}{u:Q2}(r:cI x u):Qo u=some x:=by
 cases x with
 |non=>cases r;rfl
 |bl _=>cases r;rfl
 |int _=>obtain⟨t,rfl⟩:=r;rfl
 |str _=>obtain⟨t,rfl⟩:=r;rfl
 |byt _=>obtain⟨t,rfl⟩:=r;rfl
 |flt _=>obtain⟨t,rfl⟩:=r;rfl
 |ref _=>cases r;rfl
 |ty _=>cases r;rfl
def cI.inj{x y:V}{u:Q2}(r:cI x u)(q:cI y u):x=y:=Option.some.inj (r.abs.symm.trans q.abs)
def bX.inj:∀{xs ys:List V} {us:List Q2},bX xs us->bX ys us->xs=ys
 |_,_,_,.nil,.nil=>rfl
 |_,_,_,.cons r t,.cons r' t'=>by rw[r.inj r',bX.inj t t']
variable{σ:St}
section
variable{xs ys:List V}
def SqL.of{K:Q1}(h:H a=some (.lst xs)):SqL K H a xs:=.inl (.inl h)
def SqT.of{K:Q1}(h:H a=some (.tup xs)):SqT K H a xs:=.inl (.inl h)
def Inv.list(I:Inv X pins σ H s)(h:SqL X.K H a xs):∃its:List Q2,bX xs its/\PlainL s.heap a its.toArray/\xs.length<=QD:=by
 rcases h with h|⟨o,its,n,hk,hc,hd,hs,hz,r⟩;obtain⟨z,its,n,r,e⟩:=h.ok I.hok;exact⟨its,r,⟨_,n,e,rfl,rfl,rfl⟩,z⟩;refine⟨its.toList,r,⟨o,n,I.kIn a o hk,hc,hd,by simpa using hs⟩,?_⟩;have e:=r.length;simp only[ZH]at e;omega
def Inv.tuple(I:Inv X pins σ H s)(h:SqT X.K H a xs):∃its:List Q2,bX xs its/\IsTup s.heap a its.toArray/\xs.length<=QD:=by
 rcases h with h|⟨o,its,n,hk,hc,hs,hz,r⟩;obtain⟨z,its,r,p⟩:=h.ok I.hok;exact⟨its,r,p,z⟩;refine⟨its.toList,r,⟨o,I.kIn a o hk,hc,n,by simpa using hs⟩,?_⟩;have e:=r.length;simp only[ZH]at e;omega
def Inv.list_inj(I:Inv X pins σ H s)(h:SqL X.K H a xs)(h':SqL X.K H a ys):xs=ys:=by
 obtain⟨its,r,⟨o,n,e,_,_,d⟩,_⟩:=I.list h;obtain⟨its',r',⟨o',n',e',_,_,d'⟩,_⟩:=I.list h';rw[e]at e';cases e';rw[d]at d';injection d' with d1 _;have:its=its':=by simpa using congrArg Array.toList d1
 subst this;exact r.inj r'
def Inv.tuple_inj(I:Inv X pins σ H s)(h:SqT X.K H a xs)(h':SqT X.K H a ys):xs=ys:=by
 obtain⟨its,r,⟨o,e,_,n,d⟩,_⟩:=I.tuple h;obtain⟨its',r',⟨o',e',_,n',d'⟩,_⟩:=I.tuple h';rw[e]at e';cases e';rw[d]at d';injection d' with d1 _;have:its=its':=by simpa using congrArg Array.toList d1
 subst this;exact r.inj r'
end
abbrev Cx.wish(X:Cx)(E:Q2->Q3->Prop):Cx:={ X with xe:=E }
abbrev Cx.nox(X:Cx):Cx:=X.wish fun _ _=>False
def Cx.Ok.wish{X:Cx}(ok:X.Ok)(E:Q2->Q3->Prop):(X.wish E).Ok:=
 ⟨ok.mod,ok.kind,ok.glob,ok.blt,ok.above,ok.inj,ok.has,ok.cab,ok.hd,ok.frames,ok.stk,ok.exf,ok.bs,ok.bsz,ok.noex,ok.exfs,ok.funs,ok.frf⟩
def Cx.Ok.unwish{X:Cx}{E:Q2->Q3->Prop}(ok:(X.wish E).Ok):X.Ok:=
 ⟨ok.mod,ok.kind,ok.glob,ok.blt,ok.above,ok.inj,ok.has,ok.cab,ok.hd,ok.frames,ok.stk,ok.exf,ok.bs,ok.bsz,ok.noex,ok.exfs,ok.funs,ok.frf⟩
variable{E:Q2->Q3->Prop}
def Inv.wish(I:Inv X pins σ H s)(E:Q2->Q3->Prop):Inv (X.wish E) pins σ H s:=⟨I.ok.wish E,I.os,I.bare,I.base,I.loc,I.cell,I.free,I.freeC,I.pin,I.hok,I.len⟩
def Inv.unwish(I:Inv (X.wish E) pins σ H s):Inv X pins σ H s:=⟨I.ok.unwish,I.os,I.bare,I.base,I.loc,I.cell,I.free,I.freeC,I.pin,I.hok,I.len⟩
def SP.unwish{D:BW}{f:Flow}{s':Q3}(h:SP (X.wish E) pins D f s'):SP X pins D f s':=by
 cases f with
 |next=>obtain⟨σ',H',I,q⟩:=h;exact⟨σ',H',I.unwish,q⟩
 |brk=>obtain⟨σ',H',I,q⟩:=h;exact⟨σ',H',I.unwish,q⟩
 |cont=>obtain⟨σ',H',I,q⟩:=h;exact⟨σ',H',I.unwish,q⟩
 |ret u=>obtain⟨v,σ',H',I,r,q⟩:=h;exact⟨v,σ',H',I.unwish,r,q⟩
def PSs.nox{st:List Z0}{t:TS}(h:PSs X.nox st t):PSs X st t:=fun pins s σ H D I hw=>
 ZT (h pins s σ H D (I.wish _) hw) (fun _ _ q=>q.unwish) fun _ _ z=>False.elim z
variable{te:TE}
section
variable{st:Z0}{rest:List Z0}{t u:TS}{e:QB}
def JR:TS:=fun D σ H=>D.nx σ H
def O5(t u:TS):TS:=fun D σ H=>t { D with nx:=u D } σ H
def GW:PSs X [] JR:=fun _ _ σ H _ I h=>wpAny_execs_nil ⟨σ,H,I,h⟩
def CO(h1:PS X st t)(h2:PSs X rest u):PSs X (st::rest) (O5 t u):=by
 intro pins s σ H D I h;refine wpAny_execs_cons (thn (h1 pins s σ H { D with nx:=u D } I h) fun f s1 q=>?_);cases f with
 |next=>
  obtain⟨σ',H',I',q⟩:=q;exact h2 pins s1 σ' H' D I' q
 |ret v=>exact q
 |brk=>exact q
 |cont=>exact q
def GV(h1:PS X st t):PSs X [st] t:=by
 intro pins s σ H D I h;refine wpAny_execs_cons (thn (h1 pins s σ H D I h) fun f s1 q=>?_);cases f with
 |next=>exact wpAny_execs_nil q
 |ret v=>exact q
 |brk=>exact q
 |cont=>exact q
def EK:TS:=fun D σ H=>D.bk σ H
def CU:PS X (.Break pos) EK:=fun _ _ σ H _ I h=>wpAny_Break ⟨σ,H,I,h⟩
def Inv.quiet{pins:List (Addr×Obj)}{σ:St}{H:Hp}{s:Q3}(I:Inv X pins σ H s):interactive X.env=false:=by simp[interactive,I.ok.kind]
def JT(te:TE):TS:=fun D σ H=>te σ H fun _ H1=>D.nx σ H1
def GX(he:PE X e te)(hs:Za e none pos.line X.env=pure false:=by rfl):PS X (.Expr e pos) (JT te):=by
 intro pins s σ H D I h;exact wpAny_Expr_any (thn (he pins s σ H _ I h) fun v s1 ⟨x,H1,I1,r1,q1⟩=>⟨σ,H1,I1,q1⟩) I.quiet hs
def O6(te:TE):TS:=fun D σ H=>te σ H D.rt
def Km(he:PE X e te):PS X (.Return (some e) pos) (O6 te):=by
 intro pins s σ H D I h;exact wpAny_Return_some (thn (he pins s σ H _ I h) fun v s1 ⟨x,H1,I1,r1,q1⟩=>⟨x,σ,H1,I1,r1,q1⟩)
def Pa(c:TT)(t u:TS):TS:=fun D σ H=>c σ H fun b H1=>if b=true then t D σ H1 else u D σ H1
def NW{c:QB}{a b:List Z0}{tc:TT}(hc:PT X c tc)(ha:PSs X a t)(hb:PSs X b u):PS X (.If c a b pos) (Pa tc t u):=by
 intro pins s σ H D I h;refine wpAny_If (thn (hc pins s σ H _ I h) fun d s1 ⟨H1,I1,q1⟩=>?_);cases d with
 |true=>exact ha pins s1 σ H1 D I1 q1
 |false=>exact hb pins s1 σ H1 D I1 q1
def EG:TS:=fun _ _ _=>False
def CQ:PS X st EG:=fun _ _ _ _ _ _ h=>h.elim
end
abbrev TG:=V->St->Hp->(St->Hp->Prop)->Prop
abbrev TGs:=List V->St->Hp->(St->Hp->Prop)->Prop
def PG(X:Cx)(target:QB)(t:TG):Prop:=
 ∀(pins:List (Addr×Obj)) (s:Q3) (σ:St) (H:Hp) (v:V) (u:Q2) (Q:St->Hp->Prop),Inv X pins σ H s->cI v u->t v σ H Q->
  wpAny (Qy X.prog X.w) X.A (assign target X.env u) (fun _ s'=>∃σ' H',Inv X pins σ' H' s'/\Q σ' H') X.xe s
def PGs(X:Cx)(ts:List QB)(t:TGs):Prop:=
 ∀(pins:List (Addr×Obj)) (s:Q3) (σ:St) (H:Hp) (vs:List V) (us:List Q2) (Q:St->Hp->Prop),Inv X pins σ H s->bX vs us->t vs σ H Q->
  wpAny (Qy X.prog X.w) X.A (assignInOrder ((assignEach ts X.env).map (·.2)) us) (fun _ s'=>∃σ' H',Inv X pins σ' H' s'/\Q σ' H') X.xe s
abbrev Mz:=V->V->V->Hp->(Hp->Prop)->Prop
def O2(X:Cx)(t:Mz):Prop:=
 ∀(pins:List (Addr×Obj)) (s:Q3) (σ:St) (H:Hp) (o i v:V) (ov iv u:Q2) (Q:Hp->Prop),Inv X pins σ H s->cI o ov->cI i iv->cI v u->t o i v H Q->
  wpAny (Qy X.prog X.w) X.A (setItem ov iv u) (fun _ s'=>∃H',Inv X pins σ H' s'/\Q H') X.xe s
def x5(i:Nat):TG:=fun v σ H Q=>Q (σ.set i (some v)) H
def Ha{i:Nat}{x:Str}(hN:X.N.Nodup)(hi:X.N[i]?=some x)(hx:Loc X.env.scope x)(hf:X.fn x=true\/X.env.scope.names.lookup x=some .local:=by first|exact .inl rfl|exact .inr rfl|assumption):PG X (.Name x pos) (x5 i):=by
 intro pins s σ H v u Q I r h;exact wpAny_assign_Name (wa I hN hi hx r (fun s' I'=>⟨_,H,I',h⟩) hf)
def PF:TGs:=fun vs σ H Q=>vs=[]/\Q σ H
def LF(t:TG)(u:TGs):TGs:=fun vs σ H Q=>∃v r,vs=v::r/\t v σ H fun σ' H'=>u r σ' H' Q
def G9:PGs X [] PF:=by
 intro pins s σ H vs us Q I r h;obtain⟨e,h⟩:=h;subst e;cases r;exact assignInOrder_nil ⟨σ,H,I,h⟩
def C0{e:QB}{es:List QB}{t:TG}{u:TGs}(h1:PG X e t)(h2:PGs X es u)
  (hs:(assignEach (e::es) X.env).map (·.2)=assign e X.env::(assignEach es X.env).map (·.2):=by rfl):PGs X (e::es) (LF t u):=by
 intro pins s σ H vs us Q I r h;obtain⟨v,vr,e1,h⟩:=h;subst e1;cases r with
 |cons r rr=>
  rw[hs];refine assignInOrder_cons (thn (h1 pins s σ H _ _ _ I r h) fun _ s1 hz=>?_);obtain⟨σ1,H1,I1,q1⟩:=hz;exact h2 pins s1 σ1 H1 _ _ Q I1 rr q1
def PB(K:Q1)(n:Nat)(t:TGs):TG:=fun v σ H Q=>∃a xs,v=.ref a/\SqT K H a xs/\xs.length=n/\t xs σ H Q
def Kt{es:List QB}{k:Nat}{t:TGs}{n:Nat}(hc:X.calm=true)(h:PGs X es t)
  (hn:(assignEach es X.env).length=n:=by rfl) (hst:(assignEach es X.env).findIdx? (·.1)=none:=by rfl):PG X (.Tuple es k pos) (PB X.K n t):=by
 intro pins s σ H v u Q I r hw;obtain⟨a,xs,e1,hq,hl,hw⟩:=hw;subst e1;cases r;obtain⟨its,rv,ht,hz⟩:=I.tuple hq;refine assign_Tuple_tuple (I.ok.hd hc) ht (by simp[hn,<-hl,rv.length]) hst fun h' hx=>?_;have I1:Inv X pins σ H { s with heap:=h' }:=I.kept (t':=s.toks) fun b o e=>hx b o (Qr (QV e)) e;exact h pins _ σ H xs _ Q I1 (by simpa using rv) hw
def PD(to ti:TE)(t:Mz):TG:=fun v σ H Q=>to σ H fun o H1=>ti σ H1 fun i H2=>t o i v H2 fun H3=>Q σ H3
def Ku{o i:QB}{to ti:TE}{t:Mz}(ho:PE X o to)(hi:PE X i ti)(hs:O2 X t)
  (ha:∀v,assign (.Subscript o i pos) X.env v=(do
   let ov <-holding [v] (eval o X.env)
   let iv <-holding [v,ov] (eval i X.env)
   standAt pos
   holding [v,ov,iv] (setItem ov iv v)
   release [v,ov,iv] []):=by intro _;rfl):PG X (.Subscript o i pos) (PD to ti t):=by
 intro pins s σ H v u Q I r h;rw[ha];refine Q5 (wpAny_holding (thn (ho pins s σ H _ I h) fun ov s1 hz=>?_));obtain⟨x,H1,I1,r1,q1⟩:=hz;refine Q5 (wpAny_holding (thn (hi pins s1 σ H1 _ I1 q1) fun iv s2 hz=>?_));obtain⟨y,H2,I2,r2,q2⟩:=hz;refine Q5 (wpAny_standAt (Q5 (wpAny_holding (thn (hs pins s2 σ H2 x y v ov iv u _ I2 r1 r2 r q2) fun _ s3 ⟨H3,I3,q3⟩=>?_))));exact wpAny_release ⟨σ,H3,I3,q3⟩
def JX(te:TE)(g:TG):TS:=fun D σ H=>te σ H fun x H1=>g x σ H1 D.nx
def Kq{tg e:QB}{te:TE}{g:TG}(he:PE X e te)(hg:PG X tg g)(hs:swapsWithSole [tg] e pos.line X.env=pure false:=by rfl)(hw:swappedStores [tg] e X.env=pure none:=by rfl)
  (h1:(assignEach [tg] X.env).map (·.2)=[assign tg X.env]:=by rfl):PS X (.Assign [tg] e pos) (JX te g):=by
 intro pins s σ H D I h;refine wpAny_Assign_stores (thn (he pins s σ H _ I h) fun v s1 hz=>?_) hs hw;obtain⟨x,H1,I1,r1,q1⟩:=hz;rw[h1];exact thn (hg pins s1 σ H1 x v _ I1 r1 q1) fun _ s2 q=>q
def Kk{i:Nat}{x:Str}{e:QB}{te:TE}{pos':Pos}(hN:X.N.Nodup)(hi:X.N[i]?=some x)(hx:Loc X.env.scope x)(he:PE X e te)(hs:Za e (some (.Name x pos')) pos.line X.env=pure false:=by rfl)(hf:X.fn x=true\/X.env.scope.names.lookup x=some .local:=by first|exact .inl rfl|exact .inr rfl|assumption) :
  PS X (.Assign [.Name x pos'] e pos) (JX te (x5 i)):=by
 intro pins s σ H D I h;refine wpAny_Assign_Name (thn (he pins s σ H _ I h) fun v s1 hz=>?_) hs;obtain⟨y,H1,I1,r1,q1⟩:=hz;exact wa I1 hN hi hx r1 (fun s2 I2=>⟨_,H1,I2,q1⟩) hf
def zi(c:TT)(tb:TS):TS:=fun D σ H=>∃W:Nat->St->Hp->Prop,(∃m,W m σ H)/\∀m σ H,W m σ H->
 c σ H fun b H1=>if b=true then ∃N:St->Hp->Prop,(∀σ' H',N σ' H'->∃m',m'<m/\W m' σ' H')/\tb { D with nx:=N,ct:=N,bk:=D.nx } σ H1 else D.nx σ H1
def CP{c:QB}{body:List Z0}{tc:TT}{tb:TS}(hp:PassesOwn (Qy X.prog X.w) X.A X.env X.xe)(hc:PT X c tc)(hb:PSs X body tb):PS X (.While c body [] pos) (zi tc tb):=by
 intro pins s σ H D I h;obtain⟨W,⟨m0,w0⟩,turn⟩:=h;refine wpAny_While (codeAny_whileLoop (fun n s'=>∃σ' H',Inv X pins σ' H' s'/\W n σ' H') ?_ m0 ⟨σ,H,I,w0⟩);rintro n s1 ⟨σ1,H1,I1,w1⟩;refine wpAny_passesOwn hp (thn (hc pins s1 σ1 H1 _ I1 (turn n σ1 H1 w1)) fun b s2 ⟨H2,I2,q2⟩=>?_);cases b with
 |true=>
  obtain⟨N,hN,q2⟩:=q2;rw[X9 rfl];refine wpAny_passesOwn hp (thn (hb pins s2 σ1 H2 _ I2 q2) fun f s3 q3=>?_);cases f with
  |next=>
   obtain⟨σ3,H3,I3,n3⟩:=q3;obtain⟨m',hm,w3⟩:=hN σ3 H3 n3;exact⟨m',hm,σ3,H3,I3,w3⟩
  |cont=>
   obtain⟨σ3,H3,I3,n3⟩:=q3;obtain⟨m',hm,w3⟩:=hN σ3 H3 n3;exact⟨m',hm,σ3,H3,I3,w3⟩
  |brk=>exact q3
  |ret v=>exact q3
 |false=>
  rw[XQ QZ];exact wpAny_execs_nil ⟨σ1,H2,I2,q2⟩
structure It where
 go:Nat->Hp->Prop
 yld:Nat->Hp->V->Hp->Prop
 stop:Nat->Hp->Prop
def yq(X:Cx)(pins:List (Addr×Obj))(H:Hp)(b:Addr):Prop:=
 H b=none/\b≠X.env.locals/\b∉X.fs/\(b∈X.ex\/X.s₀.heap.objs.size<=b)/\(∀x c,X.env.cells.lookup x=some c->c≠b)/\∀p∈X.pn++pins,p.1≠b
def Inv.fpOk{X:Cx}{pins:List (Addr×Obj)}{σ:St}{H H':Hp}{s:Q3}{b:Addr}(I:Inv X pins σ H s)(hb:s.heap.objs.size<=b)(hn:H' b=none):yq X pins H' b:=by
 refine⟨hn,Nat.ne_of_gt (QM I.lt hb),I.nofs hb,.inr (ZQ I.sz hb),fun x c e z=>?_,fun p hp z=>?_⟩;obtain⟨v,q⟩:=I.cell x c e;exact absurd (QM q.lt (by rw[z];exact hb)) (Zr _);exact absurd (QM (QV (I.pin p hp).1) (by rw[z];exact hb)) (Zr _)
structure IQ(P:Qx)(w:Z7)(K:Q1)(tg:QB)(J:It)(fp:List Addr)(it:Addr)(tn:Nat->Heap->Prop):Prop where
 mem:it∈fp
 obj:∀i h,tn i h->∀b∈fp,∃o,h.get? b=some o/\∀v,o.data≠.cell v
 keep:∀i h h',tn i h->(∀b∈fp,∀o,h.get? b=some o->h'.get? b=some o)->tn i h'
 item:∀(X:Cx),X.prog=P->X.w=w->X.K=K->X.calm=true->∀(i:Nat) (pins:List (Addr×Obj)) (s:Q3) (σ:St) (H:Hp) (E:Q2->Q3->Prop),Inv X pins σ H s->(∀b∈fp,yq X pins H b)->tn i s.heap->J.go i H->
  wpAny (Qy P w) X.A (pyNext (.ref it)) (fun r s1=>∃u,r=some u/\
   wpAny (Qy P w) X.A (letOwnedTupleGo tg (.ref it) u) (fun _ s2=>∃x H',Inv X pins σ H' s2/\cI x u/\J.yld i H x H'/\tn (i+1) s2.heap/\∀b∈fp,H' b=none) E s1) E s
 done:∀(X:Cx),X.prog=P->X.w=w->X.K=K->X.calm=true->∀(i:Nat) (pins:List (Addr×Obj)) (s:Q3) (σ:St) (H:Hp) (E:Q2->Q3->Prop),Inv X pins σ H s->(∀b∈fp,yq X pins H b)->tn i s.heap->J.stop i H->
  wpAny (Qy P w) X.A (pyNext (.ref it)) (fun r s1=>r=none/\Inv X pins σ H s1) E s
 self:∀(A:Z9) (i:Nat) (s:Q3) (Q:Q2->Q3->Prop) (E:Q2->Q3->Prop),tn i s.heap->Q (.ref it) s->wpAny (Qy P w) A (pyIter (.ref it)) Q E s
abbrev TI:=St->Hp->(It->Hp->Prop)->Prop
def PIE(X:Cx)(pins:List (Addr×Obj))(σ:St)(tg:QB)(R:It->Hp->Prop)(itv:Q2)(s2:Q3):Prop:=
 ∃(it:Addr) (fp:List Addr) (tn:Nat->Heap->Prop) (J:It) (H':Hp),itv=.ref it/\Inv X pins σ H' s2/\IQ X.prog X.w X.K tg J fp it tn/\tn 0 s2.heap/\(∀b∈fp,yq X pins H' b)/\R J H'
def PI(X:Cx)(tg iter:QB)(wi:TI):Prop:=
 ∀(pins:List (Addr×Obj)) (s:Q3) (σ:St) (H:Hp) (R:It->Hp->Prop),Inv X pins σ H s->wi σ H R->
  wpAny (Qy X.prog X.w) X.A (eval iter X.env) (fun v s1=>wpAny (Qy X.prog X.w) X.A (pyIter v) (PIE X pins σ tg R) X.xe s1) X.xe s
def DR {M : Model} {A : Z9} {E : Q2 -> Q3 -> Prop} {s : Q3} {tg : QB} {it : Addr} {u : Q2} {o : Obj} {n : String} {vs : Array Q2} {Q : Unit -> Q3 -> Prop} (ho : s.heap.get? it = some o) (hc : o.cls = .type n) (hd : o.data = .fields vs)
    (hn:["enumerate","zip","dict_itemiterator","dict_reverseitemiterator","odict_iterator","itertools.zip_longest","itertools.pairwise"].contains n=false) (hQ:Q () s):wpAny M A (letOwnedTupleGo tg (.ref it) u) Q E s:=by
  unfold letOwnedTupleGo;cases tg<;>first
    |exact Qq hQ
    | (cases u <;> first
        |exact Qq hQ
        | (refine Q5 (wpAny_load ho ?_)
           rw[hc,hd];show wpAny M A (if (["enumerate","zip","dict_itemiterator","dict_reverseitemiterator","odict_iterator","itertools.zip_longest","itertools.pairwise"].contains n&&vs[0]? == some (rawInt _))=true then _ else _) Q E s;rw[XQ (by intro h;rw[hn,Bool.false_and]at h;cases h)];exact Qq hQ))
def Itl(K:Q1)(a:Addr):It:=
 ⟨fun i H=>∃xs x,SqL K H a xs/\xs[i]?=some x,fun i H x H'=>H'=H/\∀xs,SqL K H a xs->xs[i]?=some x,fun i H=>∃xs,SqL K H a xs/\xs.length<=i⟩
def Itt(K:Q1)(a:Addr):It:=
 ⟨fun i H=>∃xs x,SqT K H a xs/\xs[i]?=some x,fun i H x H'=>H'=H/\∀xs,SqT K H a xs->xs[i]?=some x,fun i H=>∃xs,SqT K H a xs/\xs.length<=i⟩
def Itr(lo:Int)(n:Nat):It:=⟨fun i _=>i<n,fun i H x H'=>H'=H/\x=.int (lo+i),fun i _=>n<=i⟩
def za{P:Qx}{w:Z7}{K:Q1}{tg:QB}(a it:Addr):IQ P w K tg (Itl K a) [it] it (fun i h=>h.IsListIter it a i) where
 mem:=by simp
 obj:=fun i h st b hb=>by
  have e:b=it:=by simpa using hb
  subst e;obtain⟨o,e,c,d⟩:=st;exact⟨o,e,fun v z=>by rw[d]at z;cases z⟩
 keep:=fun i h h' st k=>st.at fun o e=>k it (by simp) o e
 item:=by
  intro X hP hw hK hc i pins s σ H E I hf st hg;subst hP hw hK;obtain⟨xs,x,hq,hx⟩:=hg;obtain⟨its,rv,p,hz⟩:=I.list hq;obtain⟨u,hu,ru⟩:=rv.get hx;obtain⟨f0,f1,f2,f3,f4,f5⟩:=hf it (by simp);refine wpAny_pyNext_list_item st p.isList (x:=u) (by simpa using hu) fun h' st' sb=>?_;have I1:Inv X pins σ H { s with heap:=h' }:=I.turned (t':=s.toks) (fun b o hb e=>(sb.2 b hb).trans e) f0 f1 f3 f4 f5;obtain⟨o,e,c,d⟩:=id st';exact⟨u,rfl,DR (s:={ s with heap:=h' }) e c d (by decide) ⟨x,H,I1,ru,⟨rfl,fun ys hy=>by rw[I.list_inj hy hq];exact hx⟩,st',fun b hb=>(hf b hb).1⟩⟩
 done:=by
  intro X hP hw hK hc i pins s σ H E I hf st hg;subst hP hw hK;obtain⟨xs,hq,hx⟩:=hg;obtain⟨its,rv,p,hz⟩:=I.list hq;obtain⟨f0,f1,f2,f3,f4,f5⟩:=hf it (by simp);have hl:=rv.length;exact wpAny_pyNext_list_end (I.ok.hd hc) st p.isList (by simp;omega) fun h' eb=>⟨rfl,I.turned (t':=s.toks) (fun b o hb e=>eb b o hb e) f0 f1 f3 f4 f5⟩
 self:=fun _ _ _ _ _ st h=>wpAny_pyIter_listiter st h
def xE{P:Qx}{w:Z7}{K:Q1}{tg:QB}(a it:Addr):IQ P w K tg (Itt K a) [it] it (fun i h=>h.IsTupleIter it a i) where
 mem:=by simp
 obj:=fun i h st b hb=>by
  have e:b=it:=by simpa using hb
  subst e;obtain⟨o,e,c,d⟩:=st;exact⟨o,e,fun v z=>by rw[d]at z;cases z⟩
 keep:=fun i h h' st k=>st.at fun o e=>k it (by simp) o e
 item:=by
  intro X hP hw hK hc i pins s σ H E I hf st hg;subst hP hw hK;obtain⟨xs,x,hq,hx⟩:=hg;obtain⟨its,rv,p,hz⟩:=I.tuple hq;obtain⟨u,hu,ru⟩:=rv.get hx;obtain⟨f0,f1,f2,f3,f4,f5⟩:=hf it (by simp);refine wpAny_pyNext_tuple_item st (show s.heap.IsTuple a its.toArray from p) (x:=u) (by simpa using hu) fun h' st' sb=>?_;have I1:Inv X pins σ H { s with heap:=h' }:=I.turned (t':=s.toks) (fun b o hb e=>(sb.2 b hb).trans e) f0 f1 f3 f4 f5;obtain⟨o,e,c,d⟩:=id st';exact⟨u,rfl,DR (s:={ s with heap:=h' }) e c d (by decide) ⟨x,H,I1,ru,⟨rfl,fun ys hy=>by rw[I.tuple_inj hy hq];exact hx⟩,st',fun b hb=>(hf b hb).1⟩⟩
 done:=by
  intro X hP hw hK hc i pins s σ H E I hf st hg;subst hP hw hK;obtain⟨xs,hq,hx⟩:=hg;obtain⟨its,rv,p,hz⟩:=I.tuple hq;obtain⟨f0,f1,f2,f3,f4,f5⟩:=hf it (by simp);have hl:=rv.length;exact wpAny_pyNext_tuple_end (I.ok.hd hc) st (show s.heap.IsTuple a its.toArray from p) (by simp;omega) fun h' eb=>⟨rfl,I.turned (t':=s.toks) (fun b o hb e=>eb b o hb e) f0 f1 f3 f4 f5⟩
 self:=fun _ _ _ _ _ st h=>wpAny_pyIter_tupleiter st h
def xF{P:Qx}{w:Z7}{K:Q1}{tg:QB}(it:Addr)(lo:Int)(n:Nat):IQ P w K tg (Itr lo n) [it] it (fun i h=>IsRangeIter h it (lo+(i:Nat)*1) ((n:Int)-(i:Nat)) 1) where
 mem:=by simp
 obj:=fun i h st b hb=>by
  have e:b=it:=by simpa using hb
  subst e;exact⟨_,st,fun v z=>by
   have z':Data.fields _=Data.cell v:=z;cases z'⟩
 keep:=fun i h h' st k=>k it (by simp) _ st
 item:=by
  intro X hP hw hK hc i pins s σ H E I hf st hg;subst hP hw hK;obtain⟨f0,f1,f2,f3,f4,f5⟩:=hf it (by simp);have W:=Walks.range (prog:=X.prog) (w:=X.w) (I.ok.hd hc) it lo 1 n;refine W.item i s _ _ hg st fun v h' tk hv st' kk=>?_;obtain⟨t,rfl⟩:=hv;have I1:Inv X pins σ H { s with heap:=h',toks:=tk }:=I.turned (fun b o hb e=>kk b o (by simpa using hb) e) f0 f1 f3 f4 f5;refine⟨_,rfl,DR (s:={ s with heap:=h',toks:=tk }) (n:="range_iterator") st' rfl rfl (by decide) ⟨.int (lo+i),H,I1,⟨t,?_⟩,⟨rfl,rfl⟩,st',fun b hb=>(hf b hb).1⟩⟩;rw[Int.mul_one]
 done:=by
  intro X hP hw hK hc i pins s σ H E I hf st hg;subst hP hw hK;obtain⟨f0,f1,f2,f3,f4,f5⟩:=hf it (by simp);exact wpAny_pyNext_range_end (I.ok.hd hc) st (by have:n<=i:=hg;omega) fun h' eb=>⟨rfl,I.turned (t':=s.toks) (fun b o hb e=>eb b o hb e) f0 f1 f3 f4 f5⟩
 self:=fun _ _ _ _ _ st h=>wpAny_pyIter_rangeiter st h
section
variable{tg:QB}
def LC(K:Q1)(tl:TE):TI:=fun σ H R=>tl σ H fun x H1=>∃a,x=.ref a/\(∃xs,SqL K H1 a xs)/\R (Itl K a) H1
def Pz(K:Q1)(tl:TE):TI:=fun σ H R=>tl σ H fun x H1=>∃a,x=.ref a/\(∃xs,SqT K H1 a xs)/\R (Itt K a) H1
def G8{l:QB}{tl:TE}(hl:PE X l tl):PI X tg l (LC X.K tl):=by
 intro pins s σ H R I h;refine thn (hl pins s σ H _ I h) fun v s1 hz=>?_;obtain⟨x,H1,I1,r1,q1⟩:=hz;obtain⟨a,e,⟨xs,hq⟩,q⟩:=q1;subst e;cases r1;obtain⟨its,rv,p,hz⟩:=I1.list hq;refine wpAny_pyIter_list p.isList ?_;refine⟨s1.heap.objs.size,[s1.heap.objs.size],_,_,H1,rfl,I1.kept (t':=s1.toks) fun b o e=>Q6 _ e,za a _,⟨_,Qv _ rfl,rfl,rfl⟩,fun b hb=>?_,q⟩;have e:b=s1.heap.objs.size:=by simpa using hb
 subst e;exact I1.fpOk (Q7 _) (I1.hok.fresh (Q7 _))
def Ks{l:QB}{tl:TE}(hl:PE X l tl):PI X tg l (Pz X.K tl):=by
 intro pins s σ H R I h;refine thn (hl pins s σ H _ I h) fun v s1 hz=>?_;obtain⟨x,H1,I1,r1,q1⟩:=hz;obtain⟨a,e,⟨xs,hq⟩,q⟩:=q1;subst e;cases r1;obtain⟨its,rv,p,hz⟩:=I1.tuple hq;refine wpAny_pyIter_tuple (show s1.heap.IsTuple a its.toArray from p) ?_;refine⟨s1.heap.objs.size,[s1.heap.objs.size],_,_,H1,rfl,I1.kept (t':=s1.toks) fun b o e=>Q6 _ e,xE a _,⟨_,Qv _ rfl,rfl,rfl⟩,fun b hb=>?_,q⟩;have e:b=s1.heap.objs.size:=by simpa using hb
 subst e;exact I1.fpOk (Q7 _) (I1.hok.fresh (Q7 _))
def Cu{pins:List (Addr×Obj)}{σ:St}{H:Hp}{s:Q3}{R:It->Hp->Prop}{E:Q2->Q3->Prop}{lo hi:Int}{t u v:Tok}{tk:Nat}(I:Inv X pins σ H s)(h1:-(2^62)<=lo)(h2:lo<2^62)(h3:-(2^62)<=hi)(h4:hi<2^62)
  (q:R (Itr lo (hi-lo).toNat) H):wpAny (Qy X.prog X.w) X.A (pyIter (.ref s.heap.objs.size)) (PIE X pins σ tg R) E { s with heap:=s.heap.push { cls:=.type "range",data:=.fields #[.int lo t,.int hi u,.int 1 v] },toks:=tk }:=by
 refine wpAny_pyIter_range (IsRange.new ..) (small_one h1 h2 h3 h4) ?_;have I1:Inv X pins σ H { s with heap:=s.heap.push { cls:=.type "range",data:=.fields #[.int lo t,.int hi u,.int 1 v] },toks:=tk }:=I.kept fun b o e=>Q6 _ e;refine⟨(s.heap.push { cls:=.type "range",data:=.fields #[.int lo t,.int hi u,.int 1 v] }).objs.size,[(s.heap.push { cls:=.type "range",data:=.fields #[.int lo t,.int hi u,.int 1 v] }).objs.size],_,_,H,rfl,
  I1.kept (t':=tk) fun b o e=>Q6 _ e,xF _ lo (hi-lo).toNat,?_,fun b hb=>?_,q⟩
 ·have e1:lo+((0:Nat):Int)*1=lo:=by simp
  have e2:(((hi-lo).toNat:Nat):Int)-((0:Nat):Int)=Builtin.Range.rangeSize lo hi 1:=by rw[rangeSize_one];split<;>omega
  show IsRangeIter _ _ (lo+((0:Nat):Int)*1) ((((hi-lo).toNat:Nat):Int)-((0:Nat):Int)) 1;rw[e1,e2];exact Qv _ rfl
 have e:b=(s.heap.push { cls:=.type "range",data:=.fields #[.int lo t,.int hi u,.int 1 v] }).objs.size:=by simpa using hb
 subst e;exact I1.fpOk (Q7 _) (I1.hok.fresh (Q7 _))
def LB(ta:TA):TI:=fun σ H R=>ta σ H fun vs H1=>∃j:Int,vs=[.int j]/\-(2^62)<=j/\j<2^62/\R (Itr 0 j.toNat) H1
def zJ{a:QB}{ta:TA}{p pos:Pos}(hg:Gl X "range")(hm:X.mg "range"=none)(ha:PA X [a] ta)(hs:QJ [a] X.env=[(false,eval a X.env)]:=by rfl):PI X tg (.Call (.Name "range" p) [a] [] pos) (LB ta):=by
 intro pins s σ H R I h;refine Call_ (sZ I hg hm boot_range (PyProof.Rows.callWith_type1 (thn (ha pos pins s σ H _ I h) fun us s1 ⟨vs,H1,I1,r1,q1⟩=>?_) hs rfl));obtain⟨j,e,q1,q2,q⟩:=q1;subst e;cases r1 with
 |cons r rr=>
  cases rr;obtain⟨t,rfl⟩:=r;exact call_range_1 (Cu I1 (by omega) (by omega) q1 q2 (by simpa using q))
def Mi(wi:TI)(g:TG)(tb:TS):TS:=fun D σ H=>wi σ H fun J H1=>∃W:Nat->Nat->St->Hp->Prop,(∃m,W 0 m σ H1)/\∀i m σ H,W i m σ H->
 (J.stop i H/\D.nx σ H)\/(J.go i H/\∃N:St->Hp->Prop,(∀σ' H',N σ' H'->∃m',m'<m/\W (i+1) m' σ' H')/\∀x H',J.yld i H x H'->g x σ H' fun σ2 H2=>tb { D with nx:=N,ct:=N,bk:=D.nx } σ2 H2)
def wg(fp:List Addr)(h:Heap):List (Addr×Obj):=fp.filterMap fun b=>(h.get? b).map fun o=>(b,o)
def fN{fp:List Addr}{h:Heap}{b:Addr}{o:Obj}(hb:b∈fp)(e:h.get? b=some o):(b,o)∈wg fp h:=List.mem_filterMap.mpr ⟨b,hb,by rw[e];rfl⟩
def zX{fp:List Addr}{h:Heap}{p:Addr×Obj}(hp:p∈wg fp h):p.1∈fp/\h.get? p.1=some p.2:=by
 obtain⟨b,hb,e⟩:=List.mem_filterMap.mp hp;cases q:h.get? b with
 |none=>rw[q]at e;cases e
 |some o=>
  rw[q]at e;have e':(b,o)=p:=Option.some.inj e;subst e';exact⟨hb,q⟩
def Inv.pinned{pins:List (Addr×Obj)}{σ:St}{H:Hp}{s:Q3}{fp:List Addr}(I:Inv X pins σ H s)(hf:∀b∈fp,yq X pins H b)(ho:∀b∈fp,∃o,s.heap.get? b=some o/\∀v,o.data≠.cell v):Inv X (pins++wg fp s.heap) σ H s:=
 I.pins_of fun p hp=>(Z6.mp hp).elim (fun z=>I.pin p (QC _ z)) fun z=>by
  obtain⟨hb,e⟩:=zX z;obtain⟨f0,f1,f2,_⟩:=hf p.1 hb;obtain⟨o,e',d⟩:=ho p.1 hb;rw[e]at e';cases e';exact⟨e,f0,f1,f2,d⟩
def Inv.unpinned{pins pl:List (Addr×Obj)}{σ:St}{H:Hp}{s:Q3}(I:Inv X (pins++pl) σ H s):Inv X pins σ H s:=I.pins_of fun p hp=>I.pin p (QC _ (List.mem_append_left _ hp))
def Kn{iter:QB}{body:List Z0}{wi:TI}{g:TG}{tb:TS}{pos:Pos}(hp:PassesOwn (Qy X.prog X.w) X.A X.env X.xe)(hc:X.calm=true)(hi:PI X tg iter wi)(hg:PG X tg g)(hb:PSs X body tb)
  (hs:∀x,foldedSetIterable iter X.env x=pure x:=by intro _;rfl):PS X (.For tg iter body [] pos) (Mi wi g tb):=by
 intro pins s σ H D I h;refine wpAny_For (thn (hi pins s σ H _ I h) fun v s1 h1=>thn h1 fun itv s2 h2=>?_) hs;obtain⟨it,fp,tn,J,H2,e,I2,T,st2,f2,W,⟨m0,w0⟩,turn⟩:=h2;subst e;have stat:∀{H':Hp},(∀b∈fp,H' b=none)->∀b∈fp,yq X pins H' b:=fun hn b hb=>⟨hn b hb,(f2 b hb).2⟩;refine codeAny_forLoop_any (fun n s'=>∃i σ' H',Inv X pins σ' H' s'/\tn i s'.heap/\(∀b∈fp,H' b=none)/\W i n σ' H') ?_ m0 ⟨0,σ,H2,I2,st2,fun b hb=>(f2 b hb).1,w0⟩;rintro n s3 ⟨i,σ3,H3,I3,st3,fr3,w3⟩;rcases turn i n σ3 H3 w3 with⟨stop,qn⟩|⟨go,N,hN,step⟩;refine wpAny_passesOwn hp (thn (T.done X rfl rfl rfl hc i pins s3 σ3 H3 X.xe I3 (stat fr3) st3 stop) fun r s4 ⟨hr,I4⟩=>?_);subst hr;exact wpAny_execs_nil ⟨σ3,H3,I4,qn⟩
 ·refine wpAny_passesOwn hp (thn (T.item X rfl rfl rfl hc i pins s3 σ3 H3 X.xe I3 (stat fr3) st3 go) fun r s4 ⟨u,hr,h4⟩=>?_);subst hr;refine wpAny_passesOwn hp (thn h4 fun _ s5 hz=>?_);obtain⟨x,H5,I5,r5,y5,st5,fr5⟩:=hz;have I5':=I5.pinned (stat fr5) (T.obj _ _ st5);refine wpAny_passesOwn hp (thn (hg _ s5 σ3 H5 x u _ I5' r5 (step x H5 y5)) fun _ s6 hz=>?_);obtain⟨σ6,H6,I6,q6⟩:=hz;refine wpAny_passesOwn hp (thn (hb _ s6 σ6 H6 _ I6 q6) fun f s7 q7=>?_);have again:∀{σ7:St} {H7:Hp},Inv X (pins++wg fp s5.heap) σ7 H7 s7->N σ7 H7->∃m,m<n/\∃i σ' H',Inv X pins σ' H' s7/\tn i s7.heap/\(∀b∈fp,H' b=none)/\W i m σ' H':=fun{σ7 H7} I7 n7=>by
   obtain⟨m',hm,w7⟩:=hN σ7 H7 n7;refine⟨m',hm,i+1,σ7,H7,I7.unpinned,T.keep _ _ _ st5 fun b hb o e=>(I7.pin (b,o) (QC _ (QC _ (fN hb e)))).1,fun b hb=>?_,w7⟩;obtain⟨o,e,d⟩:=T.obj _ _ st5 b hb;exact(I7.pin (b,o) (QC _ (QC _ (fN hb e)))).2.1
  cases f with
  |next=>obtain⟨σ7,H7,I7,n7⟩:=q7;exact again I7 n7
  |cont=>obtain⟨σ7,H7,I7,n7⟩:=q7;exact again I7 n7
  |brk=>obtain⟨σ7,H7,I7,q7⟩:=q7;exact⟨σ7,H7,I7.unpinned,q7⟩
  |ret v=>obtain⟨x7,σ7,H7,I7,r7,q7⟩:=q7;exact⟨x7,σ7,H7,I7.unpinned,r7,q7⟩
end
abbrev R2:=V->V->Hp->VK->Prop
def OpR(X:Cx)(f:Q2->Q2->Sem Q2)(r:R2):Prop:=
 ∀(pins:List (Addr×Obj)) (s:Q3) (σ:St) (H:Hp) (x y:V) (v u:Q2) (Q:VK),Inv X pins σ H s->cI x v->cI y u->r x y H Q->
  wpAny (Qy X.prog X.w) X.A (f v u) (EP X pins σ Q) X.xe s
def gU(X:Cx)(f:Q2)(r:List V->Hp->VK->Prop):Prop:=
 ∀(pins:List (Addr×Obj)) (s:Q3) (σ:St) (H:Hp) (xs:List V) (us:List Q2) (Q:VK),Inv X pins σ H s->bX xs us->r xs H Q->
  wpAny (Qy X.prog X.w) X.A (call f us) (EP X pins σ Q) X.xe s
def tOp(r:R2)(ta tb:TE):TE:=fun σ H Q=>ta σ H fun x H1=>tb σ H1 fun y H2=>r x y H2 Q
def rI(C:Int->Int->Prop)(g:Int->Int->V):R2:=fun x y H Q=>∃i j,x=.int i/\y=.int j/\C i j/\Q (g i j) H
def rI0(g:Int->Int->V):R2:=fun x y H Q=>∃i j,x=.int i/\y=.int j/\Q (g i j) H
section
variable{a:QB}
def OY(ha:PE X a ta)(hb:PE X b tb){pins:List (Addr×Obj)}{s:Q3}{σ:St}{H:Hp}{R:V->V->Hp->Prop}(I:Inv X pins σ H s)
  (h:ta σ H fun x H1=>tb σ H1 fun y H2=>R x y H2) {Q:Q2->Q3->Prop} {f:Q2->Q2->Sem Q2}
  (hf:∀v u s2 x y H2,Inv X pins σ H2 s2->cI x v->cI y u->R x y H2->wpAny (Qy X.prog X.w) X.A (f v u) Q X.xe s2) :
  wpAny (Qy X.prog X.w) X.A (eval a X.env) (fun v s₁=>wpAny (Qy X.prog X.w) X.A (eval b X.env) (fun u s₂=>wpAny (Qy X.prog X.w) X.A (f v u) Q X.xe s₂) X.xe s₁) X.xe s:=by
 refine thn (ha pins s σ H _ I h) fun v s1 hz=>?_;obtain⟨x,H1,I1,r1,q1⟩:=hz;refine thn (hb pins s1 σ H1 _ I1 q1) fun u s2 hz=>?_;obtain⟨y,H2,I2,r2,q2⟩:=hz;exact hf v u s2 x y H2 I2 r1 r2 q2
def NZ{op:Operator}{r:R2}(ho:OpR X (binaryOp op) r)(ha:PE X a ta)(hb:PE X b tb):PE X (.BinOp a op b pos) (tOp r ta tb):=by
 intro pins s σ H Q I h;exact wpAny_BinOp (OY ha hb I h fun v u s2 x y H2 I2 rx ry q=>ho pins s2 σ H2 x y v u Q I2 rx ry q)
def opI{f:Q2->Q2->Sem Q2}{C:Int->Int->Prop}{g:Int->Int->Int}
  (rule:∀(i j:Int) (t u:Tok) (s:Q3) (Q:Q2->Q3->Prop) (E:Q2->Q3->Prop),C i j->Q (.int (g i j) s.toks) { s with toks:=s.toks+1 }->wpAny (Qy X.prog X.w) X.A (f (.int i t) (.int j u)) Q E s) :
  OpR X f (rI C fun i j=>.int (g i j)):=by
 intro pins s σ H x y v u Q I rx ry h;obtain⟨i,j,rfl,rfl,hc,q⟩:=h;obtain⟨t,rfl⟩:=rx;obtain⟨t',rfl⟩:=ry;exact rule i j t t' s _ _ hc ⟨.int (g i j),H,I.tok _,⟨_,rfl⟩,q⟩
def Pj{f:Q2->Q2->Sem Q2}{g:Int->Int->Int}
  (rule:∀(i j:Int) (t u:Tok) (s:Q3) (Q:Q2->Q3->Prop) (E:Q2->Q3->Prop),Q (.int (g i j) s.toks) { s with toks:=s.toks+1 }->wpAny (Qy X.prog X.w) X.A (f (.int i t) (.int j u)) Q E s) :
  OpR X f (rI0 fun i j=>.int (g i j)):=by
 intro pins s σ H x y v u Q I rx ry h;obtain⟨i,j,rfl,rfl,q⟩:=h;obtain⟨t,rfl⟩:=rx;obtain⟨t',rfl⟩:=ry;exact rule i j t t' s _ _ ⟨.int (g i j),H,I.tok _,⟨_,rfl⟩,q⟩
def Mp{f:Q2->Q2->Sem Q2}{g:Int->Int->Bool}
  (rule:∀(i j:Int) (t u:Tok) (s:Q3) (Q:Q2->Q3->Prop) (E:Q2->Q3->Prop),Q (.bool (g i j)) s->wpAny (Qy X.prog X.w) X.A (f (.int i t) (.int j u)) Q E s) :
  OpR X f (rI0 fun i j=>.bl (g i j)):=by
 intro pins s σ H x y v u Q I rx ry h;obtain⟨i,j,rfl,rfl,q⟩:=h;obtain⟨t,rfl⟩:=rx;obtain⟨t',rfl⟩:=ry;exact rule i j t t' s _ _ ⟨.bl (g i j),H,I,rfl,q⟩
def PR(i j:Int):Prop:=0<=j/\j<=1000000/\i.natAbs<2^64
def BO(i j:Int):Prop:=(-(2^64)<i/\i<2^64)\/(-(2^64)<j/\j<2^64)
def BO.ok{i j:Int}(h:BO i j):IntMulOk i j:=by
 rcases h with⟨h1,h2⟩|⟨h1,h2⟩;exact .of_left (intBits_le_64 h1 h2);exact .of_right (intBits_le_64 h1 h2)
def K2:OpR X (binaryOp .Add) (rI0 fun i j=>.int (i+j)):=Pj fun _ _ _ _ _ _ _ q=>add_int q
def sR:OpR X (binaryOp .Sub) (rI0 fun i j=>.int (i-j)):=Pj fun _ _ _ _ _ _ _ q=>sub_int q
def j7:OpR X (binaryOp .Mult) (rI BO fun i j=>.int (i*j)):=opI fun _ _ _ _ _ _ _ hc q=>mul_int q hc.ok
def nO:OpR X (binaryOp .Mod) (rI (fun _ j=>0<j) fun i j=>.int (i % j)):=opI fun i j _ _ _ _ _ hc q=>by
 have h1:(0:Int)<j:=hc;exact mod_int' (by omega) (by rw[Int.fmod_eq_emod_of_nonneg i (by omega)];exact q)
end
def NJ:V->V->Bool
 |.non,.non=>true|.non,.int _=>true|.int _,.non=>true|.non,.bl _=>true|.bl _,.non=>true|.non,.str _=>true|.str _,.non=>true
 |.int _,.int _=>true|.bl _,.bl _=>true|.str _,.str _=>true|.byt _,.byt _=>true
 |.int _,.str _=>true|.str _,.int _=>true|.bl _,.str _=>true|.str _,.bl _=>true
 |_,_=>false
def rEq:R2:=fun x y H Q=>NJ x y=true/\Q (.bl (decide (x=y))) H
def rNe:R2:=fun x y H Q=>NJ x y=true/\Q (.bl (!decide (x=y))) H
def Ba{i j:Int}:decide (V.int i=V.int j)=(i == j):=by
 rw[Zc];simp
def Fh{i j:Bool}:decide (V.bl i=V.bl j)=(i == j):=by
 rw[Zc];simp
def A9{i j:Str}:decide (V.str i=V.str j)=(i == j):=by
 rw[Zc];simp
def Bb{i j:Array UInt8}:decide (V.byt i=V.byt j)=(i.toList == j.toList):=by
 rw[Zc];cases i;cases j;simp
section
variable{a c:QB}
def bK{pins:List (Addr×Obj)}{σ:St}{H:Hp}{s:Q3}{Q:VK}{k k':Bool}(I:Inv X pins σ H s)(q:Q (.bl k) H)(e:k=k'):EP X pins σ Q (.bool k') s:=by
 subst e;exact⟨.bl k,H,I,rfl,q⟩
def eE:OpR X (compareOp .Eq) rEq:=by
 intro pins s σ H x y v u Q I rx ry h;obtain⟨hs,q⟩:=h;cases x with
 |non=>
  cases rx;cases y with
  |non=>cases ry;exact PySem.EqNone.eq_none_none (bK I q (by simp))
  |bl j=>cases ry;exact PySem.EqNone.eq_none_bool (bK I q (by simp))
  |int j=>obtain⟨t',rfl⟩:=ry;exact PySem.EqNone.eq_none_int (bK I q (by simp))
  |str j=>obtain⟨t',rfl⟩:=ry;exact PySem.EqNone.eq_none_str (bK I q (by simp))
  |_=>exact absurd (show false=true from hs) QZ
 |bl i=>
  cases rx;cases y with
  |non=>cases ry;exact PySem.EqNone.eq_bool_none (bK I q (by simp))
  |bl j=>cases ry;exact eq_bool (bK I q Fh)
  |str j=>obtain⟨t',rfl⟩:=ry;exact PySem.EqMixed.eq_bool_str (bK I q (by simp))
  |_=>exact absurd (show false=true from hs) QZ
 |int i=>
  obtain⟨t,rfl⟩:=rx;cases y with
  |non=>cases ry;exact PySem.EqNone.eq_int_none (bK I q (by simp))
  |int j=>obtain⟨t',rfl⟩:=ry;exact eq_int (bK I q Ba)
  |str j=>obtain⟨t',rfl⟩:=ry;exact PySem.EqMixed.eq_int_str (bK I q (by simp))
  |_=>exact absurd (show false=true from hs) QZ
 |str i=>
  obtain⟨t,rfl⟩:=rx;cases y with
  |non=>cases ry;exact PySem.EqNone.eq_str_none (bK I q (by simp))
  |bl j=>cases ry;exact PySem.EqMixed.eq_str_bool (bK I q (by simp))
  |int j=>obtain⟨t',rfl⟩:=ry;exact PySem.EqMixed.eq_str_int (bK I q (by simp))
  |str j=>obtain⟨t',rfl⟩:=ry;exact eq_str (bK I q A9)
  |_=>exact absurd (show false=true from hs) QZ
 |byt i=>
  obtain⟨t,rfl⟩:=rx;cases y with
  |byt j=>obtain⟨t',rfl⟩:=ry;exact PySem.W.eq_bytes (bK I q Bb)
  |_=>exact absurd (show false=true from hs) QZ
 |_=>cases y<;>exact absurd (show false=true from hs) QZ
def Hm:OpR X (compareOp .NotEq) rNe:=by
 intro pins s σ H x y v u Q I rx ry h;obtain⟨hs,q⟩:=h;cases x with
 |non=>
  cases rx;cases y with
  |non=>cases ry;exact PySem.EqNone.ne_none_none (bK I q (by simp))
  |bl j=>cases ry;exact PySem.EqNone.ne_none_bool (bK I q (by simp))
  |int j=>obtain⟨t',rfl⟩:=ry;exact PySem.EqNone.ne_none_int (bK I q (by simp))
  |str j=>obtain⟨t',rfl⟩:=ry;exact PySem.EqNone.ne_none_str (bK I q (by simp))
  |_=>exact absurd (show false=true from hs) QZ
 |bl i=>
  cases rx;cases y with
  |non=>cases ry;exact PySem.EqNone.ne_bool_none (bK I q (by simp))
  |bl j=>cases ry;exact ne_bool (bK I q (congrArg not Fh))
  |str j=>obtain⟨t',rfl⟩:=ry;exact PySem.EqMixed.ne_bool_str (bK I q (by simp))
  |_=>exact absurd (show false=true from hs) QZ
 |int i=>
  obtain⟨t,rfl⟩:=rx;cases y with
  |non=>cases ry;exact PySem.EqNone.ne_int_none (bK I q (by simp))
  |int j=>obtain⟨t',rfl⟩:=ry;exact ne_int (bK I q (congrArg not Ba))
  |str j=>obtain⟨t',rfl⟩:=ry;exact PySem.EqMixed.ne_int_str (bK I q (by simp))
  |_=>exact absurd (show false=true from hs) QZ
 |str i=>
  obtain⟨t,rfl⟩:=rx;cases y with
  |non=>cases ry;exact PySem.EqNone.ne_str_none (bK I q (by simp))
  |bl j=>cases ry;exact PySem.EqMixed.ne_str_bool (bK I q (by simp))
  |int j=>obtain⟨t',rfl⟩:=ry;exact PySem.EqMixed.ne_str_int (bK I q (by simp))
  |str j=>obtain⟨t',rfl⟩:=ry;exact ne_str (bK I q (congrArg not A9))
  |_=>exact absurd (show false=true from hs) QZ
 |byt i=>
  obtain⟨t,rfl⟩:=rx;cases y with
  |byt j=>obtain⟨t',rfl⟩:=ry;exact PySem.W.ne_bytes (bK I q (congrArg not Bb))
  |_=>exact absurd (show false=true from hs) QZ
 |_=>cases y<;>exact absurd (show false=true from hs) QZ
def zV:OpR X (compareOp .Lt) (rI0 fun i j=>.bl (decide (i<j))):=Mp fun _ _ _ _ _ _ _ q=>lt_int q
def KY:OpR X (compareOp .LtE) (rI0 fun i j=>.bl (decide (i<=j))):=Mp fun _ _ _ _ _ _ _ q=>le_int q
def xQ:OpR X (compareOp .Gt) (rI0 fun i j=>.bl (decide (j<i))):=Mp fun _ _ _ _ _ _ _ q=>gt_int q
def KZ:OpR X (compareOp .GtE) (rI0 fun i j=>.bl (decide (j<=i))):=Mp fun _ _ _ _ _ _ _ q=>ge_int q
def sT:OpR X (compareOp .Is) (fun x y H Q=>y=.non/\Q (.bl (decide (x=.non))) H):=by
 intro pins s σ H x y v u Q I rx ry h;obtain⟨rfl,q⟩:=h;cases ry;refine is_none_gen (bK I q ?_);cases x<;>first
  |(cases rx;rfl)
  |(obtain⟨t,rfl⟩:=rx;rfl)
def uU:OpR X (compareOp .IsNot) (fun x y H Q=>y=.non/\Q (.bl (!decide (x=.non))) H):=by
 intro pins s σ H x y v u Q I rx ry h;obtain⟨rfl,q⟩:=h;cases ry;refine isnot_none_gen (bK I q ?_);cases x<;>first
  |(cases rx;rfl)
  |(obtain⟨t,rfl⟩:=rx;rfl)
def OpR.or{f:Q2->Q2->Sem Q2}{r r':R2}(h:OpR X f r)(h':OpR X f r'):OpR X f (fun x y H Q=>r x y H Q\/r' x y H Q):=by
 intro pins s σ H x y v u Q I rx ry q;rcases q with q|q;exact h pins s σ H x y v u Q I rx ry q;exact h' pins s σ H x y v u Q I rx ry q
def aU(b:QB){op:CmpOp}(h:op≠.In:=by decide)(h2:op≠.NotIn:=by decide):behindInMarks op b=false:=by
 have e1:(op == CmpOp.In)=false:=by cases op<;>first|rfl|exact absurd rfl h
 have e2:(op == CmpOp.NotIn)=false:=by cases op<;>first|rfl|exact absurd rfl h2
 cases b<;>simp[behindInMarks,e1,e2]
def He{op:CmpOp}{r:R2}(ho:OpR X (compareOp op) r)(ha:PE X a ta)(hb:PE X b tb)(hm:behindInMarks op b=false):PE X (.Compare a [op] [b] pos) (tOp r ta tb):=by
 intro pins s σ H Q I h;exact wpAny_Compare1 (OY ha hb I h fun v u s2 x y H2 I2 rx ry q=>ho pins s2 σ H2 x y v u Q I2 rx ry q) hm
def JN(t:TE):TT:=fun σ H Q=>t σ H fun x H'=>∃k,x=.bl k/\Q k H'
def GU{op:CmpOp}{r:R2}(ho:OpR X (compareOp op) r)(ha:PE X a ta)(hb:PE X b tb)(hm:behindInMarks op b=false):PT X (.Compare a [op] [b] pos) (JN (tOp r ta tb)):=by
 intro pins s σ H Q I h;refine wpAny_isTrue_Compare1 (thn (ha pins s σ H _ I h) fun v s1 ⟨x,H1,I1,r1,q1⟩=>thn (hb pins s1 σ H1 _ I1 q1) fun u s2 ⟨y,H2,I2,r2,q2⟩=>
  thn (ho pins s2 σ H2 x y v u _ I2 r1 r2 q2) fun c s3 ⟨z,H3,I3,r3,k,e,q3⟩=>?_) hm
 subst e;cases r3;exact wpAny_truthy_bool ⟨H3,I3,q3⟩
def wA:(QD:Nat)<2^63:=by rw[sizeLine_eq];decide
def xR:OpR X (binaryOp .Add) (fun x y H Q=>∃i j,x=.str i/\y=.str j/\i.length+j.length<=QD/\Q (.str (i++j)) H):=by
 intro pins s σ H x y v u Q I rx ry h;obtain⟨i,j,rfl,rfl,hz,q⟩:=h;obtain⟨t,rfl⟩:=rx;obtain⟨t',rfl⟩:=ry;exact add_str (fun t' tk=>⟨.str (i++j),H,I.tok _,⟨_,rfl⟩,q⟩) hz
def mL{x:V}{us:List Q2}(r:bX [x] us):∃u,us=[u]/\cI x u:=by
 cases r with
 |cons r1 r2=>cases r2;exact⟨_,rfl,r1⟩
def JH{x y:V}{us:List Q2}(r:bX [x,y] us):∃u w',us=[u,w']/\cI x u/\cI y w':=by
 cases r with
 |cons r1 r2=>
  cases r2 with
  |cons r3 r4=>cases r4;exact⟨_,_,rfl,r1,r3⟩
def Bj(hc:X.calm=true):gU X (.builtin "max") (fun xs H Q=>∃i j,xs=[.int i,.int j]/\Q (.int (if j>i then j else i)) H):=by
 intro pins s σ H xs us Q I r h;obtain⟨i,j,rfl,q⟩:=h;obtain⟨u,w',rfl,⟨t,rfl⟩,⟨t',rfl⟩⟩:=JH r;refine max_two_ints (I.ok.hd hc) fun h' tk k=>⟨_,H,I.kept k,?_,q⟩;by_cases hj:j>i;rw[X9 hj,X9 hj];exact⟨_,rfl⟩;rw[XQ hj,XQ hj];exact⟨_,rfl⟩
def Bi(hc:X.calm=true):gU X (.builtin "min") (fun xs H Q=>∃i j,xs=[.int i,.int j]/\Q (.int (if j<i then j else i)) H):=by
 intro pins s σ H xs us Q I r h;obtain⟨i,j,rfl,q⟩:=h;obtain⟨u,w',rfl,⟨t,rfl⟩,⟨t',rfl⟩⟩:=JH r;refine min_two_ints (I.ok.hd hc) fun h' tk k=>⟨_,H,I.kept k,?_,q⟩;by_cases hj:j<i;rw[X9 hj,X9 hj];exact⟨_,rfl⟩;rw[XQ hj,XQ hj];exact⟨_,rfl⟩
def Bl:gU X (.type "int") (fun xs H Q=>(∃i,xs=[.int i]/\Q (.int i) H)\/∃k,xs=[.bl k]/\Q (.int (if k then 1 else 0)) H):=by
 intro pins s σ H xs us Q I r h;rcases h with⟨i,rfl,q⟩|⟨k,rfl,q⟩;obtain⟨u,rfl,t,rfl⟩:=mL r;exact call_int_int ⟨.int i,H,I,⟨_,rfl⟩,q⟩;obtain⟨u,rfl,r1⟩:=mL r;cases r1;exact call_int_bool ⟨.int (if k then 1 else 0),H,I.tok _,⟨_,rfl⟩,q⟩
end
structure Iw(h:Heap)(x dx C:Addr)(mA:Str->Option Q2):Prop where
 obj:h.get? x=some (PySem.W.instObj C dx)
 ns:h.Ns1 dx mA
 ne:dx≠x
def Ad{h:Heap}{dx:Addr}{mA:Str->Option Q2}(n:h.Ns1 dx mA):∃od,h.get? dx=some od/\∀name,PySem.W.lookIn name od=some (mA name):=by
 obtain⟨o,es,ep,ho,hd,hk,_,hm⟩:=n;refine⟨o,ho,fun name=>?_⟩;have e:=hm name;unfold nsFind findBy at e;rw[<-Array.find?_toList]at e;unfold PySem.W.lookIn;rw[hd];dsimp only;split;rename_i y q;rw[q]at e;exact congrArg some e;rename_i q;rw[q]at e;have a:es.toList.any (·.refKey)=false:=by
  rw[List.any_eq_false];intro y hy;obtain⟨z,t,hkey⟩:=hk y (Array.mem_toList_iff.mp hy);simp[DictEntry.refKey,hkey]
 have a':¬es.toList.any (·.refKey)=true:=by rw[a];exact QZ
 rw[XQ a'];exact congrArg some e
def Iw.look{h:Heap}{x dx C:Addr}{mA:Str->Option Q2}(I:Iw h x dx C mA):∃od,PySem.W.InstAt h x (PySem.W.instObj C dx) C (some od)/\∀name,PySem.W.lookIn name od=some (mA name):=
 let ⟨od,ho,hl⟩:=Ad I.ns
 ⟨od,⟨I.obj,rfl,rfl,ho⟩,hl⟩
variable{A:Z9}{dx C f:Addr}
section
variable{prog:Qx}{w:Z7}{K:Q1}{mA:Str->Option Q2}{name:Str}{v:Q2}
def HW{expr:Bool}{Q:Q2->Q3->Prop}(X:K.In s.heap)(I:Iw s.heap x dx C mA)(hg:PySem.W.plainGet K C name=true)(hh:PySem.W.hasDictIn K C=true)
  (ha:PySem.W.findIn K (.ref C) name=some none) (hv:mA name=some v) (hv':PySem.W.handedIn v=true) (h:Q v { s with toks:=s.toks+1 }) :
  wpAny (Qy prog w) A (getAttr (.ref x) name expr) Q E s:=by
 obtain⟨od,J,hl⟩:=I.look;exact PySem.W.get_value X J (PySem.W.plainGet_of hg).1 (PySem.W.findObj_own hh ha rfl (by rw[hl,hv])) hv' h
def DS{pl:Sem Bool}{Q:Q2×List Q2->Q3->Prop}(X:K.In s.heap)(I:Iw s.heap x dx C mA)(hg:PySem.W.plainGet K C name=true)
  (hf:PySem.W.findIn K (.ref C) name=some (some (.ref f))) (ht:PySem.W.isFn K (.ref f)=true) (hv:mA name=none) (h:Q (.ref f,[.ref x]) s) :
  wpAny (Qy prog w) A (getMethod (.ref x) name pl) Q E s:=by
 obtain⟨od,J,hl⟩:=I.look;exact PySem.W.method_fn X J (PySem.W.plainGet_of hg).1 (PySem.W.plainGet_of hg).2 hf (beq_iff_eq.mp ht) (by show(PySem.W.lookIn name od).map (·.isSome)=some false;rw[hl,hv];rfl) h
def GG{ns:List Str}{Q:Unit->Q3->Prop}(X:K.In s.heap)(I:Iw s.heap x dx C mA)
  (hs:PySem.W.findIn K (.ref C) "__setattr__"=some (some (.builtin "object.__setattr__"))) (hp:PySem.W.plainOver K C=true) (ht:PySem.W.takerIn K C name=some none) (hh:PySem.W.hasDictIn K C=true)
  (hw:PySem.Within mA ns) (hsz:ns.length<=QD)
  (h:∀h',Iw h' x dx C (fun y=>if y=name then some v else mA y)->Heap.SameBut dx s.heap h'->Q () { s with heap:=h',toks:=s.toks+2 }) :
  wpAny (Qy prog w) A (setAttr (.ref x) name v) Q E s:=by
 obtain⟨od,J,hl⟩:=I.look;refine PySem.W.set_plain X J hs (PySem.W.osa_open (s:={ s with toks:=s.toks+1 }) (r:=none) X J hp ht fun b=>?_);obtain⟨cd,hc,hd'⟩:=PySem.W.any_some hh;have hx:s.heap.get? x=some ⟨.ref C,some dx,.plain,#[]⟩:=I.obj;refine Q5 (Qq (Q5 (Q5 (wpAny_loadPart hx (Q5 (PySem.W.Looks.here (s:={ s with toks:=s.toks+1 }) (PySem.W.looks_clsIn X hc) ?_))))));rw[hd'];refine Qq (a:=some dx) (Q5 (Qq (Q5 ?_)));refine wpAny_nsSet1 (s:={ s with toks:=s.toks+1 }) I.ns fun h' hn2 hs2=>?_;obtain⟨oD,esD,epD,hoD,hdD,hcD⟩:=hn2.count (PySem.Within.cons name v hw);refine Q5 (wpAny_lookBehind hoD (by rw[hdD];exact pastItsLine_dict (ZQ hcD (by rw[QK];omega))) ?_);exact Qq (h _ ⟨(hs2.2 _ (Ne.symm I.ne)).trans I.obj,hn2,I.ne⟩ hs2)
def Dp{R:Result->Q3->Prop}{vs:List Q2}{kw:List (Str×Q2)}(X:K.In s.heap)(hm:PySem.W.makesIn K C=true)
  (hi:PySem.W.findIn K (.ref C) "__init__"=some (some (.ref f))) (hf:PySem.W.typeIn K (.ref f)=some (.type "function"))
  (h:codeAny (Qy prog w) (A.under (.builtin "type.__call__" ⟨.ref C::vs,kw⟩)) (.call (.ref f) ⟨.ref (s.heap.objs.size+1)::vs,kw⟩) (PySem.W.InitBack (s.heap.objs.size+1) R)
   { s with heap:=(s.heap.push PySem.W.emptyDict).push (PySem.W.instObj C s.heap.objs.size) }) :
  codeAny (Qy prog w) A (.call (.ref C) ⟨vs,kw⟩) R s:=by
 obtain⟨hh,g,d,t,os⟩:=s;exact PySem.W.make_core (PySem.W.makes_of X hm) (PySem.W.looks_findIn X hi) (fun self=>PySem.W.bind_fn X self hf) (.inl rfl) h
end
def oB(f:Str)(v:V):List (Str×V)->List (Str×V)
 |[]=>[(f,v)]
 |(g,x)::r=>if g=f then(g,v)::r else(g,x)::oB f v r
def jD(f g:Str)(v:V):∀fs:List (Str×V),(oB f v fs).lookup g=if g=f then some v else fs.lookup g
 |[]=>by
  show List.lookup g [(f,v)]=_;by_cases h:g=f;have hb:(g == f)=true:=beq_iff_eq.mpr h;simp only[List.lookup,hb,X9 h];have hb:(g == f)=false:=beq_eq_false_iff_ne.mpr h;simp only[List.lookup,hb,XQ h]
 |(k,x)::r=>by
  have ih:=jD f g v r;rw[show oB f v ((k,x)::r)=(if k=f then(k,v)::r else(k,x)::oB f v r)from rfl];by_cases hk:k=f
  ·rw[X9 hk];by_cases h:g=k;have hb:(g == k)=true:=beq_iff_eq.mpr h;simp only[List.lookup,hb,X9 (h.trans hk)];have hb:(g == k)=false:=beq_eq_false_iff_ne.mpr h;simp only[List.lookup,hb,XQ (fun e:g=f=>h (e.trans hk.symm))]
  ·rw[XQ hk];by_cases h:g=k;have hb:(g == k)=true:=beq_iff_eq.mpr h;simp only[List.lookup,hb,XQ (fun e:g=f=>hk (h.symm.trans e))];have hb:(g == k)=false:=beq_eq_false_iff_ne.mpr h;simp only[List.lookup,hb];exact ih
def fT(f:Str)(v:V):∀fs:List (Str×V),f∈(oB f v fs).map (·.1)/\∀g,g∈fs.map (·.1)->g∈(oB f v fs).map (·.1)
 |[]=>⟨by simp[oB],fun g h=>by simp at h⟩
 |(k,x)::r=>by
  obtain⟨i1,i2⟩:=fT f v r;rw[show oB f v ((k,x)::r)=(if k=f then(k,v)::r else(k,x)::oB f v r)from rfl];by_cases hk:k=f
  ·rw[X9 hk];subst hk;exact⟨by simp,fun g h=>by simpa using h⟩
  ·rw[XQ hk];refine⟨?_,fun g h=>?_⟩;rw[QU];exact QY _ i1;rw[QU]at h ⊢;rcases Qz.mp h with e|e;exact Qz.mpr (.inl e);exact QY _ (i2 g e)
def nT(f:Str)(v:V):∀fs:List (Str×V),(oB f v fs).length<=fs.length+1
 |[]=>by simp[oB]
 |(k,x)::r=>by
  have ih:=nT f v r;rw[show oB f v ((k,x)::r)=(if k=f then(k,v)::r else(k,x)::oB f v r)from rfl];by_cases hk:k=f
  ·rw[X9 hk,QK,QK];omega
  ·rw[XQ hk,QK,QK];omega
def rq.some_of{v:V}{o:Option Q2}(r:rq (some v) o):∃u,o=some u/\cI v u:=by
 cases o with
 |none=>exact(show False from r).elim
 |some u=>exact⟨u,rfl,r⟩
def rq.none_of{o:Option Q2}(r:rq none o):o=none:=by
 cases o with
 |none=>rfl
 |some u=>exact(show False from r).elim
def AG{v:V}{u:Q2}(r:cI v u):PySem.W.handedIn u=true:=by
 cases v with
 |non=>cases (show u=Value.none from r);rfl
 |bl b=>cases (show u=Value.bool b from r);rfl
 |int i=>obtain⟨t,e⟩:=(show ∃t,u=Value.int i t from r);cases e;rfl
 |str x=>obtain⟨t,e⟩:=(show ∃t,u=Value.str x t from r);cases e;rfl
 |byt b=>obtain⟨t,e⟩:=(show ∃t,u=Value.bytes b t from r);cases e;rfl
 |flt b=>obtain⟨t,e⟩:=(show ∃t,u=Value.float b t from r);cases e;rfl
 |ref a=>cases (show u=Value.ref a from r);rfl
 |ty n=>cases (show u=Value.type n from r);rfl
section
variable{w:Z7}{fs:List (Str×V)}
def vb(hok:HOk P w H h)(e:H a=some (.ins C dx fs)):∃mA,Iw h a dx C mA/\(∀f,rq (fs.lookup f) (mA f))/\PySem.Within mA (fs.map (·.1))/\fs.length<=1000/\H dx=some (.own a):=by
 obtain⟨d,z,ne,ob,mA,n,r,q⟩:=(show eF P w H h a (.ins C dx fs)from hok a _ e);exact⟨mA,⟨ob,n,ne⟩,r,q,z,d⟩
end
structure Cls(K:Q1)(C:Addr):Prop where
 pg:PySem.W.plainGet K C Str.empty=true
 hd:PySem.W.hasDictIn K C=true
 po:PySem.W.plainOver K C=true
 sa:PySem.W.findIn K (.ref C) "__setattr__"=some (some (.builtin "object.__setattr__"))
def Cls.get{K:Q1}{C:Addr}(c:Cls K C)(f:Str):PySem.W.plainGet K C f=true:=c.pg
def jx(K:Q1)(C:Addr)(f:Str):Prop:=PySem.W.findIn K (.ref C) f=some none
def jx.taker{K:Q1}{C:Addr}{f:Str}(n:jx K C f):PySem.W.takerIn K C f=some none:=by
 unfold PySem.W.takerIn;rw[show PySem.W.findIn K (.ref C) f=some none from n];rfl
structure Iy(K:Q1)(C:Addr)(m:Str)(f:Addr):Prop where
 at_:PySem.W.findIn K (.ref C) m=some (some (.ref f))
 fn:PySem.W.isFn K (.ref f)=true
 kp:PySem.W.keepIn K (.ref f)=true
section
variable{fs:List (Str×V)}{f:Str}{v:V}
def xZ{b:Bool}{Q:Q2->Q3->Prop}(I:Inv X pins σ H s)(e:H a=some (.ins C dx fs))(c:Cls X.K C)(n:jx X.K C f)(l:fs.lookup f=some v)
  (h:∀u s',Inv X pins σ H s'->cI v u->Q u s'):wpAny (Qy X.prog X.w) A (getAttr (.ref a) f b) Q E s:=by
 obtain⟨mA,O,r,_,_,_⟩:=vb I.hok e;obtain⟨u,hu,ru⟩:=rq.some_of (v:=v) (o:=mA f) (by rw[<-l];exact r f);exact HW I.kIn O (c.get f) c.hd n hu (AG ru) (h u _ (I.tok _) ru)
def pX{m:Str}{g:Addr}{pl:Sem Bool}{Q:Q2×List Q2->Q3->Prop}(I:Inv X pins σ H s)(e:H a=some (.ins C dx fs))(c:Cls X.K C)(k:Iy X.K C m g)(l:fs.lookup m=none)
  (h:Q (.ref g,[.ref a]) s):wpAny (Qy X.prog X.w) A (getMethod (.ref a) m pl) Q E s:=by
 obtain⟨mA,O,r,_,_,_⟩:=vb I.hok e;have hn:mA m=none:=rq.none_of (by rw[<-l];exact r m);exact DS I.kIn O (c.get m) k.at_ k.fn hn h
def xI{y:V}{u:Q2}{Q:Unit->Q3->Prop}(I:Inv X pins σ H s)(e:H a=some (.ins C dx fs))(c:Cls X.K C)(n:jx X.K C f)(hl:fs.length<1000)(ry:cI y u)
  (h:∀s',Inv X pins σ (upd H a (.ins C dx (oB f y fs))) s'->Q () s'):wpAny (Qy X.prog X.w) A (setAttr (.ref a) f u) Q E s:=by
 obtain⟨mA,O,r,wi,_,ho⟩:=vb I.hok e;have hz:(fs.map (·.1)).length<=QD:=by rw[Q9,sizeLine_eq];omega
 refine GG I.kIn O c.sa c.po n.taker c.hd wi hz fun h' O' sb=>h _ ?_;have hd:∃o,h'.get? dx=some o:=let ⟨o,_,_,e',_⟩:=O'.ns;⟨o,e'⟩
 refine I.write (x:=a) (e:=dx) (by rw[e];exact True.intro) (.inr ho) (fun b q hb z=>(sb.2 b hb).trans z) hd ?_;refine⟨by rw[aI O.ne];exact ho,?_,O.ne,O'.obj,_,O'.ns,fun g=>?_,fun g hg=>?_⟩;have:=nT f y fs;omega;show rq ((oB f y fs).lookup g) (if g=f then some u else mA g);rw[jD];by_cases q:g=f;rw[X9 q,X9 q];exact ry;rw[XQ q,XQ q];exact r g;by_cases q:g=f;rw[q];exact(fT f y fs).1;refine(fT f y fs).2 g (wi g fun z=>hg ?_);show(if g=f then some u else mA g)=none;rw[XQ q];exact z
def Inv.made(I:Inv X pins σ H s):Inv X pins σ (upd (upd H s.heap.objs.size (.own (s.heap.objs.size+1))) (s.heap.objs.size+1) (.ins C s.heap.objs.size []))
  { s with heap:=(s.heap.push PySem.W.emptyDict).push (PySem.W.instObj C s.heap.objs.size) }:=by
 have e1:(s.heap.push PySem.W.emptyDict).get? s.heap.objs.size=some PySem.W.emptyDict:=Qv s.heap rfl;have e2:((s.heap.push PySem.W.emptyDict).push (PySem.W.instObj C s.heap.objs.size)).get? (s.heap.objs.size+1)=some (PySem.W.instObj C s.heap.objs.size):=by
  have:=Qv (s.heap.push PySem.W.emptyDict) (o:=PySem.W.instObj C s.heap.objs.size) rfl;rwa[Heap.size_push]at this
 have e3:(s.heap.push PySem.W.emptyDict).Ns s.heap.objs.size (fun _=>none):=⟨PySem.W.emptyDict,#[],_,e1,rfl,(fun e he=>absurd he (by simp)),fun _=>rfl⟩;have I1:=I.laid (a:=s.heap.objs.size) (o:=.own (s.heap.objs.size+1)) (h':=s.heap.push PySem.W.emptyDict) (t':=s.toks) (fun b u q=>Q6 _ q) (Q7 _) ⟨_,e1⟩;refine I1.laid (a:=s.heap.objs.size+1) (o:=.ins C s.heap.objs.size []) (t':=s.toks) (fun b u q=>Q6 _ q) (Nat.le_of_eq (Heap.size_push _ _)) ?_;have ne:s.heap.objs.size≠s.heap.objs.size+1:=Qr (Nat.lt_succ_self _);refine⟨by rw[aI ne,aH],ZC _,ne,e2,fun _=>none,(Heap.Ns1.of_empty e3).at fun o q=>Q6 _ q,fun _=>True.intro,fun y hy=>absurd rfl hy⟩
def Ip{prog:Qx}{w:Z7}{env:Env}{e:QB}{f:Str}{pos:Pos}{s:Q3}{Q:Q2->Q3->Prop}(hb:attributeBase e f env (eval e env)=eval e env)
  (h:wpAny (Qy prog w) A (eval e env) (fun o s₁=>wpAny (Qy prog w) A (getAttr o f true) Q E s₁) E s):wpAny (Qy prog w) A (eval (.Attribute e f pos) env) Q E s:=
 Attribute_any_ h (by rw[arm_eval_Attribute,hb])
end
def Pb(K:Q1)(ta:TE)(f:Str):TE:=fun σ H Q=>ta σ H fun x H1=>∃a C dx fs v,x=.ref a/\H1 a=some (.ins C dx fs)/\Cls K C/\jx K C f/\fs.lookup f=some v/\Q v H1
def Pd(K:Q1)(ta tv:TE)(f:Str):TS:=fun D σ H=>tv σ H fun y H1=>ta σ H1 fun x H2=>∃a C dx fs,x=.ref a/\H2 a=some (.ins C dx fs)/\Cls K C/\jx K C f/\fs.length<1000/\
 D.nx σ (upd H2 a (.ins C dx (oB f y fs)))
section
variable{o e value:QB}{f:Str}{pos':Pos}{tv:TE}
def KH(he:PE X e ta)(hb:attributeBase e f X.env (eval e X.env)=eval e X.env):PE X (.Attribute e f pos) (Pb X.K ta f):=by
 intro pins s σ H Q I h;refine Ip hb (thn (he pins s σ H _ I h) fun u s1 hz=>?_);obtain⟨x,H1,I1,rx,a,C,dx,fs,v,ex,ea,c,n,l,q⟩:=hz;subst ex;obtain rfl:u=Value.ref a:=rx;exact xZ I1 ea c n l fun u' s2 I2 ru=>⟨v,H1,I2,ru,q⟩
def Ko(ha:PE X o ta)(hv:PE X value tv)(hs:Za value (some (.Attribute o f pos')) pos.line X.env=pure false):PS X (.Assign [.Attribute o f pos'] value pos) (Pd X.K ta tv f):=by
 intro pins s σ H D I h;refine plainObj_wpAny_Assign_Attribute (thn (hv pins s σ H _ I h) fun u s1 ⟨y,H1,I1,ry,q⟩=>thn (ha pins s1 σ H1 _ I1 q) fun ov s2 hz=>?_) hs;obtain⟨x,H2,I2,rx,a,C,dx,fs,ex,ea,c,n,l,q2⟩:=hz;subst ex;obtain rfl:ov=Value.ref a:=rx;exact xI I2 ea c n l ry fun s3 I3=>⟨σ,_,I3,q2⟩
end
structure eC(k:Nat)(A:Z9):Prop where
 hd:A.handled=none
 dp:A.depth+3*k+5<recursionLimit
 un:A.units+16*k+200<cLine
 gd:A.guards=some []
def eC.mono{j k:Nat}{A:Z9}(r:eC k A)(h:j<=k):eC j A:=⟨r.hd,by have:=r.dp;omega,by have:=r.un;omega,r.gd⟩
def eC.deeper{k:Nat}{A:Z9}(r:eC (k+1) A)(env:Env):eC k (A.deeper env):=
 ⟨r.hd,by have:=r.dp;show A.depth+1+3*k+5<_;omega,by have:=r.un;show A.units+3+16*k+200<_;omega,r.gd⟩
def eC.in1{k:Nat}{A:Z9}(r:eC (k+1) A):eC k A.in1:=
 ⟨r.hd,by have:=r.dp;show A.depth+3*k+5<_;omega,by have:=r.un;show A.units+1+16*k+200<_;omega,r.gd⟩
def xU{A:Z9}{C:Addr}{us:List Q2}{kw:List (Str×Q2)}:(A.under (.builtin "type.__call__" ⟨.ref C::us,kw⟩)).depth=A.depth+1:=by
 first|rfl|simp[Around.under,Code.weight,Code.isCreation,Code.isGuard,Code.isCaller,Code.frames,Code.isFrame,guardIds]
def xT{A:Z9}{C:Addr}{us:List Q2}{kw:List (Str×Q2)}:(A.under (.builtin "type.__call__" ⟨.ref C::us,kw⟩)).units=A.units+1:=by
 first|rfl|simp[Around.under,Code.cUnits,Code.frames,Code.isFrame]
def eC.make{k:Nat}{A:Z9}(r:eC (k+1) A)(C:Addr)(us:List Q2)(kw:List (Str×Q2)):eC k (A.under (.builtin "type.__call__" ⟨.ref C::us,kw⟩)):=
 ⟨r.hd,by have:=r.dp;rw[xU];omega,by have:=r.un;rw[xT];omega,r.gd⟩
def eC.depth{k:Nat}{A:Z9}(r:eC k A):A.depth<recursionLimit:=by have:=r.dp;omega
def eC.units{k:Nat}{A:Z9}(r:eC k A):A.units+64<cLine:=by have:=r.un;omega
def Mg:TA:=fun _ H Q=>Q [] H
def JV(ta:TE)(tr:TA):TA:=fun σ H Q=>ta σ H fun x H1=>tr σ H1 fun xs H2=>Q (x::xs) H2
variable{es:List QB}{t:TA}
section
variable{e:QB}
def KQ:PA X [] Mg:=fun _ _ _ _ H Q I h=>Calls.spliced_nil ⟨[],H,I,.nil,h⟩
def Hh(ha:PE X e te)(hr:PA X es t)(hs:QJ (e::es) X.env=(false,eval e X.env)::QJ es X.env:=by rfl):PA X (e::es) (JV te t):=by
 intro pos pins s σ H Q I h;rw[hs];show wpAny _ _ (spliced ((false,eval e X.env)::ZD pos (QJ es X.env))) _ _ s;refine Calls.spliced_cons (thn (ha pins s σ H _ I h) fun u s1 hz=>?_);obtain⟨x,H1,I1,r1,q1⟩:=hz;exact thn (hr pos pins s1 σ H1 _ I1 q1) fun us s2 ⟨xs,H2,I2,r2,q2⟩=>⟨x::xs,H2,I2,.cons r1 r2,q2⟩
def O4(t:TA):TE:=fun σ H Q=>t σ H fun xs H1=>xs.length<=QD/\∀p,H1 p=none->Q (.ref p) (upd H1 p (.tup xs))
def O9(t:TA):TE:=fun σ H Q=>t σ H fun xs H1=>xs.length<=QD/\∀p,H1 p=none->Q (.ref p) (upd H1 p (.lst xs))
def Kx{x1}(h:PA X es t):PE X (.Tuple es x1 pos) (O4 t):=by
 intro pins s σ H Q I hq;refine wpAny_Tuple_spliced (thn (h pos pins s σ H _ I hq) fun us s1 ⟨xs,H1,I1,r,z,q⟩=>⟨by rw[<-r.length];exact z,?_⟩);have hf:H1 s1.heap.objs.size=none:=I1.hok.fresh (Q7 _);refine⟨.ref s1.heap.objs.size,upd H1 s1.heap.objs.size (.tup xs),I1.laid (t':=s1.toks) (fun b u e=>Q6 _ e) (Q7 _) ?_,rfl,q _ hf⟩;exact⟨z,us,r,⟨_,Qv _ rfl,rfl,_,rfl⟩⟩
def KD(h:PA X es t):PE X (.List es pos) (O9 t):=by
 intro pins s σ H Q I hq;refine wpAny_List_spliced (thn (h pos pins s σ H _ I hq) fun us s1 ⟨xs,H1,I1,r,z,q⟩=>⟨by rw[<-r.length];exact z,?_⟩);have hf:H1 s1.heap.objs.size=none:=I1.hok.fresh (Q7 _);refine⟨.ref s1.heap.objs.size,upd H1 s1.heap.objs.size (.lst xs),I1.laid (t':=s1.toks) (fun b u e=>Q6 _ e) (Q7 _) ?_,rfl,q _ hf⟩;exact⟨z,us,0,r,Qv _ rfl⟩
end
abbrev Sp:=List V->Hp->VK->XK->Prop
abbrev CXT:=List Env->Hp->Q3->XK->Q2->Q3->Prop
structure vK(P:Qx)(w:Z7)(K:Q1)(mg:Str->Option Q2)(base:Heap)(A:Z9)(outer:List Env)(s:Q3)(H:Hp):Prop where
 frames:A.frames=some outer
 mod:Mod K mg base
 bs:∀b o,base.get? b=some o->s.heap.get? b=some o/\H b=none
 bsz:base.objs.size<=s.heap.objs.size
 funs:s.heap.FunFrames base outer
 frf:∀b∈frs outer,H b=none
 hok:HOk P w H s.heap
 bare:AllBare s.gens
def CE(outer:List Env)(P:Qx)(w:Z7)(H:Hp)(s:Q3)(Q:VK)(u:Q2)(s':Q3):Prop:=
 ∃v H',s'.os=s.os/\AllBare s'.gens/\Un (frs outer) [] H H' s.heap s'.heap/\HOk P w H' s'.heap/\cI v u/\Q v H'
def CR(CX:CXT)(outer:List Env)(P:Qx)(w:Z7)(H:Hp)(s:Q3)(Q:VK)(E:XK)(r:Result)(s':Q3):Prop:=
 match r with
 |.ok (.ret u)=>CE outer P w H s Q u s'
 |.ok _=>False
 |.error e=>CX outer H s E e s'
structure kC(P:Qx)(w:Z7)(K:Q1)(mg:Str->Option Q2)(base:Heap)(CX:CXT)(k:Nat)(f:Addr)(fd:Zu)(ps:List Str)(sp:Sp):Prop where
 len:∀vs H Q E,sp vs H Q E->vs.length=ps.length
 run:∀(A:Z9) (outer:List Env) (s:Q3) (H:Hp) (args:Args) (us:List Q2) (vs:List V) (Q:VK) (E:XK),eC k A->vK P w K mg base A outer s H->BindsTo s fd args (ps.zip us)->bX vs us->sp vs H Q E->
  codeAny (Qy P w) A (.call (.ref f) args) (CR CX outer P w H s Q E) s
def kC.mono{P:Qx}{w:Z7}{K:Q1}{mg:Str->Option Q2}{base:Heap}{CX:CXT}{j k:Nat}{f:Addr}{fd:Zu}{ps:List Str}{sp:Sp}(F:kC P w K mg base CX j f fd ps sp)(h:j<=k) :
  kC P w K mg base CX k f fd ps sp:=⟨F.len,fun A outer s H args us vs Q E hr=>F.run A outer s H args us vs Q E (hr.mono h)⟩
def vK.make{P:Qx}{w:Z7}{K:Q1}{mg:Str->Option Q2}{base:Heap}{A:Z9}{outer:List Env}{s:Q3}{H:Hp}(e:vK P w K mg base A outer s H)(C:Addr)(us:List Q2)(kw:List (Str×Q2)) :
  vK P w K mg base (A.under (.builtin "type.__call__" ⟨.ref C::us,kw⟩)) outer s H:=⟨by first|exact e.frames|(simpa [Around.under,Code.envs,Code.isFrame,pushEnvs] using e.frames),e.mod,e.bs,e.bsz,e.funs,e.frf,e.hok,e.bare⟩
def vK.in1{P:Qx}{w:Z7}{K:Q1}{mg:Str->Option Q2}{base:Heap}{A:Z9}{outer:List Env}{s:Q3}{H:Hp}(e:vK P w K mg base A outer s H) :
  vK P w K mg base A.in1 outer s H:=⟨e.frames,e.mod,e.bs,e.bsz,e.funs,e.frf,e.hok,e.bare⟩
section
variable{s':Q3}
def Inv.env0(I:Inv X pins σ H s):vK X.prog X.w X.K X.mg X.base X.A X.stack s H:=
 ⟨I.ok.frames,I.ok.mod,I.bs,ZQ I.ok.bsz I.sz,I.stack,I.stkFree,I.hok,I.bare⟩
def Inv.after{Q:VK}{u:Q2}(I:Inv X pins σ H s)(h:CE X.stack X.prog X.w H s Q u s'):EP X pins σ Q u s':=by
 obtain⟨v,H',os,bare,un,hok,r,q⟩:=h;obtain⟨hh,g,d,t,os'⟩:=s';obtain rfl:os'=s.os:=os;exact⟨v,H',I.call (h':=hh) (g':=g) (d':=d) (t':=t) (ch:=[]) un hok bare (fun b z=>absurd z (by simp)),r,q⟩
end
def JW(sp:Sp)(dvs:List V)(E:XK)(t:TA):TE:=fun σ H Q=>t σ H fun vs H1=>sp (vs++dvs) H1 Q E
def zm(C:Addr)(m:Str)(sp:Sp)(dvs:List V)(E:XK)(ta:TE)(t:TA):TE:=fun σ H Q=>ta σ H fun x H1=>∃a dx fs,x=.ref a/\H1 a=some (.ins C dx fs)/\fs.lookup m=none/\
 t σ H1 fun vs H2=>sp (x::(vs++dvs)) H2 Q E
def Cn(C:Addr)(sp:Sp)(dvs:List V)(E:XK)(t:TA):TE:=fun σ H Q=>t σ H fun vs H1=>∀x dx,H1 x=none->H1 dx=none->dx≠x->
 sp (.ref x::(vs++dvs)) (upd (upd H1 dx (.own x)) x (.ins C dx [])) (fun v H2=>v=.non/\Q (.ref x) H2) E
def gW(K:Q1)(fd:Zu)(ps:List Str)(ds:List Q2):Prop:=
 ∀(s:Q3) (us:List Q2),K.In s.heap->(us++ds).length=ps.length->BindsTo s fd ⟨us,[]⟩ (ps.zip (us++ds))
def gW.all{K:Q1}{fd:Zu}{ps:List Str}(h:∀us:List Q2,us.length=ps.length->bindArgs fd ⟨us,[]⟩=pure (ps.zip us)):gW K fd ps []:=fun s us _ hl=>by
 rw[Z8]at hl ⊢;exact .of_eq (h us hl)
def jv(CX:CXT)(X:Cx)(E:XK):Prop:=∀(pins:List (Addr×Obj)) (σ:St) (H:Hp) (s:Q3) (e:Q2) (s':Q3),Inv X pins σ H s->CX X.stack H s E e s'->X.xe e s'
variable{p:Pos}
section
variable{CX:CXT}{k:Nat}{fd:Zu}{ps:List Str}{sp:Sp}{dvs:List V}{ds:List Q2}{E:XK}{x m:Str}{apos:Pos}{e o:QB}
def zr{pins:List (Addr×Obj)}{σ:St}{H:Hp}{s:Q3}{Q:VK}{us:List Q2}{vs:List V}(F:kC X.prog X.w X.K X.mg X.base CX k f fd ps sp)(hr:eC k X.A)(hb:gW X.K fd ps ds)(hd:bX dvs ds)(hx:jv CX X E)
  (I:Inv X pins σ H s) (r:bX vs us) (h:sp (vs++dvs) H Q E):wpAny (Qy X.prog X.w) X.A (call (.ref f) us) (EP X pins σ Q) X.xe s:=by
 have r2:bX (vs++dvs) (us++ds):=r.append hd;have hl:(us++ds).length=ps.length:=by rw[<-r2.length];exact F.len _ _ _ _ h
 refine wpAny_call (codeAny_mono (F.run X.A X.stack s H ⟨us,[]⟩ (us++ds) (vs++dvs) Q E hr I.env0 (hb s us I.kIn hl) r2 h) fun r s' hq=>?_);cases r with
 |error e=>exact hx pins σ H s e s' I hq
 |ok fl=>
  cases fl with
  |ret u=>exact I.after hq
  |next=>exact False.elim hq
  |brk=>exact False.elim hq
  |cont=>exact False.elim hq
def Hf(F:kC X.prog X.w X.K X.mg X.base CX k f fd ps sp)(hr:eC k X.A)(hg:Gl X x)(hm:X.mg x=some (.ref f))(hk:PySem.W.keepIn X.K (.ref f)=true)(hb:gW X.K fd ps ds)(hd:bX dvs ds)(hx:jv CX X E)
  (ha:PA X (e::es) t) (hdb:(x == ("__debug__":Str))=false:=by decide) (he:QJ (e::es) X.env=(false,eval e X.env)::QJ es X.env:=by rfl) (hpl:(ZD pos (QJ es X.env)).any (·.1)=false:=by rfl) :
  PE X (.Call (.Name x p) (e::es) [] pos) (JW sp dvs E t):=by
 intro pins s σ H Q I h;refine wpAny_Call_Name_kw (Af I hg hm ?_ hdb);refine PySem.W.callWith_K (h₀:=X.base) I.ok.mod.kin hk (thn (ha pos pins s σ H _ I h) fun us s1 ⟨vs,H1,I1,r,q⟩=>⟨I1.kIn,?_⟩) he hpl;exact zr F hr hb hd hx I1 r q
def Hb{pl:Sem Bool}(he:PE X o ta)(c:Cls X.K C)(hm:Iy X.K C m f)(F:kC X.prog X.w X.K X.mg X.base CX k f fd ps sp)(hr:eC k X.A)(hb:gW X.K fd ps ds)(hd:bX dvs ds)(hx:jv CX X E)(ha:PA X (e::es) t)
  (hst:QJ (e::es) X.env=(false,eval e X.env)::QJ es X.env:=by rfl) (hpl:(ZD pos (QJ es X.env)).any (·.1)=false:=by rfl)
  (ht:eval (.Call (.Attribute o m apos) (e::es) [] pos) X.env=(do
   let ov <-eval o X.env
   standAt apos.atName
   let (f,first) <-holding [ov] (getMethod ov m pl)
   callWith pos f first (ZD pos (QJ (e::es) X.env)) (backToKw pos (keywordEach [] X.env))):=by rfl) :
  PE X (.Call (.Attribute o m apos) (e::es) [] pos) (zm C m sp dvs E ta t):=by
 intro pins s σ H Q I h;refine PySem.W.methodCall_KW (pl:=pl) (thn (he pins s σ H _ I h) fun u s1 hz=>?_) ht;obtain⟨x,H1,I1,rx,a,dx,fs,ex,ea,l,q⟩:=hz;subst ex;obtain rfl:u=Value.ref a:=rx;refine pX I1 ea c hm l ?_;refine PySem.W.callWith_K (first:=[.ref a]) (h₀:=X.base) I.ok.mod.kin hm.kp (thn (ha pos pins s1 σ H1 _ I1 q) fun us s2 ⟨vs,H2,I2,r,q2⟩=>⟨I2.kIn,?_⟩) hst hpl;exact zr (us:=.ref a::us) (vs:=.ref a::vs) F hr hb hd hx I2 (.cons rfl r) q2
def C2{pl:Sem Bool}(he:PE X o ta)(c:Cls X.K C)(hm:Iy X.K C m f)(F:kC X.prog X.w X.K X.mg X.base CX k f fd ps sp)(hr:eC k X.A)(hb:gW X.K fd ps ds)(hd:bX dvs ds)(hx:jv CX X E)
  (ht:eval (.Call (.Attribute o m apos) [] [] pos) X.env=(do
   let ov <-eval o X.env
   standAt apos.atName
   let (f,first) <-holding [ov] (getMethod ov m pl)
   callWith pos f first (ZD pos (QJ [] X.env)) (backToKw pos (keywordEach [] X.env))):=by rfl) :
  PE X (.Call (.Attribute o m apos) [] [] pos) (zm C m sp dvs E ta Mg):=by
 intro pins s σ H Q I h;refine PySem.W.methodCall_KW (pl:=pl) (thn (he pins s σ H _ I h) fun u s1 hz=>?_) ht;obtain⟨x,H1,I1,rx,a,dx,fs,ex,ea,l,q⟩:=hz;subst ex;obtain rfl:u=Value.ref a:=rx;refine pX I1 ea c hm l ?_;exact PySem.W.callWith_K0 (first:=[.ref a]) I1.kIn hm.kp (zr (us:=[.ref a]) (vs:=[.ref a]) F hr hb hd hx I1 (.cons rfl .nil) q)
structure Mk(K:Q1)(C f:Addr):Prop where
 makes:PySem.W.makesIn K C=true
 init:PySem.W.findIn K (.ref C) "__init__"=some (some (.ref f))
 fn:PySem.W.isFn K (.ref f)=true
 kp:PySem.W.keepIn K (.ref C)=true
def Ct{pins:List (Addr×Obj)}{σ:St}{H:Hp}{s:Q3}{Q:VK}{us:List Q2}{vs:List V}(M:Mk X.K C f)(F:kC X.prog X.w X.K X.mg X.base CX k f fd ps sp)(hr:eC (k+1) X.A)(hb:gW X.K fd ps ds)(hd:bX dvs ds)
  (hx:jv CX X E) (I:Inv X pins σ H s) (r:bX vs us)
  (h:∀x dx,H x=none->H dx=none->dx≠x->sp (.ref x::(vs++dvs)) (upd (upd H dx (.own x)) x (.ins C dx [])) (fun v H2=>v=.non/\Q (.ref x) H2) E) :
  wpAny (Qy X.prog X.w) X.A (call (.ref C) us) (EP X pins σ Q) X.xe s:=by
 have hq:=h (s.heap.objs.size+1) s.heap.objs.size (I.hok.fresh (X7 _)) (I.hok.fresh (Q7 _)) (Qr (Nat.lt_succ_self _));have I2:=Inv.made (C:=C) I;have r2:bX (V.ref (s.heap.objs.size+1)::(vs++dvs)) (Value.ref (s.heap.objs.size+1)::(us++ds)):=.cons rfl (r.append hd);have hl:(Value.ref (s.heap.objs.size+1)::us++ds).length=ps.length:=by
  have e:=r2.length;rw[F.len _ _ _ _ hq]at e;exact e.symm
 refine wpAny_call (Dp (f:=f) I.kIn M.makes M.init (beq_iff_eq.mp M.fn) (codeAny_mono (F.run _ X.stack _ _ ⟨Value.ref (s.heap.objs.size+1)::us,[]⟩ (Value.ref (s.heap.objs.size+1)::(us++ds)) _ _ E (hr.make C us [])
  (I2.env0.make C us []) (hb _ (Value.ref (s.heap.objs.size+1)::us) I2.kIn hl) r2 hq) fun r s' hq'=>?_))
 cases r with
 |error e=>exact hx pins σ _ _ e s' I2 hq'
 |ok fl=>
  cases fl with
  |ret u=>
   obtain⟨v,H',I3,rv,ev,q3⟩:=I2.after hq';subst ev;exact⟨rv,⟨V.ref (s.heap.objs.size+1),H',I3,rfl,q3⟩⟩
  |next=>exact False.elim hq'
  |brk=>exact False.elim hq'
  |cont=>exact False.elim hq'
def Hc(M:Mk X.K C f)(F:kC X.prog X.w X.K X.mg X.base CX k f fd ps sp)(hr:eC (k+1) X.A)(hg:Gl X x)(hm:X.mg x=some (.ref C))(hb:gW X.K fd ps ds)(hd:bX dvs ds)(hx:jv CX X E)
  (ha:PA X (e::es) t) (hdb:(x == ("__debug__":Str))=false:=by decide) (he:QJ (e::es) X.env=(false,eval e X.env)::QJ es X.env:=by rfl) (hpl:(ZD pos (QJ es X.env)).any (·.1)=false:=by rfl) :
  PE X (.Call (.Name x p) (e::es) [] pos) (Cn C sp dvs E t):=by
 intro pins s σ H Q I h;refine wpAny_Call_Name_kw (Af I hg hm ?_ hdb);refine PySem.W.callWith_K (h₀:=X.base) I.ok.mod.kin M.kp (thn (ha pos pins s σ H _ I h) fun us s1 ⟨vs,H1,I1,r,q⟩=>⟨I1.kIn,?_⟩) he hpl;exact Ct M F hr hb hd hx I1 r q
end
structure bU(N P:List Str)(sc:Zl):Prop where
 kind:sc.kind=.function
 co:sc.isCoroutine=false
 gen:sc.isGenerator=false
 nd:N.Nodup
 pre:N.take P.length=P
 par:∀x∈P,sc.names.lookup x=some .local\/sc.names.lookup x=some .cell
 nofree:∀y∈sc.names,y.2≠.free
def uj{kindOf:Str->Option NameKind}{x:Str}:∀{binds:List (Str×Q2)} {m:Str->Option Q2},(∀v,(x,v)∉binds)->bindL kindOf binds m x=m x
 |[],_,_=>rfl
 |(n,v)::r,m,h=>by
  unfold bindL;rw[uj fun w hw=>h w (QY _ hw)];split
  ·have:x≠n:=by rintro rfl;exact h v QN
   simp[this]
  ·rfl
def uo{kindOf:Str->Option NameKind}{x:Str}:∀{binds:List (Str×Q2)} {m:Str->Option Q2},(∀v,(x,v)∉binds)->bindC kindOf binds m x=m x
 |[],_,_=>rfl
 |(n,v)::r,m,h=>by
  unfold bindC;rw[uo fun w hw=>h w (QY _ hw)];split
  ·rfl
  ·have:x≠n:=by rintro rfl;exact h v QN
   simp[this]
def um{kindOf:Str->Option NameKind}{x:Str}{v:Q2}:∀{P:List Str} {vs:List Q2} {i:Nat} {m:Str->Option Q2},P.Nodup->P[i]?=some x->vs[i]?=some v->kindOf x=some .local->
  bindL kindOf (P.zip vs) m x=some v
 |[],_,_,_,_,h,_,_=>by simp at h
 |_::_,[],_,_,_,_,h,_=>by simp at h
 |p::P,w::vs,0,m,nd,h1,h2,hk=>by
  simp at h1 h2;subst h1;subst h2;show bindL kindOf ((p,w)::P.zip vs) m p=_;unfold bindL;rw[uj fun v hv=>(Zs.mp nd).1 (List.of_mem_zip hv).1,X9 hk];simp
 |p::P,w::vs,i+1,m,nd,h1,h2,hk=>by
  show bindL kindOf ((p,w)::P.zip vs) m x=_;unfold bindL;exact um (i:=i) (Zs.mp nd).2 (by simpa using h1) (by simpa using h2) hk
def uq{kindOf:Str->Option NameKind}{x:Str}{v:Q2}:∀{P:List Str} {vs:List Q2} {i:Nat} {m:Str->Option Q2},P.Nodup->P[i]?=some x->vs[i]?=some v->kindOf x≠some .local->
  bindC kindOf (P.zip vs) m x=some v
 |[],_,_,_,_,h,_,_=>by simp at h
 |_::_,[],_,_,_,_,h,_=>by simp at h
 |p::P,w::vs,0,m,nd,h1,h2,hk=>by
  simp at h1 h2;subst h1;subst h2;show bindC kindOf ((p,w)::P.zip vs) m p=_;unfold bindC;rw[uo fun v hv=>(Zs.mp nd).1 (List.of_mem_zip hv).1,XQ hk];simp
 |p::P,w::vs,i+1,m,nd,h1,h2,hk=>by
  show bindC kindOf ((p,w)::P.zip vs) m x=_;unfold bindC;exact uq (i:=i) (Zs.mp nd).2 (by simpa using h1) (by simpa using h2) hk
def jU(N:List Str)(vs:List V):St:=vs.map some++QX (N.length-vs.length) none
def mr(CX:CXT)(P:Qx)(w:Z7)(K:Q1)(mg:Str->Option Q2)(base:Heap)(N:List Str)(qual:Str)(scope:Zl)(f:Addr)(cd:Q2)(A:Z9)(outer:List Env)(s:Q3)(H:Hp)(E:XK):Cx where
 prog:=P
 w:=w
 K:=K
 mg:=mg
 base:=base
 A:=A.deeper (envOfC qual scope s.heap.objs.size f cd)
 N:=N
 s₀:=s
 H₀:=H
 env:=envOfC qual scope s.heap.objs.size f cd
 outer:=outer
 stack:=envOfC qual scope s.heap.objs.size f cd::outer
 ex:=[]
 calm:=true
 fn:=fun _=>true
 pn:=[]
 xe:=fun e s'=>wpAny (Qy P w) (A.deeper (envOfC qual scope s.heap.objs.size f cd)) (leaving (envOfC qual scope s.heap.objs.size f cd) e) (fun _ s''=>CX outer H s E e s'') (fun e' s''=>CX outer H s E e' s'') s'
def xc{sc:Zl}{n:Nat}{x:Str}(h:sc.names.lookup x=some .cell):∃c,(cellsFrom n sc.names []).lookup x=some c:=by
 have q:=PySem.W.cellsFrom_some sc.names n [] (.inl h);exact ZF.mp q
def Az{CX:CXT}{P:Qx}{w:Z7}{K:Q1}{mg:Str->Option Q2}{base:Heap}{N ps:List Str}{qual:Str}{scope:Zl}{f:Addr}{cd:Q2}{A:Z9}{outer:List Env}{s s1:Q3}{H:Hp}{E:XK}{us:List Q2}{vs:List V}
  (S:bU N ps scope) (hd:A.handled=none) (e0:vK P w K mg base A outer s H) (hl:vs.length=ps.length) (r:bX vs us)
  (x:InCallC s s.heap.objs.size (bindL (envOfC qual scope s.heap.objs.size f cd).kindOf (ps.zip us) fun _=>none) (cellsFrom (s.heap.objs.size+1) scope.names []) (bindC (envOfC qual scope s.heap.objs.size f cd).kindOf (ps.zip us) fun _=>none) s1) :
  Inv (mr CX P w K mg base N qual scope f cd A outer s H E) [] (jU N vs) H s1:=by
 have hpl:ps.length<=N.length:=by have:=congrArg List.length S.pre;rw[List.length_take]at this;omega
 obtain⟨h1,tk,rfl,hk⟩:=x.done;have noA:∀b:Addr,b∉(mr CX P w K mg base N qual scope f cd A outer s H E).ex:=fun b z=>absurd (show b∈([]:List Addr)from z) (by simp);refine⟨⟨e0.mod,S.kind,rfl,rfl,Q7 _,fun y z c h1 h2=>?_,fun y hy=>?_,fun y c _ h=>?_,fun _=>hd,Around.frames_deeper e0.frames,.inr ⟨rfl,rfl⟩,fun b z=>absurd z (noA b),e0.bs,e0.bsz,fun b _ _=>noA b,fun b z=>absurd z (noA b),e0.funs,e0.frf⟩,
  rfl,e0.bare,Un.kept hk,⟨_,x.toInCall.ns,fun i y v h1 h2 h3=>?_⟩,fun y c h=>⟨_,x.cell y c h⟩,e0.hok.fresh (Q7 _),fun y c h=>?_,fun p hp=>absurd (show p∈([]:List (Addr×Obj))from hp) (by simp),e0.hok.kept hk,?_⟩
 exact name_of_addr x.apart (PySem.mem_of_lookup h1) (PySem.mem_of_lookup h2);have hy:scope.names.lookup y=some .cell\/scope.names.lookup y=some .free:=hy;rcases hy with hy|hy;exact xc hy;exact absurd rfl (S.nofree _ (PySem.mem_of_lookup hy));exact Nat.le_of_lt (x.above y c (PySem.mem_of_lookup h))
 ·have hi:i<vs.length:=by
   unfold jU at h2;by_cases hi:i<vs.length;exact hi
   ·rw[ZZ (by simpa using hi)]at h2;rw[Zy]at h2;split at h2<;>cases h2
  have ha:vs[i]?=some v:=by
   unfold jU at h2;rw[ZJ (by simpa using hi),QL]at h2;cases e:vs[i]? with
   |none=>rw[e]at h2;cases h2
   |some a=>rw[e]at h2;cases h2;rfl
  obtain⟨u,hu,rv⟩:=r.get ha;have hp:ps[i]?=some y:=by
   rw[<-S.pre,List.getElem?_take_of_lt (by omega)];exact h1
  have ndP:ps.Nodup:=by rw[<-S.pre];exact S.nd.sublist (List.take_sublist _ _)
  refine⟨u,rv,?_⟩;rcases S.par y (ZS hp)with k|k;exact .inl ⟨k,um ndP hp hu k⟩;obtain⟨c,e⟩:=xc (n:=s.heap.objs.size+1) k;refine .inr ⟨.inl k,c,e,?_⟩;have q:=x.cell y c e;rw[uq ndP hp hu (by show scope.names.lookup y≠_;rw[k];decide)]at q;exact q
 exact e0.hok.fresh (Nat.le_of_lt (x.above y c (PySem.mem_of_lookup h)));unfold jU;show _=N.length;rw[QH,Q9,List.length_replicate];omega
def HY{CX:CXT}{P:Qx}{w:Z7}{K:Q1}{mg:Str->Option Q2}{base:Heap}{k:Nat}{f:Addr}{name qual:Str}{params:Arguments}{body:List Z0}{scope:Zl}{dV kV doc pm cdv ct oc:Q2}{an od:Option Addr}
  {osl:Array (Option Q2)} {N ps:List Str} {sp:Sp} (lk:K.lookup f=some ⟨oc,od,.func (PySem.W.fnOf name qual params body scope dV kV doc pm an cdv ct),osl⟩) (hcd:PySem.W.codeIn K cdv qual=true) (S:bU N ps scope)
  (len:∀vs H Q E,sp vs H Q E->vs.length=ps.length)
  (hbody:∀(A:Z9) (outer:List Env) (s:Q3) (H:Hp) (vs:List V) (Q:VK) (E:XK),eC k (A.deeper (envOfC qual scope s.heap.objs.size f cdv))->sp vs H Q E->
   ∃t,PSs (mr CX P w K mg base N qual scope f cdv A outer s H E) body t/\t { nx:=fun _ H'=>Q .non H',rt:=Q } (jU N vs) H) :
  kC P w K mg base CX (k+1) f (PySem.W.fnOf name qual params body scope dV kV doc pm an cdv ct) ps sp:=by
 refine⟨len,fun A outer s H args us vs Q E hr e0 hb r hsp=>?_⟩;have hl:=len _ _ _ _ hsp;have KX:K.In s.heap:=e0.mod.kin.keeps fun b o e=>(e0.bs b o e).1;have lim:s.heap.NoLimit:=e0.mod.nolimit.keeps fun b o e=>(e0.bs b o e).1;have hkind:∀y∈ps.zip us,scope.names.lookup y.1=some .local\/(scope.names.lookup y.1=some .cell/\((cellsFrom (s.heap.objs.size+1) scope.names []).lookup y.1).isSome=true):=fun⟨n,v⟩ hy=>by
  rcases S.par n (List.of_mem_zip hy).1 with q|q;exact .inl q;exact .inr ⟨q,PySem.W.cellsFrom_some _ _ _ (.inl q)⟩
 refine codeAny_call_function hr.depth (KX _ _ lk) rfl S.co S.gen rfl (PySem.W.codeRec_of KX hcd) (hb _ _ _ _ ?_);refine wpAny_newFunctionEnv_cells S.kind hkind fun env he s1 x=>?_;subst he;refine⟨lim.keeps x.toInCall.keep,codeAny_func ?_⟩;obtain⟨t,ht,hq⟩:=hbody A outer s H vs Q E (hr.deeper _) hsp;have I:Inv (mr CX P w K mg base N qual scope f cdv A outer s H E) [] (jU N vs) H s1:=Az S hr.hd e0 hl r x;refine ZT (ht [] s1 (jU N vs) H _ I hq) (fun fl s' hs=>?_) fun e s' hs=>hs;have fin:∀{σ':St} {H':Hp} {v:V} {u:Q2},Inv (mr CX P w K mg base N qual scope f cdv A outer s H E) [] σ' H' s'->cI v u->Q v H'->CE outer P w H s Q u s':=
  fun{σ' H' v u} J rv q=>⟨v,H',J.os,J.bare,J.base,J.hok,rv,q⟩
 cases fl with
 |ret u=>
  obtain⟨v,σ',H',J,rv,q⟩:=hs;exact fin J rv q
 |next=>
  obtain⟨σ',H',J,q⟩:=hs;exact fin (v:=V.non) (u:=Value.none) J rfl q
 |brk=>
  obtain⟨_,_,_,q⟩:=hs;exact False.elim q
 |cont=>
  obtain⟨_,_,_,q⟩:=hs;exact False.elim q
section
variable{x:Str}{e:QB}{id T:String}{r:List V->Hp->VK->Prop}
def tCB(r:List V->Hp->VK->Prop)(t:TA):TE:=fun σ H Q=>t σ H fun vs H1=>r vs H1 Q
def C6(hc:gU X (.builtin id) r)(hg:Gl X x)(hm:X.mg x=none)(hv:ZE x=some (.builtin id))(ha:PA X (e::es) t)(hn:x≠"__name__":=by decide)(hdb:(x == ("__debug__":Str))=false:=by decide)
  (he:QJ (e::es) X.env=(false,eval e X.env)::QJ es X.env:=by rfl) (hpl:(ZD pos (QJ es X.env)).any (·.1)=false:=by rfl):PE X (.Call (.Name x p) (e::es) [] pos) (tCB r t):=by
 intro pins s σ H Q I h;refine wpAny_Call_Name_kw (sZ I hg hm hv ?_ hn hdb);exact PyProof.Rows.callWith_builtin1 (thn (ha pos pins s σ H _ I h) fun us s1 ⟨vs,H1,I1,r1,q1⟩=>hc pins s1 σ H1 vs us Q I1 r1 q1) he hpl
def zK(hc:gU X (.type T) r)(hg:Gl X x)(hm:X.mg x=none)(hv:ZE x=some (.type T))(ha:PA X (e::es) t)(hn:x≠"__name__":=by decide)(hdb:(x == ("__debug__":Str))=false:=by decide)
  (he:QJ (e::es) X.env=(false,eval e X.env)::QJ es X.env:=by rfl) (hpl:(ZD pos (QJ es X.env)).any (·.1)=false:=by rfl):PE X (.Call (.Name x p) (e::es) [] pos) (tCB r t):=by
 intro pins s σ H Q I h;refine wpAny_Call_Name_kw (sZ I hg hm hv ?_ hn hdb);exact PyProof.Rows.callWith_type1 (thn (ha pos pins s σ H _ I h) fun us s1 ⟨vs,H1,I1,r1,q1⟩=>hc pins s1 σ H1 vs us Q I1 r1 q1) he hpl
end
end L2
namespace HT
open PySem PyProof.Rows
section
variable{prog:Qx}{w:Z7}{A:Z9}{E:Q2->Q3->Prop}{s:Q3}
def cat_tup{t b:Addr}{vs ws:List Q2}{Q:Q2->Q3->Prop}(ht:IsTup s.heap t vs.toArray)(hb:IsTup s.heap b ws.toArray)(hv:vs≠[])
  (h1:ws=[]->Q (.ref t) s) (h2:ws≠[]->Q (.ref s.heap.objs.size) { s with heap:=s.heap.push { cls:=.type "tuple",data:=.seq (vs++ws).toArray } })
  (hsz:vs.length+ws.length<=QD):wpAny (Qy prog w) A (binaryOp .Add (.ref t) (.ref b)) Q E s:=by
 obtain⟨⟨cls,dd,data,sl⟩,ho,hc,n,hd⟩:=id ht;obtain⟨⟨cls2,dd2,data2,sl2⟩,ho2,hc2,n2,hd2⟩:=id hb;simp only at hc hd hc2 hd2;subst hc hd hc2 hd2;have e:vs.toArray++ws.toArray=(vs++ws).toArray:=by simp
 by_cases hw:ws=[];exact concat_meets ⟨_,ho,rfl⟩ ⟨_,ho2,rfl⟩ noFill_tuple_add seq_tuple_add PySem.F.slot_tuple_add PySem.F.entry_tuple_add (PySem.F.args_tuple_add_2 _ _)
  (tuple_addW1 t b vs.toArray ws.toArray n n2 dd dd2 sl sl2 (by simpa using hv) (by simp[hw])) ⟨ho,ho2,h1 hw⟩
 refine concat_meets ⟨_,ho,rfl⟩ ⟨_,ho2,rfl⟩ noFill_tuple_add seq_tuple_add PySem.F.slot_tuple_add PySem.F.entry_tuple_add (PySem.F.args_tuple_add_2 _ _)
  (tuple_addW2 t b vs.toArray ws.toArray n n2 dd dd2 sl sl2 (by simpa using hv) (by simpa using hw) (by rw[QR,QR];exact hsz)) ⟨ho,ho2,?_⟩
 rw[e];exact h2 hw
def sIx(n d:Nat):Option Int->Nat
 |none=>d
 |some v=>if v<0 then(v+(n:Int)).toNat else min v.toNat n
def sIx_none(n d:Nat):sIx n d none=d:=rfl
def sIx_nat(n d k:Nat):sIx n d (some (k:Int))=min k n:=by
 show(if (k:Int)<0 then((k:Int)+(n:Int)).toNat else min (k:Int).toNat n)=min k n;rw[XQ (by omega),Int.toNat_natCast]
def J3(n d:Nat)(hd:d<=n)(o:Option Int):sIx n d o<=n:=by
 cases o with
 |none=>exact hd
 |some v=>
  show(if v<0 then(v+(n:Int)).toNat else min v.toNat n)<=n;by_cases hv:v<0;rw[X9 hv];omega;rw[XQ hv];exact Nat.min_le_right _ _
def Bf(v:Int)(n d:Nat):(if v<0 then max (v+(n:Int)) 0 else min v (n:Int))=((sIx n d (some v):Nat):Int):=by
 show(if v<0 then max (v+(n:Int)) 0 else min v (n:Int))=(((if v<0 then(v+(n:Int)).toNat else min v.toNat n):Nat):Int);by_cases hv:v<0;simp only[X9 hv];omega;simp only[XQ hv];omega
def yg(lo hi:Option Int)(n:Nat):Builtin.Slice.sliceAdjust lo hi 1 (n:Int)=(((sIx n 0 lo:Nat):Int),((sIx n n hi:Nat):Int)):=by
 have h1:¬((1:Int)<0):=by omega
 unfold Builtin.Slice.sliceAdjust;simp only[h1,if_false];refine Prod.ext ?_ ?_;cases lo with
 |none=>rfl
 |some v=>exact Bf v n 0
 cases hi with
 |none=>rfl
 |some v=>exact Bf v n n
def xN(i j:Nat):Builtin.Slice.slicePlaces (i:Int) (j:Int) 1=j-i:=by
 unfold Builtin.Slice.slicePlaces;have h1:(1:Int)>0:=by omega
 simp only[h1,if_true,Int.ediv_one];split<;>omega
def px{v:Q2}{o:Option Int}{Q:Option Int->Q3->Prop}(p:IsPart v o)(h:Q o s):wpAny (Qy prog w) A (Builtin.Slice.slicePartIndex v) Q E s:=by
 cases p with
 |none=>exact slicePart_none h
 |int i t=>exact slicePart_int h
def mf{sl:Addr}{vl vu:Q2}{lo hi:Option Int}{n:Nat}{Q:Int×Int×Nat->Q3->Prop}(hs:s.heap.IsSliceOf sl vl vu .none)(pl:IsPart vl lo)(pu:IsPart vu hi)
  (h:Q (((sIx n 0 lo:Nat):Int),1,sIx n n hi-sIx n 0 lo) s):wpAny (Qy prog w) A (Builtin.Slice.sliceApplied (.ref sl) (pure (n:Int))) Q E s:=by
 obtain⟨os,hos,hcs,hds⟩:=id hs;unfold Builtin.Slice.sliceApplied Builtin.Slice.sliceFields;refine Q5 (Q5 (wpAny_field hos hds (x:=vl) rfl (Q5 (wpAny_field hos hds (x:=vu) rfl (Q5 (wpAny_field hos hds (x:=.none) rfl (Qq ?_)))))));refine Q5 (slicePart_none ?_);show wpAny _ _ (if ((1:Int) == 0)=true then _ else _) _ _ s;rw[XQ (by decide)];refine Q5 (px pl (Q5 (px pu (Q5 (Qq ?_)))));show wpAny _ _ (match Builtin.Slice.sliceAdjust lo hi 1 (n:Int)with|(lo,hi)=>pure (lo,(1:Int),Builtin.Slice.slicePlaces lo hi 1)) _ _ s;rw[yg lo hi n];show wpAny _ _ (pure (((sIx n 0 lo:Nat):Int),(1:Int),Builtin.Slice.slicePlaces ((sIx n 0 lo:Nat):Int) ((sIx n n hi:Nat):Int) 1)) _ _ s;rw[xN];exact Qq h
def CZ(xs:Array Q2)(i k:Nat):((QF k).filterMap fun(m:Nat)=>xs[((i:Int)+(m:Int)*1).toNat]?).toArray=((xs.toList.drop i).take k).toArray:=by
 have e:(fun(m:Nat)=>xs[((i:Int)+(m:Int)*1).toNat]?)=fun m=>xs[i+m]?:=by
  funext m;have:((i:Int)+(m:Int)*1).toNat=i+m:=by omega
  rw[this]
 rw[e];have:=pick_run xs i k;rw[List.filterMap_map]at this;have e2:((fun x=>xs[x]?) ∘ fun x=>i+x)=fun m=>xs[i+m]?:=rfl;rw[e2]at this;rw[this]
def getItem_tuple_cut{t sl:Addr}{items:Array Q2}{vl vu:Q2}{lo hi:Option Int}{Q:Q2->Q3->Prop}(ht:IsTup s.heap t items)(hs:s.heap.IsSliceOf sl vl vu .none)(pl:IsPart vl lo)(pu:IsPart vu hi)
  (hw:¬(sIx items.size 0 lo=0/\sIx items.size items.size hi=items.size))
  (h:Q (.ref s.heap.objs.size) { s with heap:=s.heap.push { cls:=.type "tuple",data:=.seq ((items.toList.drop (sIx items.size 0 lo)).take (sIx items.size items.size hi-sIx items.size 0 lo)).toArray } })
  (hsz:items.size<=QD):wpAny (Qy prog w) A (getItem (.ref t) (.ref sl)) Q E s:=by
 have htake:sizeOk (.seq ((items.toList.drop (sIx items.size 0 lo)).take (sIx items.size items.size hi-sIx items.size 0 lo)).toArray):=by
  show((items.toList.drop (sIx items.size 0 lo)).take (sIx items.size items.size hi-sIx items.size 0 lo)).toArray.size<=QD;rw[QR,List.length_take,List.length_drop,ZH];omega
 have hj:sIx items.size items.size hi<=items.size:=J3 _ _ (Q7 _) hi;obtain⟨os,hos,hcs,hds⟩:=id hs;have hTs:s.TypeIs (.ref sl) "slice":=⟨os,hos,hcs⟩;unfold getItem;try with_reducible refine wpAny_holding ?_
 first|refine Q5 (Qq ?_)|skip
 refine Q5 (wpAny_sequenceKey ht.typeIs (by decide) ?_);refine Q5 (wpAny_callSpecial?_slot (name:=Str.ofString "__getitem__") ht.typeIs PyProof.Rows.slot_tuple_getitem
  (wpAny_call_entry PyProof.Rows.slot_tuple_getitem ht.typeIs entry_tuple_getitem ?_ (args_tuple_getitem _ _)))
 show wpAny _ _ (Builtin.Tuple.tupleItemsOf (.ref t) >>= _) _ _ s;refine Q5 (tupleItemsOf_ ht ?_);refine Q5 (wpAny_typeOf hTs ?_);rw[X9 (by decide)];refine Q5 (mf hs pl pu ?_);have hno:¬((((sIx items.size 0 lo:Nat):Int) == 0&&(1:Int) == 1&&(sIx items.size items.size hi-sIx items.size 0 lo) == items.size)=true):=by
  intro q;rw[Zo,Zo]at q;have q1:((sIx items.size 0 lo:Nat):Int)=0:=eq_of_beq q.1.1;have q2:sIx items.size items.size hi-sIx items.size 0 lo=items.size:=eq_of_beq q.2;exact hw ⟨by omega,by omega⟩
 show wpAny _ _ (if (((sIx items.size 0 lo:Nat):Int) == 0&&(1:Int) == 1&&(sIx items.size items.size hi-sIx items.size 0 lo) == items.size)=true then _ else _) _ _ s;rw[XQ hno,CZ];first
  |exact Q5 (m:=Builtin.Tuple.tupleExact _) (wpAny_newObj_type (Qq ⟨_,rfl,Qq h⟩) htake)
  |exact Q5 (m:=Builtin.Tuple.tupleExact _) (wpAny_newObj_type (Q5 (Qq (Qq ⟨_,rfl,Qq h⟩))) htake)
  |exact Q5 (Q5 (m:=Builtin.Tuple.tupleExact _) (wpAny_newObj_type (Qq (Qq ⟨_,rfl,Qq h⟩)) htake))
  |exact Q5 (Q5 (m:=Builtin.Tuple.tupleExact _) (wpAny_newObj_type (Qq ⟨_,rfl,Qq h⟩) htake))
end
end HT
namespace L2
open PySem PySem.Spec PyProof.Rows
abbrev TO:=St->Hp->(Option Int->Hp->Prop)->Prop
def PO(X:Cx)(e:Option QB)(t:TO):Prop:=
 ∀(pins:List (Addr×Obj)) (s:Q3) (σ:St) (H:Hp) (Q:Option Int->Hp->Prop),Inv X pins σ H s->t σ H Q->
  wpAny (Qy X.prog X.w) X.A (evalPart e X.env) (fun u s'=>∃o H',Inv X pins σ H' s'/\IsPart u o/\Q o H') X.xe s
def zj:TO:=fun _ H Q=>Q none H
def JO(t:TE):TO:=fun σ H Q=>t σ H fun x H1=>∃i,x=.int i/\Q (some i) H1
variable{X:Cx}{e:QB}{pos:Pos}
section
variable{te:TE}{lo hi:Option QB}{tl th:TO}{p2:Pos}
def G6:PO X none zj:=by
 intro pins s σ H Q I h;rw[evalPart_none];exact Qq ⟨none,H,I,.none,h⟩
def G0(h:PE X e te):PO X (some e) (JO te):=by
 intro pins s σ H Q I hw;rw[evalPart_some];refine thn (h pins s σ H _ I hw) fun u s1 hz=>?_;obtain⟨x,H1,I1,r1,q1⟩:=hz;obtain⟨i,rfl,q⟩:=q1;obtain⟨t,rfl⟩:=r1;exact⟨some i,H1,I1,.int i t,q⟩
def SlR(X:Cx)(r:V->Option Int->Option Int->Hp->VK->Prop):Prop:=
 ∀(pins:List (Addr×Obj)) (s:Q3) (σ:St) (H:Hp) (x:V) (v vl vu:Q2) (lo hi:Option Int) (sl:Addr) (Q:VK),Inv X pins σ H s->cI x v->s.heap.IsSliceOf sl vl vu .none->IsPart vl lo->IsPart vu hi->r x lo hi H Q->
  ∃T id,typeLookup (.type T) "__getitem__"=pure (some (.builtin id))/\s.TypeIs v T/\wpAny (Qy X.prog X.w) X.A (getItem v (.ref sl)) (EP X pins σ Q) X.xe s
def SlR.or{r r':V->Option Int->Option Int->Hp->VK->Prop}(h:SlR X r)(h':SlR X r'):SlR X (fun x lo hi H Q=>r x lo hi H Q\/r' x lo hi H Q):=by
 intro pins s σ H x v vl vu lo hi sl Q I rx hs pl pu q;rcases q with q|q;exact h pins s σ H x v vl vu lo hi sl Q I rx hs pl pu q;exact h' pins s σ H x v vl vu lo hi sl Q I rx hs pl pu q
def tSl(r:V->Option Int->Option Int->Hp->VK->Prop)(te:TE)(tl th:TO):TE:=fun σ H Q=>te σ H fun x H1=>tl σ H1 fun l H2=>th σ H2 fun u H3=>r x l u H3 Q
def C1{r:V->Option Int->Option Int->Hp->VK->Prop}(hr:SlR X r)(he:PE X e te)(hl:PO X lo tl)(hu:PO X hi th):PE X (.Subscript e (.Slice lo hi none p2) pos) (tSl r te tl th):=by
 intro pins s σ H Q I h;refine Subscript_ (thn (he pins s σ H _ I h) fun v s1 hz=>?_);obtain⟨x,H1,I1,r1,q1⟩:=hz;refine wpAny_Slice (thn (hl pins s1 σ H1 _ I1 q1) fun vl s2 ⟨l,H2,I2,pl,q2⟩=>thn (hu pins s2 σ H2 _ I2 q2) fun vu s3 hz=>?_);obtain⟨u,H3,I3,pu,q3⟩:=hz;rw[evalPart_none];refine Qq ?_;have I4:Inv X pins σ H3 { s3 with heap:=s3.heap.push { cls:=.type "slice",data:=.fields #[vl,vu,.none] } }:=I3.kept (t':=s3.toks) fun b ob q=>Q6 _ q;obtain⟨T,id,hT,ht,hg⟩:=hr pins { s3 with heap:=s3.heap.push { cls:=.type "slice",data:=.fields #[vl,vu,.none] } } σ H3 x v vl vu l u s3.heap.objs.size Q I4 r1 (Heap.IsSliceOf.new ..) pl pu q3;show wpAny (Qy X.prog X.w) X.A (subscriptTail e (.Slice lo hi none p2) v (.ref s3.heap.objs.size)) (EP X pins σ Q) X.xe { s3 with heap:=s3.heap.push { cls:=.type "slice",data:=.fields #[vl,vu,.none] } };exact tail_any (ops:=[.ref s3.heap.objs.size,v]) ht hT hg (by with_unfolding_all rfl)
def Fl(xs:List V)(lo hi:Option Int):List V:=(xs.drop (HT.sIx xs.length 0 lo)).take (HT.sIx xs.length xs.length hi-HT.sIx xs.length 0 lo)
def oh(xs:List V)(lo hi:Option Int):(Fl xs lo hi).length<=xs.length:=by
 unfold Fl;rw[List.length_take,List.length_drop];omega
def Qb(K:Q1):V->Option Int->Option Int->Hp->VK->Prop:=fun x lo hi H Q=>∃a xs,x=.ref a/\SqT K H a xs/\
 ¬(HT.sIx xs.length 0 lo=0/\HT.sIx xs.length xs.length hi=xs.length)/\∀p,H p=none->Q (.ref p) (upd H p (.tup (Fl xs lo hi)))
def JZ:SlR X (Qb X.K):=by
 intro pins s σ H x v vl vu lo hi sl Q I rx hs pl pu h;obtain⟨a,xs,rfl,hx,hw,q⟩:=h;cases rx;obtain⟨its,r,ht,hz⟩:=I.tuple hx;have hlen:its.toArray.size=xs.length:=by rw[QR];exact r.length.symm
 refine⟨"tuple",_,PyProof.Rows.slot_tuple_getitem.lookup,ht.typeIs,?_⟩;refine HT.getItem_tuple_cut ht hs pl pu (by rw[hlen];exact hw) ?_ (by rw[hlen];exact hz);rw[hlen];refine⟨.ref s.heap.objs.size,_,I.laid (t':=s.toks) (o:=.tup (Fl xs lo hi)) (fun b ob q=>Q6 _ q) (Q7 _) ?_,rfl,q _ (I.hok.fresh (Q7 _))⟩;exact⟨ZQ (oh xs lo hi) hz,_,(r.drop (HT.sIx xs.length 0 lo)).take (HT.sIx xs.length xs.length hi-HT.sIx xs.length 0 lo),IsTup.new _ _⟩
def NP(K:Q1):R2:=fun x y H Q=>∃a b xs ys,x=.ref a/\y=.ref b/\SqT K H a xs/\SqT K H b ys/\xs≠[]/\xs.length+ys.length<=QD/\
 (ys=[]->Q (.ref a) H)/\(ys≠[]->∀p,H p=none->Q (.ref p) (upd H p (.tup (xs++ys))))
def bX.nil_iff{xs:List V}{us:List Q2}(r:bX xs us):us=[]↔xs=[]:=by
 cases r with
 |nil=>simp
 |cons _ _=>simp
def Hn:OpR X (binaryOp .Add) (NP X.K):=by
 intro pins s σ H x y v u Q I rx ry h;obtain⟨a,b,xs,ys,rfl,rfl,ha,hb,hx,hz,q1,q2⟩:=h;cases rx;cases ry;obtain⟨its,r1,p1,_⟩:=I.tuple ha;obtain⟨its2,r2,p2,_⟩:=I.tuple hb;refine HT.cat_tup p1 p2 (fun z=>hx (r1.nil_iff.mp z)) (fun z=>⟨.ref a,H,I,rfl,q1 (r2.nil_iff.mp z)⟩) (fun z=>?_) (by rw[<-r1.length,<-r2.length];exact hz);refine⟨.ref s.heap.objs.size,_,I.laid (t':=s.toks) (o:=.tup (xs++ys)) (fun b ob q=>Q6 _ q) (Q7 _) ?_,rfl,q2 (fun w=>z (r2.nil_iff.mpr w)) _ (I.hok.fresh (Q7 _))⟩;exact⟨by rw[QH];exact hz,_,r1.append r2,IsTup.new _ _⟩
end
def ixN(n:Nat)(i:Int):Option Nat:=if 0<=i then(if i<n then some i.toNat else none)else if -(n:Int)<=i then some (i+n).toNat else none
def atI{α:Type}(xs:List α)(i:Int):Option α:=(ixN xs.length i).bind fun j=>xs[j]?
def Aw{n:Nat}{i:Int}{j:Nat}(h:ixN n i=some j):seqIndex? i n=some j/\j<n/\-(n:Int)<=i/\i<n:=by
 unfold ixN at h;by_cases h0:0<=i;rw[X9 h0]at h;by_cases h1:i<n;rw[X9 h1]at h;have e:i.toNat=j:=Option.some.inj h;exact⟨by rw[seqIndex_of h0 h1,e],by omega,by omega,h1⟩;rw[XQ h1]at h;cases h;rw[XQ h0]at h;by_cases h1:-(n:Int)<=i;rw[X9 h1]at h;have e:(i+n).toNat=j:=Option.some.inj h;exact⟨by rw[seqIndex_neg (by omega) h1,e],by omega,h1,by omega⟩;rw[XQ h1]at h;cases h
def Bw{α:Type}{xs:List α}{i:Int}{v:α}(h:atI xs i=some v):∃j,seqIndex? i xs.length=some j/\xs[j]?=some v/\j<xs.length/\-(xs.length:Int)<=i/\i<xs.length:=by
 unfold atI at h;cases e:ixN xs.length i with
 |none=>rw[e]at h;cases h
 |some j=>
  rw[e]at h;obtain⟨h1,h2,h3,h4⟩:=Aw e;exact⟨j,h1,h,h2,h3,h4⟩
def i9{α:Type}{xs:List α}{j:Nat}{v:α}(h:xs[j]?=some v):atI xs (j:Int)=some v:=by
 have hj:j<xs.length:=(Q4.mp h).1;have e:ixN xs.length (j:Int)=some j:=by
  unfold ixN;rw[X9 (by omega),X9 (by omega)];simp
 unfold atI;rw[e];exact h
def vC(b:QB):Prop:=∀o i,subscripted b false o i=operate [o,i] (getItem o i)
def IxR(X:Cx)(r:R2):Prop:=
 ∀(value slice:QB) (pins:List (Addr×Obj)) (s:Q3) (σ:St) (H:Hp) (x y:V) (v u:Q2) (Q:VK),Inv X pins σ H s->cI x v->cI y u->r x y H Q->
  subscripted slice false v u=operate [v,u] (getItem v u)->wpAny (Qy X.prog X.w) X.A (subscriptTail value slice v u) (EP X pins σ Q) X.xe s
def MtR(X:Cx)(id:String)(r:V->List V->Hp->VK->Prop):Prop:=
 ∀(pins:List (Addr×Obj)) (s:Q3) (σ:St) (H:Hp) (x:V) (xs:List V) (v:Q2) (us:List Q2) (Q:VK),Inv X pins σ H s->cI x v->bX xs us->r x xs H Q->
  wpAny (Qy X.prog X.w) X.A (call (.builtin id) (v::us)) (EP X pins σ Q) X.xe s
variable{o:QB}{apos cpos:Pos}
section
variable{a b:QB}{ta tb:TE}
def IxR.or{r r':R2}(h:IxR X r)(h':IxR X r'):IxR X (fun x y H Q=>r x y H Q\/r' x y H Q):=by
 intro value slice pins s σ H x y v u Q I rx ry q hs;rcases q with q|q;exact h value slice pins s σ H x y v u Q I rx ry q hs;exact h' value slice pins s σ H x y v u Q I rx ry q hs
def N0{r:R2}(hr:IxR X r)(ha:PE X a ta)(hb:PE X b tb)(hs:vC b):PE X (.Subscript a b pos) (tOp r ta tb):=by
 intro pins s σ H Q I h;exact Subscript_ (OY ha hb I h fun v u s2 x y H2 I2 rx ry q=>hr a b pins s2 σ H2 x y v u Q I2 rx ry q (hs _ _))
def Qe(K:Q1):R2:=fun x y H Q=>∃p xs i v,x=.ref p/\y=.int i/\SqL K H p xs/\atI xs i=some v/\Q v H
def Qd(K:Q1):R2:=fun x y H Q=>∃p xs i v,x=.ref p/\y=.int i/\SqT K H p xs/\atI xs i=some v/\Q v H
def HL:IxR X (Qe X.K):=by
 intro value slice pins s σ H x y v u Q I rx ry h hs;obtain⟨p,xs,i,z,rfl,rfl,hq,he,q⟩:=h;cases rx;obtain⟨t,rfl⟩:=ry;obtain⟨its,r,pl,hz⟩:=I.list hq;obtain⟨j,h1,h2,h3,h4,h5⟩:=Bw he;obtain⟨w,ew,rw'⟩:=r.get h2;have hl:=r.length;have hn:=wA;have fin:EP X pins σ Q w s:=⟨z,H,I,rw',q⟩;by_cases h0:0<=i;have hj:i.toNat=j:=by
  rw[seqIndex_of h0 h5]at h1;exact Option.some.inj h1
 exact item_listR pl.isList h0 (by omega) (by rw[hj];simpa using ew) fin hs
 ·have hj:(i+(its.toArray.size:Int)).toNat=j:=by
   rw[seqIndex_neg (by omega) h4]at h1;rw[QR,<-hl];exact Option.some.inj h1
  exact subscriptTail_builtinR (x:=w) pl.isList.typeIs slot_list_getitem.lookup
   (wpAny_getItem_list_neg (Q:=fun r s'=>r=w/\EP X pins σ Q r s') pl.isList (by omega) (by rw[QR]<;>omega) (by omega) (by rw[hj];simpa using ew) ⟨rfl,fin⟩) hs
def Lu:IxR X (Qd X.K):=by
 intro value slice pins s σ H x y v u Q I rx ry h hs;obtain⟨p,xs,i,z,rfl,rfl,hq,he,q⟩:=h;cases rx;obtain⟨t,rfl⟩:=ry;obtain⟨its,r,pl,hz⟩:=I.tuple hq;obtain⟨j,h1,h2,h3,h4,h5⟩:=Bw he;obtain⟨w,ew,rw'⟩:=r.get h2;have hl:=r.length;have hn:=wA;have fin:EP X pins σ Q w s:=⟨z,H,I,rw',q⟩;exact subscriptTail_builtinR (x:=w) pl.typeIs slot_tuple_getitem.lookup
  (getItem_tuple (j:=j) (Q:=fun r s'=>r=w/\EP X pins σ Q r s') pl (by omega) (by omega) (by rw[QR,<-hl];exact h1) (by simpa using ew) ⟨rfl,fin⟩) hs
def xS(its:List Q2)(n j:Nat)(u:Q2):Obj.mapSeq (·.setIfInBounds j u) { cls:=.type "list",data:=.seq its.toArray n }={ cls:=.type "list",data:=.seq (its.set j u).toArray n }:=by
 simp[Obj.mapSeq]
def Inv.lst{pins:List (Addr×Obj)}{σ:St}{H:Hp}{s:Q3}{p:Addr}{xs:List V}(I:Inv X pins σ H s)(h:H p=some (.lst xs)) :
  ∃(its:List Q2) (n:Nat),bX xs its/\s.heap.get? p=some { cls:=.type "list",data:=.seq its.toArray n }/\xs.length<=QD:=by
 obtain⟨z,its,n,r,e⟩:=I.hok p _ h;exact⟨its,n,r,e,z⟩
def Inv.lstUpd{pins:List (Addr×Obj)}{σ:St}{H:Hp}{s:Q3}{p:Addr}{xs ys:List V}{its its':List Q2}{n n':Nat}{f:Obj->Obj}(I:Inv X pins σ H s)(h:H p=some (.lst xs))
  (ho:s.heap.get? p=some { cls:=.type "list",data:=.seq its.toArray n }) (hf:f { cls:=.type "list",data:=.seq its.toArray n }={ cls:=.type "list",data:=.seq its'.toArray n' }) (r:bX ys its') (hz:ys.length<=QD) (t:Nat) :
  Inv X pins σ (upd H p (.lst ys)) { s with heap:=s.heap.update p f,toks:=t }:=by
 have e:(s.heap.update p f).get? p=some { cls:=.type "list",data:=.seq its'.toArray n' }:=by
  rw[Heap.get?_update_self f ho (by rw[hf]<;>rfl),hf]
 refine I.write (x:=p) (e:=p) (by rw[h];trivial) (.inl rfl) (fun b u hb q=>(Heap.get?_update_other _ _ (Ne.symm hb)).trans q) ⟨_,e⟩ ?_;exact⟨hz,its',n',r,e⟩
def NM:V->V->V->Hp->(Hp->Prop)->Prop:=fun o i v H Q=>∃p xs k j,o=.ref p/\i=.int k/\H p=some (.lst xs)/\ixN xs.length k=some j/\Q (upd H p (.lst (xs.set j v)))
def Cr:O2 X NM:=by
 intro pins s σ H o i v ov iv u Q I ro ri rv h;obtain⟨p,xs,k,j,rfl,rfl,hp,hj,q⟩:=h;cases ro;obtain⟨t,rfl⟩:=ri;obtain⟨its,n,r,ho,hz⟩:=I.lst hp;obtain⟨h1,h2,h3,h4⟩:=Aw hj;have hl:=r.length;have hn:=wA;have I':Inv X pins σ (upd H p (.lst (xs.set j v))) { s with heap:=s.heap.update p (Obj.mapSeq (·.setIfInBounds j u)) }:=
  I.lstUpd hp ho (xS its n j u) (r.set rv j) (by rw[Qs];exact hz) s.toks
 by_cases h0:0<=k;have hk:k.toNat=j:=by
  rw[seqIndex_of h0 h4]at h1;exact Option.some.inj h1
 exact PySem.W.ki_setAt ho h0 (by omega) (by rw[QR,<-hl];exact h4) (by rw[hk];exact⟨_,I',q⟩);have hk:(k+(its.toArray.size:Int)).toNat=j:=by
  rw[seqIndex_neg (by omega) h3]at h1;rw[QR,<-hl];exact Option.some.inj h1
 exact PySem.W.ki_setBack ho (by omega) (by rw[QR,<-hl];exact h3) (by omega) (by rw[hk];exact⟨_,I',q⟩)
def sF(lo hi:Option Int)(n:Nat):(sliceBounds lo hi none n).1=((HT.sIx n 0 lo:Nat):Int)/\(sliceBounds lo hi none n).2.1=((HT.sIx n n hi:Nat):Int)/\(sliceBounds lo hi none n).2.2=1:=by
 refine⟨?_,?_,rfl⟩
 ·cases lo with
  |none=>simp[sliceBounds,HT.sIx]
  |some i=>
   simp only[sliceBounds,HT.sIx,Option.getD_none,show(1:Int)>0 by decide,if_true];by_cases h:i<0
   ·simp only[h,if_true]<;>omega
   ·simp only[h,if_false]<;>omega
 ·cases hi with
  |none=>simp[sliceBounds,HT.sIx]
  |some i=>
   simp only[sliceBounds,HT.sIx,Option.getD_none,show(1:Int)>0 by decide,if_true];by_cases h:i<0
   ·simp only[h,if_true]<;>omega
   ·simp only[h,if_false]<;>omega
def qi(its:List Q2)(lo hi:Option Int):slicePick its.toArray lo hi none=((its.drop (HT.sIx its.length 0 lo)).take (HT.sIx its.length its.length hi-HT.sIx its.length 0 lo)).toArray:=by
 obtain⟨h1,h2,h3⟩:=sF lo hi its.toArray.size;unfold slicePick;rw[h1,h2,h3];simp only[sliceRange_one,pick_run,QR]<;>rfl
def Qc(K:Q1):V->Option Int->Option Int->Hp->VK->Prop:=fun x lo hi H Q=>∃a xs,x=.ref a/\SqL K H a xs/\∀p,H p=none->Q (.ref p) (upd H p (.lst (Fl xs lo hi)))
def GD:SlR X (Qc X.K):=by
 intro pins s σ H x v vl vu lo hi sl Q I rx hs pl pu h;obtain⟨a,xs,rfl,hx,q⟩:=h;cases rx;obtain⟨its,r,ht,hz⟩:=I.list hx;have hlen:=r.length;refine⟨"list",_,slot_list_getitem.lookup,ht.isList.typeIs,?_⟩;refine wpAny_getItem_list_slice ht.isList hs pl pu .none (by simp) ?_ (by rw[QR]<;>omega);rw[qi,<-hlen];refine⟨.ref s.heap.objs.size,_,I.laid (t':=s.toks) (o:=.lst (Fl xs lo hi)) (fun b ob q=>Q6 _ q) (Q7 _) ?_,rfl,q _ (I.hok.fresh (Q7 _))⟩;exact⟨ZQ (oh xs lo hi) hz,_,0,(r.drop (HT.sIx xs.length 0 lo)).take (HT.sIx xs.length xs.length hi-HT.sIx xs.length 0 lo),Qv _ rfl⟩
def oQ:V->Bool
 |.non=>true
 |.bl _=>true
 |.int _=>true
 |.str _=>true
 |_=>false
def eqV:V->V->Bool
 |.non,.non=>true
 |.bl a,.bl b=>a == b
 |.bl a,.int b=>(if a then 1 else 0) == b
 |.int a,.bl b=>a == (if b then 1 else 0)
 |.int a,.int b=>a == b
 |.str a,.str b=>a == b
 |_,_=>false
def LL{A:Z9}{s:Q3}{y x:V}{u v:Q2}(ry:cI y u)(rx:cI x v)(fy:oQ y=true)(fx:oQ x=true):SeqAt.EqAt A s u v (eqV y x):=by
 cases y with
 |non=>
  cases ry;cases x with
  |non=>cases rx;exact SeqAt.EqAt.same _
  |bl b=>cases rx;exact SeqAt.EqAt.none_bool b
  |int b=>obtain⟨t,rfl⟩:=rx;exact SeqAt.EqAt.none_int b t
  |str b=>obtain⟨t,rfl⟩:=rx;exact SeqAt.EqAt.none_str b t
  |_=>exact absurd (show false=true from fx) QZ
 |bl a=>
  cases ry;cases x with
  |non=>cases rx;exact SeqAt.EqAt.bool_none a
  |bl b=>cases rx;exact SeqAt.EqAt.bool_bool a b
  |int b=>obtain⟨t,rfl⟩:=rx;exact SeqAt.EqAt.bool_int a b t
  |str b=>obtain⟨t,rfl⟩:=rx;exact SeqAt.EqAt.bool_str a b t
  |_=>exact absurd (show false=true from fx) QZ
 |int a=>
  obtain⟨t',rfl⟩:=ry;cases x with
  |non=>cases rx;exact SeqAt.EqAt.int_none a t'
  |bl b=>cases rx;exact SeqAt.EqAt.int_bool a t' b
  |int b=>obtain⟨t,rfl⟩:=rx;exact SeqAt.EqAt.int_int a t' b t
  |str b=>obtain⟨t,rfl⟩:=rx;exact SeqAt.EqAt.int_str a t' b t
  |_=>exact absurd (show false=true from fx) QZ
 |str a=>
  obtain⟨t',rfl⟩:=ry;cases x with
  |non=>cases rx;exact SeqAt.EqAt.str_none a t'
  |bl b=>cases rx;exact SeqAt.EqAt.str_bool a t' b
  |int b=>obtain⟨t,rfl⟩:=rx;exact SeqAt.EqAt.str_int a t' b t
  |str b=>obtain⟨t,rfl⟩:=rx;exact SeqAt.EqAt.str_str a t' b t
  |_=>exact absurd (show false=true from fx) QZ
 |_=>exact absurd (show false=true from fy) QZ
def eqU(x:V)(u:Q2):Bool:=match u with
 |.none=>eqV .non x
 |.bool b=>eqV (.bl b) x
 |.int i _=>eqV (.int i) x
 |.str z _=>eqV (.str z) x
 |_=>false
def Fc{x y:V}{u:Q2}(r:cI y u)(f:oQ y=true):eqU x u=eqV y x:=by
 cases y with
 |non=>cases r;rfl
 |bl b=>cases r;rfl
 |int i=>obtain⟨t,rfl⟩:=r;rfl
 |str z=>obtain⟨t,rfl⟩:=r;rfl
 |_=>exact absurd (show false=true from f) QZ
def oo{x:V}:∀{xs:List V} {us:List Q2},bX xs us->xs.all oQ=true->us.any (eqU x)=xs.any fun y=>eqV y x
 |_,_,.nil,_=>rfl
 |y::xs,u::us,.cons r t,f=>by
  rw[List.all_cons,Zo]at f;rw[Zf,Zf,Fc r f.1,oo t f.2]
def j9{A:Z9}{s:Q3}{x:V}{v:Q2}(rx:cI x v)(fx:oQ x=true):∀{xs:List V} {us:List Q2},bX xs us->xs.all oQ=true->∀u∈us,SeqAt.EqAt A s u v (eqU x u)
 |_,_,.nil,_=>fun u hu=>by cases hu
 |y::xs,u::us,.cons r t,f=>fun u' hu=>by
  rw[List.all_cons,Zo]at f;rcases Qz.mp hu with rfl|hu;rw[Fc r f.1];exact LL r rx f.1 fx;exact j9 rx fx t f.2 u' hu
def inV(x:V)(xs:List V):Bool:=xs.any fun y=>eqV y x
def rIn(K:Q1)(neg:Bool):R2:=fun x y H Q=>∃p xs,y=.ref p/\(SqL K H p xs\/SqT K H p xs)/\oQ x=true/\xs.all oQ=true/\Q (.bl (if neg then !inV x xs else inV x xs)) H
def sU:OpR X (compareOp .In) (rIn X.K false):=by
 intro pins s σ H x y v u Q I rx ry h;obtain⟨p,xs,rfl,hq,fx,fs,q⟩:=h;cases ry;rcases hq with hq|hq;obtain⟨its,r,pl,hz⟩:=I.list hq;refine SeqAt.in_listAt (eqU x) pl.isList (fun w hw=>j9 rx fx r fs w (by simpa using hw)) ⟨.bl _,H,I,rfl,?_⟩;rw[show its.toArray.any (eqU x)=its.any (eqU x)by simp,oo r fs];exact q;obtain⟨its,r,pl,hz⟩:=I.tuple hq;refine SeqAt.in_tupleAt (eqU x) pl (fun w hw=>j9 rx fx r fs w (by simpa using hw)) ⟨.bl _,H,I,rfl,?_⟩;rw[show its.toArray.any (eqU x)=its.any (eqU x)by simp,oo r fs];exact q
def sS:OpR X (compareOp .NotIn) (rIn X.K true):=by
 intro pins s σ H x y v u Q I rx ry h;obtain⟨p,xs,rfl,hq,fx,fs,q⟩:=h;cases ry;rcases hq with hq|hq;obtain⟨its,r,pl,hz⟩:=I.list hq;refine SeqAt.notIn_listAt (eqU x) pl.isList (fun w hw=>j9 rx fx r fs w (by simpa using hw)) ⟨.bl _,H,I,rfl,?_⟩;rw[show its.toArray.any (eqU x)=its.any (eqU x)by simp,oo r fs];exact q;obtain⟨its,r,pl,hz⟩:=I.tuple hq;refine SeqAt.notIn_tupleAt (eqU x) pl (fun w hw=>j9 rx fx r fs w (by simpa using hw)) ⟨.bl _,H,I,rfl,?_⟩;rw[show its.toArray.any (eqU x)=its.any (eqU x)by simp,oo r fs];exact q
def uf:gU X (.builtin "len") (fun xs H Q=>∃p ys,xs=[.ref p]/\(SqL X.K H p ys\/SqT X.K H p ys)/\Q (.int ys.length) H):=by
 intro pins s σ H xs us Q I r h;obtain⟨p,ys,rfl,hq,q⟩:=h;obtain⟨u,rfl,rx⟩:=mL r;cases rx;have hn:=wA;rcases hq with hq|hq
 ·obtain⟨its,r',pl,hz⟩:=I.list hq;have hlen:=r'.length;exact Calls.call_len_list pl.isList (by simp only[QR]<;>omega) ⟨.int ys.length,H,I.tok _,⟨s.toks+1,by rw[QR,hlen]⟩,q⟩
 ·obtain⟨its,r',pl,hz⟩:=I.tuple hq;have hlen:=r'.length;exact len_tuple pl (by simp only[QR]<;>omega) ⟨.int ys.length,H,I.tok _,⟨s.toks+1,by rw[QR,hlen]⟩,q⟩
def gU.or{f:Q2}{r r':List V->Hp->VK->Prop}(h:gU X f r)(h':gU X f r'):gU X f (fun xs H Q=>r xs H Q\/r' xs H Q):=by
 intro pins s σ H xs us Q I rs q;rcases q with q|q;exact h pins s σ H xs us Q I rs q;exact h' pins s σ H xs us Q I rs q
def l8:gU X (.type "list") (fun xs H Q=>∃p ys,xs=[.ref p]/\(SqL X.K H p ys\/SqT X.K H p ys)/\∀l,H l=none->Q (.ref l) (upd H l (.lst ys))):=by
 intro pins s σ H xs us Q I r h;obtain⟨p,ys,rfl,hq,q⟩:=h;obtain⟨u,rfl,rx⟩:=mL r;cases rx;have fin:∀(its:List Q2),bX ys its->ys.length<=QD->∀(h':Heap) (c':Nat),(∀b o',s.heap.get? b=some o'->h'.get? b=some o')->
   h'.get? s.heap.objs.size=some { cls:=.type "list",dict:=none,data:=.seq its.toArray c',slots:=#[] }->EP X pins σ Q (.ref s.heap.objs.size) { s with heap:=h' }:=fun its r' hz h' c' kp e=>
  ⟨.ref s.heap.objs.size,_,I.laid (t':=s.toks) kp (Q7 _) (show eF X.prog X.w _ h' _ (.lst ys)from⟨hz,its,c',r',e⟩),rfl,q _ (I.hok.fresh (Q7 _))⟩
 rcases hq with hq|hq
 ·obtain⟨its,r',pl,hz⟩:=I.list hq;have hlen:=r'.length;obtain⟨o,ho,hc,n,hd⟩:=pl.isList;exact call_list_seq p (.inl rfl) ho hc hd (fun h' c' kp e=>fin its r' hz h' c' kp e) (by simp only[QR]<;>omega)
 ·obtain⟨its,r',pl,hz⟩:=I.tuple hq;have hlen:=r'.length;obtain⟨o,ho,hc,n,hd⟩:=pl;exact call_list_seq p (.inr rfl) ho hc hd (fun h' c' kp e=>fin its r' hz h' c' kp e) (by simp only[QR]<;>omega)
def ik:gU X (.type "tuple") (fun xs H Q=>∃p ys,xs=[.ref p]/\((SqL X.K H p ys/\∀l,H l=none->Q (.ref l) (upd H l (.tup ys)))\/(SqT X.K H p ys/\Q (.ref p) H))):=by
 intro pins s σ H xs us Q I r h;obtain⟨p,ys,rfl,h⟩:=h;obtain⟨u,rfl,rx⟩:=mL r;cases rx;rcases h with⟨hq,q⟩|⟨hq,q⟩
 ·obtain⟨its,r',pl,hz⟩:=I.list hq;have hlen:=r'.length;refine call_tuple_list pl.isList (fun h' kp=>?_) (by simp only[QR]<;>omega);have I1:Inv X pins σ H { s with heap:=h' }:=I.kept (t':=s.toks) kp;have I2:Inv X pins σ (upd H h'.objs.size (.tup ys)) { s with heap:=h'.push { cls:=.type "tuple",data:=.seq its.toArray } }:=
   I1.laid (t':=s.toks) (fun b o e=>Q6 _ e) (Q7 _) (show eF X.prog X.w _ _ _ (.tup ys)from⟨hz,its,r',IsTup.new _ _⟩)
  exact⟨.ref h'.objs.size,_,I2,rfl,q _ (I1.hok.fresh (Q7 _))⟩
 obtain⟨its,r',pl,hz⟩:=I.tuple hq;exact call_tuple_same pl ⟨.ref p,H,I,rfl,q⟩
def tyV(K:Q1)(T:String)(x:V)(H:Hp):Prop:=match x with
 |.str _=>T="str"
 |.int _=>T="int"
 | .ref p=>(T="list"/\∃xs,SqL K H p xs)\/(T="tuple"/\∃o,K.lookup p=some o/\o.cls=.type "tuple"/\o.dict=none)\/
   (T="dict"/\((∃kvs,H p=some (.dK kvs))\/∃kvs,H p=some (.dT kvs)))\/(T="set"/\∃S n,H p=some (.set S n))
 |_=>False
def JJ{pins:List (Addr×Obj)}{σ:St}{H:Hp}{s:Q3}{T:String}{x:V}{v:Q2}(I:Inv X pins σ H s)(r:cI x v)(ty:tyV X.K T x H) :
  s.TypeIs v T/\∀a,v=.ref a->∃ob,s.heap.get? a=some ob/\ob.dict=none:=by
 cases x with
 |str z=>
  obtain⟨t,rfl⟩:=r;cases (show T="str" from ty);exact⟨typeIs_str s z t,fun _ e=>nomatch e⟩
 |int i=>
  obtain⟨t,rfl⟩:=r;cases (show T="int" from ty);exact⟨typeIs_int s i t,fun _ e=>nomatch e⟩
 |ref p=>
  cases r;rcases ty with⟨rfl,xs,hq⟩|⟨rfl,o,hk,hc,hd⟩|⟨rfl,hk⟩|⟨rfl,S,n,hk⟩;obtain⟨its,_,pl,_⟩:=I.list hq;refine⟨pl.isList.typeIs,fun a e=>?_⟩;cases e;obtain⟨o,n,e,c,hd,_⟩:=pl;exact⟨o,e,hd⟩;refine⟨⟨o,I.kIn p o hk,hc⟩,fun a e=>?_⟩;cases e;exact⟨o,I.kIn _ o hk,hd⟩;have z:∃o,s.heap.get? p=some o/\o.ExactDict:=by
   rcases hk with⟨kvs,hk⟩|⟨kvs,hk⟩;obtain⟨_,_,_,_,o,_,_,e,ex,_⟩:=I.hok p _ hk;exact⟨o,e,ex⟩;obtain⟨_,_,_,_,o,_,_,e,ex,_⟩:=I.hok p _ hk;exact⟨o,e,ex⟩
  obtain⟨o,e,ex⟩:=z;refine⟨⟨o,e,ex.1⟩,fun a e2=>?_⟩;cases e2;exact⟨o,e,ex.2.1⟩;obtain⟨o,_,_,_,e,ex,_⟩:=I.hok p _ hk;refine⟨⟨o,e,ex.1⟩,fun a e2=>?_⟩;cases e2;exact⟨o,e,ex.2.1⟩
 |_=>exact False.elim ty
def tBM(K:Q1)(T:String)(r:V->List V->Hp->VK->Prop)(to:TE)(t:TA):TE:=fun σ H Q=>to σ H fun x H1=>tyV K T x H1/\t σ H1 fun xs H2=>r x xs H2 Q
variable{es:List QB}{to:TE}{t:TA}{name:Str}{T id:String}{r:V->List V->Hp->VK->Prop}
def N7(pa:PlainAttrs T)(slot:Slot T name id)(hty:typeOf (.builtin id)=pure (.type "method_descriptor"))(hm:MtR X id r)(ho:PE X o to)(ha:PA X (e::es) t)
  (hbase:attributeBase o name X.env (eval o X.env)=eval o X.env:=by rfl)
  (hfew:((ZD cpos (QJ (e::es) X.env)).all (fun x=>!x.1)&&(backToKw cpos (keywordEach [] X.env)).all (fun x=>x.1.isSome)
   && decide ((e::es).length+([]:List Keyword).length+(if ([]:List Keyword).isEmpty then 0 else 1)<30))=true:=by rfl)
  (hline:(apos.endLine == cpos.line)=true:=by rfl) (hs:QJ (e::es) X.env=(false,eval e X.env)::QJ es X.env:=by rfl) (hplain:(ZD cpos (QJ es X.env)).any (·.1)=false:=by rfl) :
  PE X (.Call (.Attribute o name apos) (e::es) [] cpos) (tBM X.K T r to t):=by
 intro pins s σ H Q I h;refine wpAny_Call_method_late hbase hfew hline rfl (thn (ho pins s σ H _ I h) fun v s1 hz=>?_);obtain⟨x,H1,I1,r1,ty,q1⟩:=hz;obtain⟨h1,h2⟩:=JJ I1 r1 ty;refine⟨T,id,pa,slot,hty,h1,h2,?_⟩;have hA:=ha cpos pins s1 σ H1 _ I1 q1;rw[hs]at hA ⊢;refine Calls.callWith_builtin (by show(false||(ZD cpos (QJ es X.env)).any (·.1))=false;rw[hplain]<;>rfl) (Calls.evalArgs_plain ?_);exact thn hA fun us s2 ⟨vs,H2,I2,r2,q2⟩=>hm pins s2 σ H2 x vs v us Q I2 r1 r2 q2
end
def MtM(X:Cx)(id:String)(r:V->List V->Hp->VK->Prop):Prop:=
 ∀(pins:List (Addr×Obj)) (s:Q3) (σ:St) (H:Hp) (x:V) (xs:List V) (v:Q2) (us:List Q2) (Q:VK),Inv X pins σ H s->cI x v->bX xs us->r x xs H Q->
  wpAny (Qy X.prog X.w) X.A (call (.builtin id) (v::us)) (EP X pins σ Q) X.xe s
def bX.one:∀{x:V} {us:List Q2},bX [x] us->∃u,us=[u]/\cI x u
 |_,_,.cons r .nil=>⟨_,rfl,r⟩
def bX.eraseIdx:∀{xs:List V} {us:List Q2} (i:Nat),bX xs us->bX (xs.eraseIdx i) (us.eraseIdx i)
 |_,_,_,.nil=>.nil
 |_,_,0,.cons _ t=>t
 |_,_,i+1,.cons r t=>.cons r (bX.eraseIdx i t)
def bX.rep{xs:List V}{us:List Q2}(h:bX xs us):∀k:Nat,bX (QX k xs).flatten (QX k us).flatten
 |0=>.nil
 |k+1=>by
  rw[Zm,Zm,X5,X5];exact bX.append h (bX.rep h k)
def sY{α:Type}:∀(l:List α) (i:Nat),(l.eraseIdx i).length<=l.length
 |[],_=>Q7 _
 |_::_,0=>X7 _
 |_::r,i+1=>Nat.succ_le_succ (sY r i)
def n4(its:List Q2):∀(k:Nat) (acc:List Q2),
  List.foldl (fun x1 x2=>x1++x2) acc.toArray (QX k its.toArray)=(acc++(QX k its).flatten).toArray
 |0,acc=>by simp
 |k+1,acc=>by
  have e:acc.toArray++its.toArray=(acc++its).toArray:=by simp
  have e2:(acc++its)++(QX k its).flatten=acc++(QX (k+1) its).flatten:=by
   rw[Zm,X5,Qw]
  rw[<-e2,<-n4 its k (acc++its),<-e,Zm,List.foldl_cons]
variable{pins:List (Addr×Obj)}{σ:St}{H:Hp}{s:Q3}
section
variable{l:Addr}{xs ys:List V}
def Inv.lset{its its':List Q2}{n:Nat}{f:Array Q2->Array Q2}{t':Nat}(I:Inv X pins σ H s)(hH:H l=some (.lst xs))
  (e:s.heap.get? l=some { cls:=.type "list",data:=.seq its.toArray n }) (hf:f its.toArray=its'.toArray) (hv:bX ys its') (hz:ys.length<=QD) :
  Inv X pins σ (upd H l (.lst ys)) { s with heap:=s.heap.update l (Obj.mapSeq f),toks:=t' }:=by
 have q:=PySem.IsL.update e f;rw[hf]at q;refine I.write (x:=l) (e:=l) (by rw[hH];exact trivial) (.inl rfl) (fun b' u hb hu=>(Heap.get?_update_other s.heap (Obj.mapSeq f) (Ne.symm hb)).trans hu) ⟨_,q⟩ ?_;exact⟨hz,its',_,hv,q⟩
def Inv.lnew{its:List Q2}{t':Nat}(I:Inv X pins σ H s)(hv:bX ys its)(hz:ys.length<=QD) :
  Inv X pins σ (upd H s.heap.objs.size (.lst ys)) { s with heap:=s.heap.push { cls:=.type "list",data:=.seq its.toArray },toks:=t' }:=
 I.laid (fun _ _ q=>Q6 _ q) (Q7 _) ⟨hz,its,0,hv,Qv _ rfl⟩
def Inv.fresh(I:Inv X pins σ H s):H s.heap.objs.size=none:=I.hok.fresh (Q7 _)
def Inv.lstM(I:Inv X pins σ H s)(hH:H l=some (.lst xs)):xs.length<=QD/\∃(its:List Q2) (n:Nat),bX xs its/\xs.length=its.length/\s.heap.get? l=some { cls:=.type "list",data:=.seq its.toArray n }:=by
 obtain⟨z,its,n,r,e⟩:=I.hok l _ hH;exact⟨z,its,n,r,r.length,e⟩
def wo{n:Nat}(h:n<=QD):Builtin.List.listTooLong n=false:=by
 unfold Builtin.List.listTooLong;exact XZ (by omega)
end
def zx:V->List V->Hp->VK->Prop:=fun x vs H Q=>∃l xs y,x=.ref l/\vs=[y]/\H l=some (.lst xs)/\xs.length<QD/\Q .non (upd H l (.lst (xs++[y])))
def nQ:MtM X "list.append" zx:=by
 intro pins s σ H x vs v us Q I rx rv h;obtain⟨l,xs,y,rfl,rfl,hH,hz,q⟩:=h;cases rx;obtain⟨u,rfl,ru⟩:=rv.one;obtain⟨z,its,n,r,hl,e⟩:=I.lstM hH;refine call_meets F.slot_list_append ⟨_,e,rfl⟩ F.entry_list_append (F.args_list_append_2 _ _) (PySem.list_append l its.toArray n u (by rw[QR];omega)) ⟨e,?_⟩;refine⟨.non,_,I.lset (its':=its++[u]) hH e (by simp) (r.append (.cons ru .nil)) ?_,rfl,q⟩;rw[QH,X0];omega
def zw:V->List V->Hp->VK->Prop:=fun x vs H Q=>∃l b xs zs,x=.ref l/\vs=[.ref b]/\H l=some (.lst xs)/\H b=some (.lst zs)/\xs.length+zs.length<=QD/\Q .non (upd H l (.lst (xs++zs)))
def z8:MtM X "list.extend" zw:=by
 intro pins s σ H x vs v us Q I rx rv h;obtain⟨l,b,xs,zs,rfl,rfl,hH,hB,hz,q⟩:=h;cases rx;obtain⟨u,rfl,ru⟩:=rv.one;cases ru;obtain⟨z,its,n,r,hl,e⟩:=I.lstM hH;obtain⟨z2,its2,n2,r2,hl2,e2⟩:=I.lstM hB;have hsz:its.toArray.size+its2.toArray.size<=QD:=by rw[QR,QR];omega
 have hlong:¬(!its.toArray.isEmpty&&Builtin.List.listTooLong (its.toArray.size+its2.toArray.size))=true:=by
  rw[wo hsz,Bool.and_false];exact QZ
 refine call_meets F.slot_list_extend ⟨_,e,rfl⟩ F.entry_list_extend (F.args_list_extend_2 _ _)
  (AutoSeq1.list_extend_list_list_0 l its.toArray n b its2.toArray n2 hlong (by rw[QR];omega) (by omega)) ⟨e,e2,?_⟩
 refine⟨.non,_,I.lset (its':=its++its2) hH e (by simp) (r.append r2) ?_,rfl,q⟩;rw[QH];omega
def EO:V->List V->Hp->VK->Prop:=fun x vs H Q=>∃l xs i k y,x=.ref l/\vs=[.int i]/\H l=some (.lst xs)/\-(2^63)<=i/\i<2^63/\seqIndex? i xs.length=some k/\xs[k]?=some y/\Q y (upd H l (.lst (xs.eraseIdx k)))
def Dk:MtM X "list.pop" EO:=by
 intro pins s σ H x vs v us Q I rx rv h;obtain⟨l,xs,i,k,y,rfl,rfl,hH,h1,h2,hk,hy,q⟩:=h;cases rx;obtain⟨u,rfl,ru⟩:=rv.one;obtain⟨t,rfl⟩:=ru;obtain⟨z,its,n,r,hl,e⟩:=I.lstM hH;obtain⟨w,hw,rw'⟩:=r.get hy;refine call_meets F.slot_list_pop ⟨_,e,rfl⟩ F.entry_list_pop (F.args_list_pop_2 _ _)
  (MeetsSeq.list_pop_at l its.toArray n i t k w (fitsIndex_both h1 h2) (by rw[QR,<-hl];exact hk) (by rw[<-Array.getElem?_toList];exact hw) (by rw[QR];omega)) ⟨e,?_⟩
 refine⟨y,_,I.lset (its':=its.eraseIdx k) hH e ?_ (r.eraseIdx k) ?_,rw',q⟩;show its.toArray.eraseIdxIfInBounds k=(its.eraseIdx k).toArray;rw[List.eraseIdxIfInBounds_toArray];have:=sY xs k;omega
def Ml:R2:=fun x y H Q=>∃l b xs zs,x=.ref l/\y=.ref b/\H l=some (.lst xs)/\H b=some (.lst zs)/\xs.length+zs.length<=QD/\∀p,H p=none->Q (.ref p) (upd H p (.lst (xs++zs)))
def K1:OpR X (binaryOp .Add) Ml:=by
 intro pins s σ H x y v u Q I rx ry h;obtain⟨l,b,xs,zs,rfl,rfl,hH,hB,hz,q⟩:=h;cases rx;cases ry;obtain⟨z,its,n,r,hl,e⟩:=I.lstM hH;obtain⟨z2,its2,n2,r2,hl2,e2⟩:=I.lstM hB;refine PySem.P.add_list e e2 ?_ (by rw[QR,QR];omega);have ea:its.toArray++its2.toArray=(its++its2).toArray:=by simp
 rw[ea];exact⟨.ref _,_,I.lnew (t':=s.toks) (r.append r2) (by rw[QH];omega),rfl,q _ I.fresh⟩
def NN:R2:=fun x y H Q=>∃l k xs,x=.ref l/\y=.int k/\H l=some (.lst xs)/\-(2^63)<=k/\k<2^63/\xs.length*k.toNat<=QD/\
 ∀p,H p=none->Q (.ref p) (upd H p (.lst (QX k.toNat xs).flatten))
def uZ{α:Type}(xs:List α)(k:Nat):(QX k xs).flatten.length=k*xs.length:=by
 induction k with
 |zero=>simp
 |succ k ih=>rw[Zm,X5,QH,ih,Nat.succ_mul,Nat.add_comm]
def KW:OpR X (binaryOp .Mult) NN:=by
 intro pins s σ H x y v u Q I rx ry h;obtain⟨l,k,xs,rfl,rfl,hH,h1,h2,hz,q⟩:=h;cases rx;obtain⟨t,rfl⟩:=ry;obtain⟨z,its,n,r,hl,e⟩:=I.lstM hH;have hlen:its.toArray.size*k.toNat<=QD:=by rw[QR,<-hl];exact hz
 have hcap:¬its.toArray.size*k.toNat>(2^63-1) / 8:=by
  have:(QD:Nat)<=(2^63-1) / 8:=by decide
  omega
 have hfit:¬(!Builtin.List.listFitsIndex k)=true:=by
  rw[fitsIndex_both h1 h2];exact QZ
 have hlong:¬Builtin.List.listTooLong (its.toArray.size*k.toNat)=true:=by
  rw[wo hlen];exact QZ
 have hnew:List.foldl (fun x1 x2=>x1++x2) #[] (QX (if its.toArray.isEmpty=true then 0 else k.toNat) its.toArray)=(QX k.toNat its).flatten.toArray:=by
  have f0:∀m:Nat,List.foldl (fun x1 x2=>x1++x2) #[] (QX m its.toArray)=(QX m its).flatten.toArray:=fun m=>by
   have:=n4 its m [];rw[Zq]at this;exact this
  rw[f0];cases its with
  |nil=>simp
  |cons a r'=>rw[XQ (by simp)]
 refine wpAny_binaryOp_repeat_ref (T:="list") (U:="int") (by decide) ⟨_,e,rfl⟩ (fun s'=>typeIs_int s' k t) noFill_list_mul F.fills_int_mul F.slot_int_rmul repeat_list F.slot_int_index.lookup
  (call_meets F.slot_int_rmul (typeIs_int s k t) F.entry_int_rmul (F.args_int_rmul_2 _ _) (int___rmul___int_list k t l its.toArray n)
   ⟨e,rfl,⟨_,e,rfl⟩,call_meets F.slot_list_mul ⟨_,e,rfl⟩ F.entry_list_mul (F.args_list_mul_2 _ _) (AutoListH.list___mul___list_int_3 l its.toArray n k t hfit hcap hlong) ⟨e,?_⟩⟩)
 rw[hnew];exact⟨.ref _,_,I.lnew (t':=s.toks) (r.rep k.toNat) (by rw[uZ,Nat.mul_comm];exact hz),rfl,q _ I.fresh⟩
section
variable{κ:Type}[DecidableEq κ]
def jg(kvs:List (κ×V))(k:κ):Option V:=(kvs.find? fun kv=>decide (kv.1=k)).map (·.2)
def rO(kvs:List (κ×V))(k:κ)(v:V):List (κ×V):=
 if (kvs.any fun kv=>decide (kv.1=k))=true then kvs.map (fun kv=>if kv.1=k then(kv.1,v)else kv)else kvs++[(k,v)]
def qZ(kvs:List (κ×V))(k:κ):List (κ×V):=kvs.filter fun kv=>decide (kv.1≠k)
def dR{p:κ×V}{r:List (κ×V)}{k:κ}(e:p.1=k):jg (p::r) k=some p.2:=by simp[jg,ZX,e]
def dS{p:κ×V}{r:List (κ×V)}{k:κ}(e:¬p.1=k):jg (p::r) k=jg r k:=by simp[jg,ZX,e]
def mw(k:κ):∀kvs:List (κ×V),(kvs.any fun kv=>decide (kv.1=k))=(jg kvs k).isSome
 |[]=>rfl
 |p::r=>by
  rw[Zf];by_cases e:p.1=k;simp only[dR e,XX e,Bool.true_or,Option.isSome_some];rw[dS e,XZ e,Bool.false_or];exact mw k r
def vW(k j:κ)(y:V):∀kvs:List (κ×V),jg (kvs.map fun kv=>if kv.1=k then(kv.1,y)else kv) j=(jg kvs j).map fun x=>if j=k then y else x
 |[]=>rfl
 |p::r=>by
  have ih:=vW k j y r;rw[QU];by_cases h:p.1=k;rw[X9 h];by_cases e:p.1=j;rw[dR (p:=(p.1,y)) e,dR e,Zj,X9 (e.symm.trans h)];rw[dS (p:=(p.1,y)) e,dS e,ih];rw[XQ h];by_cases e:p.1=j;rw[dR (p:=p) e,dR e,Zj,XQ (fun z=>h (e.trans z))];rw[dS (p:=p) e,dS e,ih]
def rY(k j:κ)(y:V):∀kvs:List (κ×V),jg kvs k=none->jg (kvs++[(k,y)]) j=if j=k then some y else jg kvs j
 |[],_=>by
  by_cases e:k=j;rw[X9 e.symm];exact dR (p:=(k,y)) e;rw[XQ (fun z=>e z.symm)];exact dS (p:=(k,y)) e
 |p::r,hn=>by
  rw[Zw];have hk:¬p.1=k:=fun z=>by rw[dR z]at hn;cases hn
  rw[dS hk]at hn;have ih:=rY k j y r hn;by_cases e:p.1=j;rw[dR e,dR e,XQ (fun z=>hk (e.trans z))];rw[dS e,dS e,ih]
def Cj(kvs:List (κ×V))(k j:κ)(y:V):jg (rO kvs k y) j=if j=k then some y else jg kvs j:=by
 unfold rO;by_cases a:(kvs.any fun kv=>decide (kv.1=k))=true;rw[X9 a,vW];rw[mw]at a;by_cases e:j=k;obtain⟨x,hx⟩:=ZF.mp a;rw[X9 e,e,hx,Zj,X9 rfl];rw[XQ e];cases jg kvs j with
 |none=>rfl
 |some x=>rw[Zj,XQ e]
 rw[XQ a];refine rY k j y kvs ?_;rw[mw]at a;cases q:jg kvs k with
 |none=>rfl
 |some x=>rw[q]at a;exact(a rfl).elim
def nS(kvs:List (κ×V))(k:κ)(v:V):(rO kvs k v).length<=kvs.length+1:=by
 unfold rO;split;rw[Q9];omega;rw[QH,QK,Zk];omega
def rq.isSome_eq{o:Option V}{u:Option Q2}(r:rq o u):o.isSome=u.isSome:=by
 cases o with
 |none=>cases u with
  |none=>rfl
  |some _=>exact(show False from r).elim
 |some _=>cases u with
  |none=>exact(show False from r).elim
  |some _=>rfl
def rq.getD{o:Option V}{u:Option Q2}{d:V}{d':Q2}(r:rq o u)(rd:cI d d'):cI (o.getD d) (u.getD d'):=by
 cases o with
 |none=>cases u with
  |none=>exact rd
  |some _=>exact(show False from r).elim
 |some _=>cases u with
  |none=>exact(show False from r).elim
  |some _=>exact r
def KV.val{kvs:List (κ×V)}{vs:List (κ×Q2)}(r:KV kvs vs)(k:κ):rq (jg kvs k) (valueAt vs k):=by
 unfold KV at r;induction r with
 |nil=>exact True.intro
 |@cons p q ps qs h t ih=>
  obtain⟨h1,h2⟩:=h;by_cases e:p.1=k;have e':q.1=k:=h1.symm.trans e;have b:valueAt (q::qs) k=some q.2:=by simp[valueAt,ZX,e']
  rw[dR e,b];exact h2;have e':¬q.1=k:=fun z=>e (h1.trans z);have b:valueAt (q::qs) k=valueAt qs k:=by simp[valueAt,ZX,e']
  rw[dS e,b];exact ih
def KV.any{kvs:List (κ×V)}{vs:List (κ×Q2)}(r:KV kvs vs)(k:κ):(kvs.any fun kv=>decide (kv.1=k))=vs.any fun kv=>decide (kv.1=k):=by
 unfold KV at r;induction r with
 |nil=>rfl
 |cons h t ih=>rw[Zf,Zf,ih,h.1]
def KV.repl{kvs:List (κ×V)}{vs:List (κ×Q2)}(r:KV kvs vs)(k:κ){y:V}{u:Q2}(ry:cI y u) :
  KV (kvs.map fun kv=>if kv.1=k then(kv.1,y)else kv) (vs.map fun kv=>if kv.1=k then(kv.1,u)else kv):=by
 unfold KV at r ⊢;induction r with
 |nil=>exact .nil
 |@cons p q ps qs h t ih=>
  rw[QU,QU];refine .cons ?_ ih;obtain⟨h1,h2⟩:=h;by_cases e:p.1=k;rw[X9 e,X9 (h1.symm.trans e)];exact⟨h1,ry⟩;rw[XQ e,XQ (fun z=>e (h1.trans z))];exact⟨h1,h2⟩
def KV.put{kvs:List (κ×V)}{vs:List (κ×Q2)}(r:KV kvs vs)(k:κ){y:V}{u:Q2}(ry:cI y u):KV (rO kvs k y) (stored vs k u):=by
 unfold rO stored;rw[r.any k];by_cases e:(vs.any fun kv=>decide (kv.1=k))=true;rw[X9 e,X9 e];exact r.repl k ry;rw[XQ e,XQ e];exact Paired.snoc r ⟨rfl,ry⟩
def KV.drop{kvs:List (κ×V)}{vs:List (κ×Q2)}(r:KV kvs vs)(k:κ):KV (qZ kvs k) (without vs k):=by
 unfold KV at r ⊢;unfold qZ without;induction r with
 |nil=>exact .nil
 |@cons p q ps qs h t ih=>
  obtain⟨h1,h2⟩:=h;rw[List.filter_cons,List.filter_cons];by_cases e:p.1=k;have a:¬decide (p.1≠k)=true:=by simp[e]
  have b:¬decide (q.1≠k)=true:=by simp[h1.symm.trans e]
  rw[XQ a,XQ b];exact ih;have e':¬q.1=k:=fun z=>e (h1.trans z);have a:decide (p.1≠k)=true:=by simp[e]
  have b:decide (q.1≠k)=true:=by simp[e']
  rw[X9 a,X9 b];exact .cons ⟨h1,h2⟩ ih
def KV.length{kvs:List (κ×V)}{vs:List (κ×Q2)}(r:KV kvs vs):kvs.length=vs.length:=Paired.length r
def D1(kvs:List (κ×V))(k:κ):(qZ kvs k).length<=kvs.length:=List.length_filter_le _ _
end
def u9{P:Qx}{w:Z7}{k:Key}{u:Q2}(r:cI (kV k) u):(cH P w).is k u=true:=by
 cases k with
 |inl i=>obtain⟨t,e⟩:=(show ∃t,u=Value.int i t from r);subst e;exact uY P w i t
 |inr x=>obtain⟨t,e⟩:=(show ∃t,u=Value.str x t from r);subst e;exact uX P w x t
def tq{P:Qx}{w:Z7}:∀{ks:List Key} {us:List Q2},bX (ks.map kV) us->ItemsAre (cH P w) ks us
 |[],_,r=>by rw[Zv]at r;cases r;exact .nil
 |k::ks,_,r=>by
  rw[QU]at r;cases r with
  |cons h t=>exact .cons (u9 h) (tq t)
abbrev KT(H:Hp):List (List Key×V)->List (List Key×Addr×Q2)->Prop:=Paired fun p q=>p.1=q.1/\H q.2.1=some (.tup (p.1.map kV))/\cI p.2 q.2.2
def KT.val{H:Hp}{kvs:List (List Key×V)}{xs:List (List Key×Addr×Q2)}(r:KT H kvs xs)(k:List Key):rq (jg kvs k) ((atKey xs k).map (·.2)):=by
 induction r with
 |nil=>exact True.intro
 |@cons p q ps qs h t ih=>
  obtain⟨h1,_,h2⟩:=h;by_cases e:p.1=k;have e':q.1=k:=h1.symm.trans e;have b:atKey (q::qs) k=some q.2:=by simp[atKey,ZX,e']
  rw[dR e,b];exact h2;have e':¬q.1=k:=fun z=>e (h1.trans z);have b:atKey (q::qs) k=atKey qs k:=by simp[atKey,ZX,e']
  rw[dS e,b];exact ih
def KT.repl{H:Hp}{kvs:List (List Key×V)}{xs:List (List Key×Addr×Q2)}(r:KT H kvs xs)(k:List Key){y:V}{u:Q2}(ry:cI y u) :
  KT H (kvs.map fun kv=>if kv.1=k then(kv.1,y)else kv) (xs.map (putAt k u)):=by
 induction r with
 |nil=>exact .nil
 |@cons p q ps qs h t ih=>
  rw[QU,QU];refine .cons ?_ ih;obtain⟨h1,h2,h3⟩:=h;unfold putAt;by_cases e:p.1=k;rw[X9 e,X9 (h1.symm.trans e)];exact⟨h1,h2,ry⟩;rw[XQ e,XQ (fun z=>e (h1.trans z))];exact⟨h1,h2,h3⟩
def KT.put{H:Hp}{kvs:List (List Key×V)}{xs:List (List Key×Addr×Q2)}(r:KT H kvs xs)(k:List Key){b:Addr}{y:V}{u:Q2}(hb:H b=some (.tup (k.map kV)))(ry:cI y u) :
  KT H (rO kvs k y) (storedH xs k b u):=by
 have e:(kvs.any fun kv=>decide (kv.1=k))=(atKey xs k).isSome:=by
  rw[mw,(r.val k).isSome_eq,Option.isSome_map]
 unfold rO storedH;rw[e];by_cases q:(atKey xs k).isSome=true;rw[X9 q,X9 q];exact r.repl k ry;rw[XQ q,XQ q];exact Paired.snoc r ⟨rfl,hb,ry⟩
def KT.keeps{H H':Hp}{kvs:List (List Key×V)}{xs:List (List Key×Addr×Q2)}(r:KT H kvs xs)(ht:∀b ys,H b=some (.tup ys)->H' b=some (.tup ys)):KT H' kvs xs:=
 Paired.mapP r fun _ _ z=>⟨z.1,ht _ _ z.2.1,z.2.2⟩
variable{a:Addr}
section
variable{P:Qx}{w:Z7}{h:Heap}
def J5{u:HO}(ok:HOk P w H h)(e:Rd H a u):eF P w H h a u:=e.ok ok
def t9{kvs:List (Key×V)}(ok:HOk P w H h)(e:Rd H a (.dK kvs)):kvs.length<=QD/\(a == sysModules)=false/\∃vs,KV kvs vs/\h.DictOf (cH P w) a vs:=
 show eF P w H h a (.dK kvs)from J5 ok e
def A8{kvs:List (Key×V)}(ok:HOk P w H h)(e:H a=some (.dK kvs)):kvs.length<=QD/\(a == sysModules)=false/\∃vs,KV kvs vs/\h.DictOf (cH P w) a vs:=t9 ok (.inl e)
def pS{ks:List Key}(ok:HOk P w H h)(e:H a=some (.tup (ks.map kV))):(tupleKind (cH P w)).is h ks a:=by
 obtain⟨_,its,r,o,h1,h2,n,h3⟩:=(show eF P w H h a (.tup (ks.map kV))from ok a _ e);exact⟨o,its.toArray,n,h1,h2,h3,by simpa using tq r⟩
def vo{kvs:List (List Key×V)}(ok:HOk P w H h)(e:Rd H a (.dT kvs)):kvs.length<=QD/\(a == sysModules)=false/\
  ∃xs,KT H kvs xs/\h.DictOfH (tupleKind (cH P w)) a xs:=by
 obtain⟨z,y,xs,r,o,es,ep,h1,h2,h3,h4,h5⟩:=(show eF P w H h a (.dT kvs)from J5 ok e);refine⟨z,y,xs,r,o,es,ep,h1,h2,h3,h4,fun x hx=>?_,h5⟩;have all:∀{l:List (List Key×V)} {m:List (List Key×Addr×Q2)},KT H l m->∀x∈m,(tupleKind (cH P w)).is h x.1 x.2.1:=by
  intro l m q;induction q with
  |nil=>intro x hx;exact nomatch hx
  |@cons p q ps qs hq t ih=>
   intro x hx;rcases Qz.mp hx with e|hx;subst e;exact pS ok (by rw[<-hq.1];exact hq.2.1);exact ih x hx
 exact all r x hx
def OR{kvs:List (List Key×V)}(ok:HOk P w H h)(e:H a=some (.dT kvs)):kvs.length<=QD/\(a == sysModules)=false/\
  ∃xs,KT H kvs xs/\h.DictOfH (tupleKind (cH P w)) a xs:=vo ok (.inl e)
end
def DGet(H:Hp)(a:Addr)(y:V)(r:Option V):Prop:=
 (∃kvs k,Rd H a (.dK kvs)/\y=kV k/\r=jg kvs k)\/∃kvs k b,Rd H a (.dT kvs)/\y=.ref b/\H b=some (.tup (k.map kV))/\r=jg kvs k
def Mc(H:Hp)(a:Addr)(y v:V)(H':Hp):Prop:=
 (∃kvs k,H a=some (.dK kvs)/\y=kV k/\kvs.length<QD/\H'=upd H a (.dK (rO kvs k v)))\/
 ∃kvs k b,H a=some (.dT kvs)/\y=.ref b/\H b=some (.tup (k.map kV))/\kvs.length<QD/\H'=upd H a (.dT (rO kvs k v))
def DGet.k{H:Hp}{a:Addr}{kvs:List (Key×V)}{k:Key}(e:H a=some (.dK kvs)):DGet H a (kV k) (jg kvs k):=.inl ⟨kvs,k,.inl e,rfl,rfl⟩
def Mc.k{H:Hp}{a:Addr}{kvs:List (Key×V)}{k:Key}{v:V}(e:H a=some (.dK kvs))(hl:kvs.length<QD):Mc H a (kV k) v (upd H a (.dK (rO kvs k v))):=.inl ⟨kvs,k,e,rfl,hl,rfl⟩
variable{r:Q2}{A:Z9}{E:Q2->Q3->Prop}
section
variable{y v:V}{u:Q2}{o:Option V}
def Inv.big(I:Inv X pins σ H s):sysModules<s.heap.objs.size:=by
 have h:mainGlobals<s.heap.objs.size:=(I.mod.glob.keeps I.bk).lt;exact Nat.lt_trans (by decide) h
def Be{Q:Q2->Q3->Prop}(hu:A.units+1<cLine)(I:Inv X pins σ H s)(g:DGet H a y (some v))(ry:cI y u)(h:∀w' s',Inv X pins σ H s'->cI v w'->Q w' s') :
  wpAny (Qy X.prog X.w) A (getItem (.ref a) u) Q E s:=by
 rcases g with⟨kvs,k,e,ey,l⟩|⟨kvs,k,b,e,ey,eb,l⟩;subst ey;obtain⟨z,hd,vs,rel,dd⟩:=t9 I.hok e;obtain⟨w',hw,rw'⟩:=rq.some_of (v:=v) (o:=valueAt vs k) (by rw[l];exact rel.val k);exact wpAny_getItem_of (u9 ry) dd.mapOf hw (h w' _ (I.tok _) rw');subst ey;cases (show u=Value.ref b from ry);obtain⟨z,hd,xs,rel,dd⟩:=vo I.hok e;obtain⟨w',hw,rw'⟩:=rq.some_of (v:=v) (o:=(atKey xs k).map (·.2)) (by rw[l];exact rel.val k);obtain⟨p,hp,hp2⟩:=Zz.mp hw;refine wpAny_getItem_heap (tupleKind_room_in1 hu) (pS I.hok eb) dd hp ?_;rw[hp2];exact h w' _ (I.tok _) rw'
def Qn{Q:Q2->Q3->Prop}(hu:A.units+1<cLine)(I:Inv X pins σ H s)(g:DGet H a y o)(ry:cI y u)(h:∀s',Inv X pins σ H s'->Q (.bool o.isSome) s') :
  wpAny (Qy X.prog X.w) A (compareOp .In u (.ref a)) Q E s:=by
 rcases g with⟨kvs,k,e,ey,l⟩|⟨kvs,k,b,e,ey,eb,l⟩;subst ey;obtain⟨z,hd,vs,rel,dd⟩:=t9 I.hok e;refine wpAny_in_of (u9 ry) hd dd.mapOf ?_;rw[<-(rel.val k).isSome_eq,<-l];exact h _ (I.tok _);subst ey;cases (show u=Value.ref b from ry);obtain⟨z,hd,xs,rel,dd⟩:=vo I.hok e;refine wpAny_in_heap (tupleKind_room_in1 hu) (pS I.hok eb) hd dd ?_;have q:=(rel.val k).isSome_eq;rw[Option.isSome_map]at q;rw[<-q,<-l];exact h _ (I.tok _)
def Il{Q:Q2->Q3->Prop}(hu:A.units+1<cLine)(I:Inv X pins σ H s)(g:DGet H a y o)(ry:cI y u)(h:∀s',Inv X pins σ H s'->Q (.bool (!o.isSome)) s') :
  wpAny (Qy X.prog X.w) A (compareOp .NotIn u (.ref a)) Q E s:=by
 rcases g with⟨kvs,k,e,ey,l⟩|⟨kvs,k,b,e,ey,eb,l⟩;subst ey;obtain⟨z,hd,vs,rel,dd⟩:=t9 I.hok e;refine wpAny_notIn_of (u9 ry) hd dd.mapOf ?_;rw[<-(rel.val k).isSome_eq,<-l];exact h _ (I.tok _);subst ey;cases (show u=Value.ref b from ry);obtain⟨z,hd,xs,rel,dd⟩:=vo I.hok e;refine wpAny_notIn_heap (tupleKind_room_in1 hu) (pS I.hok eb) hd dd ?_;have q:=(rel.val k).isSome_eq;rw[Option.isSome_map]at q;rw[<-q,<-l];exact h _ (I.tok _)
def vv{h':Heap}{t':Nat}{ob:HO}(I:Inv X pins σ H s)(mu:Mut (H a))(hs:Heap.SameBut a s.heap h')(he:∃q,h'.get? a=some q)(new:eF X.prog X.w (upd H a ob) h' a ob) :
  Inv X pins σ (upd H a ob) { s with heap:=h',toks:=t' }:=
 I.write (x:=a) (e:=a) mu (.inl rfl) (fun b q hb z=>(hs.2 b hb).trans z) he new
def Fg{P:Qx}{w:Z7}{H':Hp}{h':Heap}{kvs:List (Key×V)}{vs:List (Key×Q2)}(z:kvs.length<=QD)(hd:(a == sysModules)=false)(rel:KV kvs vs)(dd:h'.DictOf (cH P w) a vs) :
  eF P w H' h' a (.dK kvs):=⟨z,hd,vs,rel,dd⟩
def Bc{H':Hp}{Q:Unit->Q3->Prop}(hu:A.units+1<cLine)(I:Inv X pins σ H s)(g:Mc H a y v H')(ry:cI y u)(rv:cI v r)(h:∀s',Inv X pins σ H' s'->Q () s') :
  wpAny (Qy X.prog X.w) A (setItem (.ref a) u r) Q E s:=by
 rcases g with⟨kvs,k,e,ey,l,eH⟩|⟨kvs,k,b,e,ey,eb,l,eH⟩;subst ey eH;obtain⟨z,hd,vs,rel,dd⟩:=A8 I.hok e;have hz:vs.length<=QD:=by rw[<-rel.length];exact z
 have hl:(rO kvs k v).length<=QD:=by have:=nS kvs k v;omega
 refine wpAny_setItem_pairs (hsz:=hz) (u9 ry) dd fun h' dd' hs=>h _ ?_;have he:∃q,h'.get? a=some q:=let ⟨q,_,_,hq,_⟩:=dd';⟨q,hq⟩
 exact vv I (by rw[e];exact True.intro) hs he (Fg hl hd (rel.put k rv) dd');subst ey eH;cases (show u=Value.ref b from ry);obtain⟨z,hd,xs,rel,dd⟩:=OR I.hok e;have hz:xs.length<=QD:=by rw[<-Paired.length rel];exact z
 have hl:(rO kvs k v).length<=QD:=by have:=nS kvs k v;omega
 refine wpAny_setItem_heap (hsz:=hz) (tupleKind_room_in1 hu) (pS I.hok eb) dd fun h' dd' hs=>h _ ?_;obtain⟨q,es,ep,hq,h2,h3,h4,_,h5⟩:=dd';refine vv I (by rw[e];exact True.intro) hs ⟨q,hq⟩ ⟨hl,hd,_,(rel.put k eb rv).keeps fun c ys ec=>?_,q,es,ep,hq,h2,h3,h4,h5⟩;rw[aI (Oh ec e (fun z=>nomatch z))];exact ec
end
section
variable{kvs:List (Key×V)}{k:Key}{u:Q2}
def OT{v:V}{more:List Q2}{Q:Q2->Q3->Prop}(I:Inv X pins σ H s)(e:H a=some (.dK kvs))(ry:cI (kV k) u)(l:jg kvs k=some v)(hm:more=[]\/∃x,more=[x])
  (h:∀w' s',Inv X pins σ (upd H a (.dK (qZ kvs k))) s'->cI v w'->Q w' s'):wpAny (Qy X.prog X.w) A (call (.builtin "dict.pop") (.ref a::u::more)) Q E s:=by
 obtain⟨z,hd,vs,rel,dd⟩:=A8 I.hok e;obtain⟨w',hw,rw'⟩:=rq.some_of (v:=v) (o:=valueAt vs k) (by rw[<-l];exact rel.val k);have hp:(keyPart u).isSome=true:=by
  cases k with
  |inl i=>obtain⟨t,q⟩:=(show ∃t,u=Value.int i t from ry);subst q;rfl
  |inr x=>obtain⟨t,q⟩:=(show ∃t,u=Value.str x t from ry);subst q;rfl
 have ha:argsOk "dict.pop" ⟨.ref a::u::more,[]⟩:=by
  rcases hm with q|⟨x,q⟩;subst q;exact PySem.F.args_dict_pop_2 _ _;subst q;exact PySem.F.args_dict_pop_3 _ _ _
 refine call_meetsIn PySem.F.slot_dict_pop dd.typeIs PySem.F.entry_dict_pop ha (meets_dict_pop_there (cH X.prog X.w) a (u9 ry) more hm hp)
  ⟨vs,w',dd,by rw[<-rel.length];exact z,hw,fun h' dd' hs=>h w' _ ?_ rw'⟩
 have he:∃q,h'.get? a=some q:=let ⟨q,_,_,hq,_⟩:=dd';⟨q,hq⟩
 exact vv I (by rw[e];exact True.intro) hs he (Fg (ZQ (D1 kvs k) z) hd (rel.drop k) dd')
def OU{Q:Q2->Q3->Prop}(I:Inv X pins σ H s)(e:Rd H a (.dK kvs))(h:∀t s',Inv X pins σ H s'->Q (.int kvs.length t) s'):wpAny (Qy X.prog X.w) A (call (.builtin "len") [.ref a]) Q E s:=by
 obtain⟨z,hd,vs,rel,dd⟩:=t9 I.hok e;refine call_len_dict hd dd (by rw[<-rel.length];rw[sizeLine_eq]at z;omega) ?_;rw[<-rel.length];exact h _ _ (I.tok _)
end
def L3(i:QB):Prop:=∀ov iv,subscripted i false ov iv=operate [ov,iv] (getItem ov iv)
def Gy{prog:Qx}{w:Z7}{A:Z9}{E:Q2->Q3->Prop}{s:Q3}{env:Env}{value slice:QB}{pos:Pos}{T id:String}{Q:Q2->Q3->Prop}
  (hl:typeLookup (.type T) "__getitem__"=pure (some (.builtin id))) (hs:L3 slice)
  (h:wpAny (Qy prog w) A (eval value env) (fun o s₁=>wpAny (Qy prog w) A (eval slice env) (fun i s₂=>s₂.TypeIs o T/\wpAny (Qy prog w) A (getItem o i) Q E s₂) E s₁) E s) :
  wpAny (Qy prog w) A (eval (.Subscript value slice pos) env) Q E s:=by
 refine Subscript_ (ZT h (fun o s₁ h₁=>ZT h₁ (fun i s₂ h₂=>?_) fun _ _ x=>x) fun _ _ x=>x);obtain⟨hT,h₂⟩:=h₂;unfold subscriptTail;refine Q5 ?_;rw[getitemInPython_of_ne hT.not_modules];refine Q5 (wpAny_specialOf hT hl ?_);have fin:wpAny (Qy prog w) A (subscripted slice false o i) (fun r s₃=>wpAny (Qy prog w) A (letTemporaryGo value o r >>= fun _=>pure r) Q E s₃) E s₂:=by
  rw[hs o i];exact wpAny_operating (ZT h₂ (fun r s₃ h₃=>Q5 (wpAny_letTemporaryGo (Qq h₃))) fun _ _ x=>x)
 first
  |exact Qq (Q5 fin)
  |exact Q5 (Qq (Q5 fin))
  |exact Q5 fin
def vt{X:Cx}{pins:List (Addr×Obj)}{σ:St}{H:Hp}{s:Q3}{a:Addr}{y:V}{o:Option V}(I:Inv X pins σ H s)(g:DGet H a y o):s.TypeIs (.ref a) "dict":=by
 rcases g with⟨kvs,k,e,_,_⟩|⟨kvs,k,b,e,_,_,_⟩;obtain⟨_,_,vs,_,dd⟩:=t9 I.hok e;exact dd.typeIs;obtain⟨_,_,xs,_,dd⟩:=vo I.hok e;exact dd.typeIs
def JU(td ty:TE):TE:=fun σ H Q=>td σ H fun x H1=>ty σ H1 fun y H2=>∃a v,x=.ref a/\DGet H2 a y (some v)/\Q v H2
def Mj(ty td:TE):TE:=fun σ H Q=>ty σ H fun y H1=>td σ H1 fun x H2=>∃a o,x=.ref a/\DGet H2 a y o/\Q (.bl o.isSome) H2
def uN(ty td:TE):TE:=fun σ H Q=>ty σ H fun y H1=>td σ H1 fun x H2=>∃a o,x=.ref a/\DGet H2 a y o/\Q (.bl (!o.isSome)) H2
def J4(td ty tv:TE):TS:=fun D σ H=>tv σ H fun v H1=>td σ H1 fun x H2=>ty σ H2 fun y H3=>∃a H4,x=.ref a/\Mc H3 a y v H4/\D.nx σ H4
variable{td ty:TE}
section
variable{i value:QB}{pos':Pos}{tv:TE}
def Hd(hu:X.A.units+1<cLine)(ho:PE X o td)(hi:PE X i ty)(hs:L3 i):PE X (.Subscript o i pos) (JU td ty):=by
 intro pins s σ H Q I h;refine Gy PySem.F.slot_dict_getitem.lookup hs (thn (ho pins s σ H _ I h) fun u s1 ⟨x,H1,I1,rx,q1⟩=>thn (hi pins s1 σ H1 _ I1 q1) fun iv s2 hz=>?_);obtain⟨y,H2,I2,ry,a,v,ex,g,q2⟩:=hz;subst ex;obtain rfl:u=Value.ref a:=rx;exact⟨vt I2 g,Be hu I2 g ry fun w' s3 I3 rw'=>⟨v,H2,I3,rw',q2⟩⟩
def KO(hu:X.A.units+1<cLine)(hi:PE X i ty)(ho:PE X o td):PC X .In i o (Mj ty td):=by
 intro pins s σ H Q I h;refine thn (hi pins s σ H _ I h) fun iv s1 ⟨y,H1,I1,ry,q1⟩=>thn (ho pins s1 σ H1 _ I1 q1) fun u s2 hz=>?_;obtain⟨x,H2,I2,rx,a,ov,ex,g,q2⟩:=hz;subst ex;obtain rfl:u=Value.ref a:=rx;exact Qn hu I2 g ry fun s3 I3=>⟨.bl ov.isSome,H2,I3,rfl,q2⟩
def zL(hu:X.A.units+1<cLine)(hi:PE X i ty)(ho:PE X o td):PC X .NotIn i o (uN ty td):=by
 intro pins s σ H Q I h;refine thn (hi pins s σ H _ I h) fun iv s1 ⟨y,H1,I1,ry,q1⟩=>thn (ho pins s1 σ H1 _ I1 q1) fun u s2 hz=>?_;obtain⟨x,H2,I2,rx,a,ov,ex,g,q2⟩:=hz;subst ex;obtain rfl:u=Value.ref a:=rx;exact Il hu I2 g ry fun s3 I3=>⟨.bl (!ov.isSome),H2,I3,rfl,q2⟩
def GY(hu:X.A.units+1<cLine)(ho:PE X o td)(hi:PE X i ty)(hv:PE X value tv)(hs:Za value (some (.Subscript o i pos')) pos.line X.env=pure false) :
  PS X (.Assign [.Subscript o i pos'] value pos) (J4 td ty tv):=by
 intro pins s σ H D I h;refine wpAny_Assign_Subscript (thn (hv pins s σ H _ I h) fun r s1 ⟨v,H1,I1,rv,q1⟩=>thn (ho pins s1 σ H1 _ I1 q1) fun u s2 ⟨x,H2,I2,rx,q2⟩=>thn (hi pins s2 σ H2 _ I2 q2) fun iv s3 hz=>?_) hs;obtain⟨y,H3,I3,ry,a,H4,ex,g,q3⟩:=hz;subst ex;obtain rfl:u=Value.ref a:=rx;exact Bc hu I3 g ry rv fun s4 I4=>⟨σ,H4,I4,q3⟩
end
def D3{P:Qx}{w:Z7}{H:Hp}(h:Heap)(hb:sysModules<h.objs.size):eF P w H (h.push { cls:=.type "dict",data:=.dict #[] }) h.objs.size (.dK []):=
 ⟨ZC _,beq_eq_false_iff_ne.mpr (Ne.symm (Qr hb)),[],.nil,Heap.DictOf.new h⟩
def EI:TE:=fun _ H Q=>∀p,H p=none->Q (.ref p) (upd H p (.dK []))
def C4:PE X (.Dict [] [] pos) EI:=fun pins s σ H Q I h=>
 wpAny_Dict_empty ⟨.ref s.heap.objs.size,_,I.laid (a:=s.heap.objs.size) (o:=.dK []) (t':=s.toks) (fun _ _ q=>Q6 _ q) (Q7 _) (D3 s.heap I.big),rfl,h _ (I.hok.fresh (Q7 _))⟩
structure M1(X:Cx)(o:QB)(m:Str)(apos:Pos)(e:QB)(cpos:Pos):Prop where
 base:attributeBase o m X.env (eval o X.env)=eval o X.env
 few:((ZD cpos (QJ [e] X.env)).all (fun x=>!x.1)&&(backToKw cpos (keywordEach [] X.env)).all (fun x=>x.1.isSome)
  && decide (([e]:List QB).length+([]:List Keyword).length+(if ([]:List Keyword).isEmpty then 0 else 1)<30))=true
 line:(apos.endLine == cpos.line)=true
 trees:ZD cpos (QJ [e] X.env)=[(false,eval e X.env)]
structure M2(X:Cx)(o:QB)(m:Str)(apos:Pos)(e f:QB)(cpos:Pos):Prop where
 base:attributeBase o m X.env (eval o X.env)=eval o X.env
 few:((ZD cpos (QJ [e,f] X.env)).all (fun x=>!x.1)&&(backToKw cpos (keywordEach [] X.env)).all (fun x=>x.1.isSome)
  && decide (([e,f]:List QB).length+([]:List Keyword).length+(if ([]:List Keyword).isEmpty then 0 else 1)<30))=true
 line:(apos.endLine == cpos.line)=true
 trees:ZD cpos (QJ [e,f] X.env)=[(false,eval e X.env),(false,eval f X.env)]
def IsD(H:Hp)(a:Addr):Prop:=(∃kvs,Rd H a (.dK kvs))\/∃kvs,Rd H a (.dT kvs)
def E1{X:Cx}{pins:List (Addr×Obj)}{σ:St}{H:Hp}{s:Q3}{a:Addr}(I:Inv X pins σ H s)(d:IsD H a) :
  s.TypeIs (.ref a) "dict"/\(∀b,Value.ref a=.ref b->∃ob,s.heap.get? b=some ob/\ob.dict=none)/\(a == sysModules)=false:=by
 rcases d with⟨kvs,e⟩|⟨kvs,e⟩;obtain⟨_,hd,vs,_,dd⟩:=t9 I.hok e;refine⟨dd.typeIs,fun b q=>?_,hd⟩;cases q;obtain⟨ob,_,_,h1,h2,_⟩:=dd;exact⟨ob,h1,h2.2.1⟩;obtain⟨_,hd,xs,_,dd⟩:=vo I.hok e;refine⟨dd.typeIs,fun b q=>?_,hd⟩;cases q;obtain⟨ob,_,_,h1,h2,_⟩:=dd;exact⟨ob,h1,h2.2.1⟩
section
variable{y d:V}{u:Q2}{o:Option V}
def LU{Q:Q2->Q3->Prop}(hu:A.units+1<cLine)(I:Inv X pins σ H s)(g:DGet H a y o)(ry:cI y u)(rd:cI d r)(h:∀w' s',Inv X pins σ H s'->cI (o.getD d) w'->Q w' s') :
  wpAny (Qy X.prog X.w) A (call (.builtin "dict.get") [.ref a,u,r]) Q E s:=by
 rcases g with⟨kvs,k,e,ey,l⟩|⟨kvs,k,b,e,ey,eb,l⟩;subst ey;obtain⟨z,hd,vs,rel,dd⟩:=t9 I.hok e;refine call_meetsIn PySem.F.slot_dict_get dd.typeIs PySem.F.entry_dict_get (PySem.F.args_dict_get_3 _ _ _) (meets_dict_get_default (cH X.prog X.w) a (u9 ry) hd r) ⟨_,dd.mapOf,h _ _ (I.tok _) ?_⟩;rw[l];exact(rel.val k).getD rd;subst ey;cases (show u=Value.ref b from ry);obtain⟨z,hd,xs,rel,dd⟩:=vo I.hok e;refine call_meetsIn PySem.F.slot_dict_get dd.typeIs PySem.F.entry_dict_get (PySem.F.args_dict_get_3 _ _ _) (meetsH_dict_get_default (tupleKind (cH X.prog X.w)) a b hd r) ⟨tupleKind_room_in1 hu,k,xs,pS I.hok eb,dd,h _ _ (I.tok _) ?_⟩;rw[l];exact(rel.val k).getD rd
end
def EJ(td ty tx:TE):TE:=fun σ H Q=>td σ H fun x H1=>∃a,x=.ref a/\IsD H1 a/\ty σ H1 fun y H2=>tx σ H2 fun z H3=>∃o,DGet H3 a y o/\Q (o.getD z) H3
def EH(td ty:TE):TE:=fun σ H Q=>td σ H fun x H1=>∃a,x=.ref a/\IsD H1 a/\ty σ H1 fun y H2=>∃kvs k v,H2 a=some (.dK kvs)/\y=kV k/\jg kvs k=some v/\Q v (upd H2 a (.dK (qZ kvs k)))
section
variable{f:QB}{tx:TE}
def C5(hu:X.A.units+1<cLine)(ho:PE X o td)(he:PE X e ty)(hf:PE X f tx)(m:M2 X o "get" apos e f cpos):PE X (.Call (.Attribute o "get" apos) [e,f] [] cpos) (EJ td ty tx):=by
 intro pins s σ H Q I h;refine wpAny_Call_method m.base m.few m.line PySem.F.plainAttrs_dict PySem.F.slot_dict_get PySem.F.type_dict_get (thn (ho pins s σ H _ I h) fun u s1 hz=>?_);obtain⟨x,H1,I1,rx,a,ex,d,q1⟩:=hz;subst ex;obtain rfl:u=Value.ref a:=rx;obtain⟨t1,t2,_⟩:=E1 I1 d;refine⟨t1,t2,?_⟩;rw[m.trees];refine Calls.callWith_builtin rfl (Calls.evalArgs_plain (Calls.spliced_cons (thn (he pins s1 σ H1 _ I1 q1) fun iv s2 ⟨y,H2,I2,ry,q2⟩=>
  Calls.spliced_cons (thn (hf pins s2 σ H2 _ I2 q2) fun fv s3 ⟨z,H3,I3,rz,ov,g,q3⟩=>Calls.spliced_nil ?_))))
 exact LU hu I3 g ry rz fun w' s4 I4 rw'=>⟨_,H3,I4,rw',q3⟩
def C3(ho:PE X o td)(he:PE X e ty)(m:M1 X o "pop" apos e cpos):PE X (.Call (.Attribute o "pop" apos) [e] [] cpos) (EH td ty):=by
 intro pins s σ H Q I h;refine wpAny_Call_method m.base m.few m.line PySem.F.plainAttrs_dict PySem.F.slot_dict_pop PySem.F.type_dict_pop (thn (ho pins s σ H _ I h) fun u s1 hz=>?_);obtain⟨x,H1,I1,rx,a,ex,d,q1⟩:=hz;subst ex;obtain rfl:u=Value.ref a:=rx;obtain⟨t1,t2,_⟩:=E1 I1 d;refine⟨t1,t2,?_⟩;rw[m.trees];refine Calls.callWith_builtin rfl (Calls.evalArgs_plain (Calls.spliced_cons (thn (he pins s1 σ H1 _ I1 q1) fun iv s2 ⟨y,H2,I2,ry,kvs,k,v,ea,ey,l,q2⟩=>Calls.spliced_nil ?_)));subst ey;exact OT I2 ea ry l (.inl rfl) fun w' s3 I3 rw'=>⟨v,_,I3,rw',q2⟩
end
end L2
namespace Att
open PySem PySem.W PySem.Calls PyProof.Rows
def nX{P:Params}{h:Heap}:∀(ns:List Int) (vs:List Q2),WellAll P h vs (ns.map WData.int)->IntsAre vs ns:=by
 intro ns;induction ns with
 |nil=>
  intro vs w;rw[Zv]at w;cases w;exact .nil
 |cons n ns ih=>
  intro vs w;rw[QU]at w;cases w with
  |cons a b=>
   cases a;exact .cons _ _ (ih _ b)
def zp{l:OpenLaw}{n:Nat}(hn:l.most=some n){P:Params}{h:Heap}{args:List WData}{vals:List Q2}
  (hpre:l.row.toRowW.claim.pre args=true) (hwl:WellAll P h vals args) :
  ∃a vs ns,vals=[Value.ref a]/\args=[WData.list (ns.map WData.int)]/\h.get? a=some { cls:=.type "list",data:=.seq vs.toArray }/\IntsAre vs ns/\ns.length<=n:=by
 have hsh:WShape.hasAll [] args [.list .int]=true:=(pre_splitW hpre).1;have hc:l.pre.holds [] { args:=args }=true:=(pre_splitW hpre).2;obtain⟨d,r,rfl,h1,h2⟩:=hasAllW_cons hsh;obtain rfl:=hasAllW_nil h2;obtain⟨xs,rfl,h3⟩:=hasW_list h1;obtain⟨ns,rfl⟩:=items_int h3;have hlen:ns.length<=n:=by
  unfold OpenLaw.pre at hc;have h4:(WTm.not (.lt (.lit (.int (n:Int))) (.len (.arg 0)))).holds [] { args:=[.list (ns.map .int)] }=true:=by
   have h4:=(holds_andW hc).1;rw[hn]at h4;exact h4
  have h5:=condW_of h4 (w_not (w_lt w_lit (w_len_list (w_arg rfl))));rw[Q9]at h5;refine Nat.le_of_not_lt fun q=>?_;have q':(n:Int)<((ns.length:Nat):Int):=by omega
  first
   |(rw[XX q']at h5;exact absurd h5 (by decide))
   |(simp at h5;omega)
 cases hwl with
 |cons w1 w2=>
  cases w2;cases w1 with
  |list ho hall=>exact⟨_,_,ns,rfl,rfl,ho,nX ns _ hall,hlen⟩
def zI(l:OpenLaw)(args:List WData):l.row.toRowW.claim.post args (.bool true) args=true:=
 postW_of (r:=l.row.toRowW) (X:=(true == true))
  (show WShape.has [] (.bool true) .bool=true by first|rfl|decide|simp[WShape.has,WShape.arms,WShape.armsAll])
  (show(WTm.eq .res (.lit (.bool true))).value [] { args:=args,res:=some (.bool true),after:=args }=some (.bool (true == true))from w_eq_bool (w_res rfl) w_lit) rfl
def attach_call{l:OpenLaw}{n:Nat}{q:Qx}{eG:List Str}{XP:(Str->Option Q2)->Heap->Prop}{YP:Z7->Heap->Prop}{d:DefRec}
  (hn:l.most=some n) (hdf:d.params.defaults=[])
  (call:∀(w:Z7) (s₀ s₁:Q3) (mg mb:Str->Option Q2) (fa:Addr) (o:Obj) (pm cd doc:Q2) (a:Addr) (vs:List Q2) (ns:List Int),
   Ground q eG [] XP w s₀ mg mb s₁.heap->YP w s₁.heap->
   s₁.heap.get? fa=some o->o.data=.func (docDef d.name d.params d.body d.scope pm cd doc)->s₁.heap.CodeRec cd d.name->mg d.name=some (.ref fa)->
   s₁.heap.get? a=some { cls:=.type "list",data:=.seq vs.toArray }->IntsAre vs ns->ns.length<=n->s₁.gens=#[]->
   codeAny (Qy l.prog w) callerA (.call (.ref fa) ⟨[.ref a],[]⟩) (fun r s'=>r=.ok (.ret (.bool true))/\OldK s₁.heap s'.heap/\s'.os=s₁.os/\AllBare s'.gens) s₁) :
  WalkO q eG XP YP l.row.toRowW d [] (fun f vs=>PySem.call f vs):=by
 intro w s₀ s₁ mg mb G Y fa o pm cd doc dV kV ho hd hcd hD hmg hg args vals as hpre hlay hrd hwl hlo;obtain rfl:dV=.none:=Dflts.none hD hdf;obtain rfl:kV=.none:=Dflts.noKw hD;obtain⟨a,vs,ns,rfl,rfl,hobj,hints,hlen⟩:=zp hn hpre hwl;refine enter_call (codeAny_mono (call w s₀ s₁ mg mb fa o pm cd doc a vs ns G Y ho (fd_plain hd) hcd hmg hobj hints hlen hg) fun r s' hq=>?_);obtain⟨rfl,h2,h3,h4⟩:=hq;exact⟨.inl ⟨.bool true,.bool true,[],rfl,fun _=>rfl,.bool true,zI l _,fun _=>⟨List.Pairwise.nil,fun _ hm=>(nomatch hm)⟩⟩,h2,h3,h4⟩
end Att
namespace L2
open PySem PySem.Spec PyProof.Rows
def iP:∀{vs:List Q2} {ns:List Int},IntsAre vs ns->bX (ns.map V.int) vs
 |_,_,.nil=>.nil
 |_,_,.cons n t h=>.cons ⟨t,rfl⟩ (iP h)
def aL(s:Z0)(j:Nat):Z0:=match s with
 |.ClassDef _ _ _ body _ _ _ _ _ _ _=>body.getD j (.Pass ⟨0,0,0,0⟩)
 |_=>.Pass ⟨0,0,0,0⟩
def gK(s:Z0):Arguments:=match s with
 |.FunctionDef _ a _ _ _ _ _ _ _ _=>a
 |_=>{ posonlyargs:=[],args:=[],vararg:=none,kwonlyargs:=[],kw_defaults:=[],kwarg:=none,defaults:=[] }
def bF(s:Z0):List Z0:=match s with
 |.FunctionDef _ _ b _ _ _ _ _ _ _=>b
 |_=>[]
def ax(s:Z0):Zl:=match s with
 |.FunctionDef _ _ _ _ _ _ sc _ _ _=>sc
 |_=>{ kind:=.function,names:=[],isGenerator:=false,isCoroutine:=false }
abbrev CX0:CXT:=fun _ _ _ _ _ _=>False
abbrev E0:XK:=fun _ _ _=>False
def zM{X:Cx}:jv CX0 X E0:=fun _ _ _ _ _ _ _ h=>h.elim
structure Fun(K:Q1)(x qual:Str)(st:Z0)(f:Addr)(fd:Zu):Prop where
 ex:∃(oc:Q2) (od:Option Addr) (kV doc pm:Q2) (an:Option Addr) (cdv ct:Q2) (osl:Array (Option Q2)),
  fd=PySem.W.fnOf x qual (gK st) (bF st) (ax st) .none kV doc pm an cdv ct/\K.lookup f=some ⟨oc,od,.func fd,osl⟩/\PySem.W.codeIn K cdv qual=true
 kp:PySem.W.keepIn K (.ref f)=true
section
variable{P:Qx}{w:Z7}{K:Q1}{mg:Str->Option Q2}{base:Heap}
def Fun.ok{x qual:Str}{st:Z0}{f:Addr}{fd:Zu}{N ps:List Str}{k:Nat}{sp:Sp}(F:Fun K x qual st f fd)(S:bU N ps (ax st))(len:∀vs H Q E,sp vs H Q E->vs.length=ps.length)
  (hbody:∀(cdv:Q2) (A:Z9) (outer:List Env) (s:Q3) (H:Hp) (vs:List V) (Q:VK) (E:XK),eC k (A.deeper (envOfC qual (ax st) s.heap.objs.size f cdv))->sp vs H Q E->
   ∃t,PSs (mr CX0 P w K mg base N qual (ax st) f cdv A outer s H E).nox (bF st) t/\t { nx:=fun _ H'=>Q .non H',rt:=Q } (jU N vs) H):kC P w K mg base CX0 (k+1) f fd ps sp:=by
 obtain⟨oc,od,kV,doc,pm,an,cdv,ct,osl,rfl,lk,hcd⟩:=F.ex;refine HY lk hcd S len fun A outer s H vs Q E hr hsp=>?_;obtain⟨t,h,q⟩:=hbody cdv A outer s H vs Q E hr hsp;exact⟨t,h.nox,q⟩
def Fun.binds{x qual:Str}{st:Z0}{f:Addr}{fd:Zu}{ps:List Str}(F:Fun K x qual st f fd)
  (h:∀(kV doc pm:Q2) (an:Option Addr) (cdv ct:Q2) (us:List Q2),us.length=ps.length->bindArgs (PySem.W.fnOf x qual (gK st) (bF st) (ax st) .none kV doc pm an cdv ct) ⟨us,[]⟩=pure (ps.zip us)):gW K fd ps []:=by
 obtain⟨oc,od,kV,doc,pm,an,cdv,ct,osl,rfl,lk,hcd⟩:=F.ex;exact .all (h kV doc pm an cdv ct)
def E4{x qual:Str}{st:Z0}{f:Addr}{oc:Q2}{od an:Option Addr}{osl:Array (Option Q2)}{kV doc pm cdv ct:Q2}(l:K.lookup f=some ⟨oc,od,.func (PySem.W.fnOf x qual (gK st) (bF st) (ax st) .none kV doc pm an cdv ct),osl⟩)
  (c:PySem.W.codeIn K cdv qual=true) (k:PySem.W.keepIn K (.ref f)=true):Fun K x qual st f (PySem.W.fnOf x qual (gK st) (bF st) (ax st) .none kV doc pm an cdv ct):=⟨⟨oc,od,kV,doc,pm,an,cdv,ct,osl,rfl,l,c⟩,k⟩
end
def vg{A:Z9}{k:Nat}(hr:eC k A):A.units+1<cLine:=Nat.lt_of_le_of_lt (Nat.add_le_add_left (by decide:1<=64) _) hr.units
def zo{n:Nat}(h:n<=1000):n<QD:=Nat.lt_of_le_of_lt h (by decide)
section
variable{X:Cx}
def pv(i:Nat){x:Str}{pos:Pos}(hN:X.N[i]?=some x:=by rfl)(hv:Vis X.env.scope x:=by first|exact Or.inl rfl|exact Or.inr (Or.inl rfl)|exact Or.inr (Or.inr rfl))(hd:(x == ("__debug__":Str))=false:=by decide)
  (hcd:(x == ("__classdict__":Str))=false:=by decide):PE X (.Name x pos) (Mf i):=Kv hN hv hd hcd
def Bk:gU X (.builtin "len") (fun xs H Q=>∃a kvs,xs=[V.ref a]/\H a=some (.dK kvs)/\Q (.int kvs.length) H):=by
 intro pins s σ H xs us Q I r h;obtain⟨a,kvs,rfl,ha,q⟩:=h;obtain⟨u,rfl,ru⟩:=mL r;cases ru;exact OU I (.inl ha) fun t s' I'=>⟨.int kvs.length,H,I',⟨t,rfl⟩,q⟩
end
def II{A B:Prop}(h:B):if false=true then A else B:=by
 rw[XQ QZ];exact h
def IH{A B:Prop}(h:A):if true=true then A else B:=by
 rw[X9 rfl];exact h
def Ep(H H':Hp):Prop:=∀b o,H b=some o->H' b=some o
def Ep.refl(H:Hp):Ep H H:=fun _ _ h=>h
end L2
namespace OG
open PySem PySem.Spec PyProof.Rows L2
structure WE(X:Cx)(e:QB)(t:TE):Prop where
 h:PE X e t
structure WT(X:Cx)(e:QB)(t:TT):Prop where
 h:PT X e t
structure WW(X:Cx)(e:QB)(t:TT):Prop where
 h:PW X e t
structure WA(X:Cx)(es:List QB)(t:TA):Prop where
 h:PA X es t
structure WS(X:Cx)(st:Z0)(t:TS):Prop where
 h:PS X st t
structure WSs(X:Cx)(st:List Z0)(t:TS):Prop where
 h:PSs X st t
structure WI(X:Cx)(tg iter:QB)(wi:TI):Prop where
 h:PI X tg iter wi
structure WG(X:Cx)(target:QB)(t:TG):Prop where
 h:PG X target t
structure WGs(X:Cx)(ts:List QB)(t:TGs):Prop where
 h:PGs X ts t
structure WC(X:Cx)(op:CmpOp)(a b:QB)(t:TE):Prop where
 h:PC X op a b t
structure WO(X:Cx)(e:Option QB)(t:TO):Prop where
 h:PO X e t
variable{X:Cx}
def Gj{i j pos}:WE X (.Constant (.int i) j pos) (tC (.int i)):=⟨KG ⟩
def JE{b j pos}:WE X (.Constant (.bool b) j pos) (tC (.bl b)):=⟨N8 ⟩
def Gh{j pos}:WE X (.Constant .none j pos) (tC .non):=⟨KC ⟩
def Ge{x j pos}:WE X (.Constant (.str x) j pos) (tC (.str x)):=⟨Ky ⟩
variable{a b:QB}{pos:Pos}
def Gm{op:CmpOp}{t:TE}(h:WC X op a b t)(h1:behindInMarks op b=false:=by first|exact nobehind _ (by decide) (by decide)|rfl):WE X (.Compare a [op] [b] pos) t:=⟨KI h.h h1⟩
def yA{op:CmpOp}{t:TE}(h:WC X op a b t)(h1:behindInMarks op b=false:=by first|exact nobehind _ (by decide) (by decide)|rfl):WT X (.Compare a [op] [b] pos) (tB t):=⟨Kj h.h h1⟩
def FV{e:QB}{t:TE}(h:WE X e t)(he:∀whole,isTrue e X.env whole=(do let v <-whole;standAt e.pos;holding [v] (truthy v)):=by intro _;rfl):WT X e (tB t):=⟨Kg h.h he⟩
section
variable{tA:TT}
def BZ(ha:WT X a tA):WW X (.BoolOp .And [a] pos) tA:=⟨GR ha.h⟩
def FT(ha:WT X a tA):WW X (.BoolOp .Or [a] pos) tA:=⟨Ke ha.h⟩
end
variable{rest:List QB}
section
variable{tA tB':TT}
def FU(ha:WT X a tA)(hb:WW X (.BoolOp .And (b::rest) pos) tB'):WW X (.BoolOp .And (a::b::rest) pos) (Pc tA tB'):=⟨Kf ha.h hb.h⟩
def Jy(ha:WT X a tA)(hb:WW X (.BoolOp .Or (b::rest) pos) tB'):WW X (.BoolOp .Or (a::b::rest) pos) (tOr tA tB'):=⟨NV ha.h hb.h⟩
end
section
variable{tA:TT}
def FW(ha:WT X a tA):WT X (.UnaryOp .Not a pos) (O8 tA):=⟨Kh ha.h⟩
end
def Gf{op}{t:TE}(h:WE X a t):WE X (.BoolOp op [a] pos) t:=⟨Kz h.h⟩
variable{ta tb:TE}
def Gn(ha:WE X a ta)(hb:WE X (.BoolOp .And (b::rest) pos) tb):WE X (.BoolOp .And (a::b::rest) pos) (JY ta tb):=⟨KJ ha.h hb.h⟩
def JA(ha:WE X a ta)(hb:WE X (.BoolOp .Or (b::rest) pos) tb):WE X (.BoolOp .Or (a::b::rest) pos) (O7 ta tb):=⟨NY ha.h hb.h⟩
def Gg(ha:WE X a ta):WE X (.UnaryOp .Not a pos) (JQ ta):=⟨KA ha.h⟩
def B4 :WSs X [] JR:=⟨GW ⟩
variable{t:TS}
section
variable{st:Z0}{rest:List Z0}{u:TS}
def yB(h1:WS X st t)(h2:WSs X rest u):WSs X (st::rest) (O5 t u):=⟨CO h1.h h2.h⟩
end
section
variable{st:Z0}
def B0(h1:WS X st t):WSs X [st] t:=⟨GV h1.h⟩
end
def yF :WS X (.Break pos) EK:=⟨CU ⟩
variable{e:QB}{te:TE}
def B5(he:WE X e te)(hs:Za e none pos.line X.env=pure false:=by rfl):WS X (.Expr e pos) (JT te):=⟨GX he.h hs⟩
def FY(he:WE X e te):WS X (.Return (some e) pos) (O6 te):=⟨Km he.h⟩
section
variable{u:TS}
def Jz{c:QB}{a b:List Z0}{tc:TT}(hc:WT X c tc)(ha:WSs X a t)(hb:WSs X b u):WS X (.If c a b pos) (Pa tc t u):=⟨NW hc.h ha.h hb.h⟩
end
section
variable{st:Z0}
def yD :WS X st EG:=⟨CQ ⟩
end
def aZ{i:Nat}{x:Str}(hN:X.N.Nodup)(hi:X.N[i]?=some x)(hx:Loc X.env.scope x)(hf:X.fn x=true\/X.env.scope.names.lookup x=some .local:=by first|exact .inl rfl|exact .inr rfl|assumption):WG X (.Name x pos) (x5 i):=⟨Ha hN hi hx hf⟩
def Ca :WGs X [] PF:=⟨G9 ⟩
def yH{e:QB}{es:List QB}{t:TG}{u:TGs}(h1:WG X e t)(h2:WGs X es u)(hs:(assignEach (e::es) X.env).map (·.2)=assign e X.env::(assignEach es X.env).map (·.2):=by rfl):WGs X (e::es) (LF t u):=⟨C0 h1.h h2.h hs⟩
def Ga{es:List QB}{k:Nat}{t:TGs}{n:Nat}(hc:X.calm=true)(h:WGs X es t)(hn:(assignEach es X.env).length=n:=by rfl)(hst:(assignEach es X.env).findIdx? (·.1)=none:=by rfl):WG X (.Tuple es k pos) (PB X.K n t):=⟨Kt hc h.h hn hst⟩
def Gb {o i : QB} {to ti : TE} {t : Mz} (ho : WE X o to) (hi : WE X i ti) (hs : O2 X t) (ha : ∀ v, assign (.Subscript o i pos) X.env v = (do
   let ov <-holding [v] (eval o X.env)
   let iv <-holding [v,ov] (eval i X.env)
   standAt pos
   holding [v,ov,iv] (setItem ov iv v)
   release [v,ov,iv] []):=by intro _;rfl):WG X (.Subscript o i pos) (PD to ti t):=⟨Ku ho.h hi.h hs ha⟩
def yG{tg e:QB}{te:TE}{g:TG}(he:WE X e te)(hg:WG X tg g)(hs:swapsWithSole [tg] e pos.line X.env=pure false:=by rfl)(hw:swappedStores [tg] e X.env=pure none:=by rfl)(h1:(assignEach [tg] X.env).map (·.2)=[assign tg X.env]:=by rfl):WS X (.Assign [tg] e pos) (JX te g):=⟨Kq he.h hg.h hs hw h1⟩
def FX{i:Nat}{x:Str}{e:QB}{te:TE}{pos':Pos}(hN:X.N.Nodup)(hi:X.N[i]?=some x)(hx:Loc X.env.scope x)(he:WE X e te)(hs:Za e (some (.Name x pos')) pos.line X.env=pure false:=by rfl)(hf:X.fn x=true\/X.env.scope.names.lookup x=some .local:=by first|exact .inl rfl|exact .inr rfl|assumption):WS X (.Assign [.Name x pos'] e pos) (JX te (x5 i)):=⟨Kk hN hi hx he.h hs hf⟩
def yC{c:QB}{body:List Z0}{tc:TT}{tb:TS}(hp:PassesOwn (Qy X.prog X.w) X.A X.env X.xe)(hc:WT X c tc)(hb:WSs X body tb):WS X (.While c body [] pos) (zi tc tb):=⟨CP hp hc.h hb.h⟩
section
variable{tg:QB}
def B9{l:QB}{tl:TE}(hl:WE X l tl):WI X tg l (LC X.K tl):=⟨G8 hl.h⟩
def F9{l:QB}{tl:TE}(hl:WE X l tl):WI X tg l (Pz X.K tl):=⟨Ks hl.h⟩
def xA{a:QB}{ta:TA}{p pos:Pos}(hg:Gl X "range")(hm:X.mg "range"=none)(ha:WA X [a] ta)(hs:QJ [a] X.env=[(false,eval a X.env)]:=by rfl):WI X tg (.Call (.Name "range" p) [a] [] pos) (LB ta):=⟨zJ hg hm ha.h hs⟩
def yE{iter:QB}{body:List Z0}{wi:TI}{g:TG}{tb:TS}{pos:Pos}(hp:PassesOwn (Qy X.prog X.w) X.A X.env X.xe)(hc:X.calm=true)(hi:WI X tg iter wi)(hg:WG X tg g)(hb:WSs X body tb)(hs:∀x,foldedSetIterable iter X.env x=pure x:=by intro _;rfl):WS X (.For tg iter body [] pos) (Mi wi g tb):=⟨Kn hp hc hi.h hg.h hb.h hs⟩
end
def JB{op:Operator}{r:R2}(ho:OpR X (binaryOp op) r)(ha:WE X a ta)(hb:WE X b tb):WE X (.BinOp a op b pos) (tOp r ta tb):=⟨NZ ho ha.h hb.h⟩
def vT{op:CmpOp}{r:R2}(ho:OpR X (compareOp op) r)(ha:WE X a ta)(hb:WE X b tb)(hm:behindInMarks op b=false):WE X (.Compare a [op] [b] pos) (tOp r ta tb):=⟨He ho ha.h hb.h hm⟩
def qe{op:CmpOp}{r:R2}(ho:OpR X (compareOp op) r)(ha:WE X a ta)(hb:WE X b tb)(hm:behindInMarks op b=false):WT X (.Compare a [op] [b] pos) (JN (tOp r ta tb)):=⟨GU ho ha.h hb.h hm⟩
variable{f:Str}
def Gk(he:WE X e ta)(hb:attributeBase e f X.env (eval e X.env)=eval e X.env):WE X (.Attribute e f pos) (Pb X.K ta f):=⟨KH he.h hb⟩
variable{o value:QB}{pos':Pos}{tv:TE}
def FZ(ha:WE X o ta)(hv:WE X value tv)(hs:Za value (some (.Attribute o f pos')) pos.line X.env=pure false):WS X (.Assign [.Attribute o f pos'] value pos) (Pd X.K ta tv f):=⟨Ko ha.h hv.h hs⟩
def yR :WA X [] Mg:=⟨KQ ⟩
variable{es:List QB}
section
variable{t:TA}
def vU(ha:WE X e te)(hr:WA X es t)(hs:QJ (e::es) X.env=(false,eval e X.env)::QJ es X.env:=by rfl):WA X (e::es) (JV te t):=⟨Hh ha.h hr.h hs⟩
def Gd{x1}(h:WA X es t):WE X (.Tuple es x1 pos) (O4 t):=⟨Kx h.h⟩
def Gi(h:WA X es t):WE X (.List es pos) (O9 t):=⟨KD h.h⟩
end
variable{CX:CXT}{C:Addr}{fd:Zu}{ps:List Str}{sp:Sp}{E:XK}{m:Str}{apos:Pos}
section
variable{k:Nat}{f:Addr}{dvs:List V}{ds:List Q2}{t:TA}
def Cb {pl : Sem Bool} (he : WE X o ta) (c : Cls X.K C) (hm : Iy X.K C m f) (F : kC X.prog X.w X.K X.mg X.base CX k f fd ps sp) (hr : eC k X.A) (hb : gW X.K fd ps ds) (hd : bX dvs ds) (hx : jv CX X E) (ha : WA X (e :: es) t) (hst : QJ (e :: es) X.env = (false, eval e X.env) :: QJ es X.env := by rfl) (hpl : (ZD pos (QJ es X.env)).any (·.1) = false := by rfl) (ht : eval (.Call (.Attribute o m apos) (e :: es) [] pos) X.env = (do
   let ov <-eval o X.env
   standAt apos.atName
   let (f,first) <-holding [ov] (getMethod ov m pl)
   callWith pos f first (ZD pos (QJ (e::es) X.env)) (backToKw pos (keywordEach [] X.env))):=by rfl):WE X (.Call (.Attribute o m apos) (e::es) [] pos) (zm C m sp dvs E ta t):=⟨Hb he.h c hm F hr hb hd hx ha.h hst hpl ht⟩
end
section
variable{k:Nat}{f:Addr}{dvs:List V}{ds:List Q2}
def yJ {pl : Sem Bool} (he : WE X o ta) (c : Cls X.K C) (hm : Iy X.K C m f) (F : kC X.prog X.w X.K X.mg X.base CX k f fd ps sp) (hr : eC k X.A) (hb : gW X.K fd ps ds) (hd : bX dvs ds) (hx : jv CX X E) (ht : eval (.Call (.Attribute o m apos) [] [] pos) X.env = (do
   let ov <-eval o X.env
   standAt apos.atName
   let (f,first) <-holding [ov] (getMethod ov m pl)
   callWith pos f first (ZD pos (QJ [] X.env)) (backToKw pos (keywordEach [] X.env))):=by rfl):WE X (.Call (.Attribute o m apos) [] [] pos) (zm C m sp dvs E ta Mg):=⟨C2 he.h c hm F hr hb hd hx ht⟩
end
variable{x:Str}{p:Pos}
section
variable{k:Nat}{f:Addr}{dvs:List V}{ds:List Q2}{t:TA}
def vR(M:Mk X.K C f)(F:kC X.prog X.w X.K X.mg X.base CX k f fd ps sp)(hr:eC (k+1) X.A)(hg:Gl X x)(hm:X.mg x=some (.ref C))(hb:gW X.K fd ps ds)(hd:bX dvs ds)(hx:jv CX X E)(ha:WA X (e::es) t)(hdb:(x == ("__debug__":Str))=false:=by decide)(he:QJ (e::es) X.env=(false,eval e X.env)::QJ es X.env:=by rfl)(hpl:(ZD pos (QJ es X.env)).any (·.1)=false:=by rfl):WE X (.Call (.Name x p) (e::es) [] pos) (Cn C sp dvs E t):=⟨Hc M F hr hg hm hb hd hx ha.h hdb he hpl⟩
end
section
variable{t:TA}{id:String}{r:List V->Hp->VK->Prop}
def yN(hc:gU X (.builtin id) r)(hg:Gl X x)(hm:X.mg x=none)(hv:ZE x=some (.builtin id))(ha:WA X (e::es) t)(hn:x≠"__name__":=by decide)(hdb:(x == ("__debug__":Str))=false:=by decide)(he:QJ (e::es) X.env=(false,eval e X.env)::QJ es X.env:=by rfl)(hpl:(ZD pos (QJ es X.env)).any (·.1)=false:=by rfl):WE X (.Call (.Name x p) (e::es) [] pos) (tCB r t):=⟨C6 hc hg hm hv ha.h hn hdb he hpl⟩
end
variable{T:String}
section
variable{t:TA}{r:List V->Hp->VK->Prop}
def xC(hc:gU X (.type T) r)(hg:Gl X x)(hm:X.mg x=none)(hv:ZE x=some (.type T))(ha:WA X (e::es) t)(hn:x≠"__name__":=by decide)(hdb:(x == ("__debug__":Str))=false:=by decide)(he:QJ (e::es) X.env=(false,eval e X.env)::QJ es X.env:=by rfl)(hpl:(ZD pos (QJ es X.env)).any (·.1)=false:=by rfl):WE X (.Call (.Name x p) (e::es) [] pos) (tCB r t):=⟨zK hc hg hm hv ha.h hn hdb he hpl⟩
end
def B8 :WO X none zj:=⟨G6 ⟩
def B7(h:WE X e te):WO X (some e) (JO te):=⟨G0 h.h⟩
section
variable{lo hi:Option QB}{tl th:TO}{p2:Pos}
def yI{r:V->Option Int->Option Int->Hp->VK->Prop}(hr:SlR X r)(he:WE X e te)(hl:WO X lo tl)(hu:WO X hi th):WE X (.Subscript e (.Slice lo hi none p2) pos) (tSl r te tl th):=⟨C1 hr he.h hl.h hu.h⟩
end
def JC{r:R2}(hr:IxR X r)(ha:WE X a ta)(hb:WE X b tb)(hs:vC b):WE X (.Subscript a b pos) (tOp r ta tb):=⟨N0 hr ha.h hb.h hs⟩
variable{cpos:Pos}
section
variable{to:TE}{t:TA}{name:Str}{id:String}{r:V->List V->Hp->VK->Prop}
def yP (pa : PlainAttrs T) (slot : Slot T name id) (hty : typeOf (.builtin id) = pure (.type "method_descriptor")) (hm : MtR X id r) (ho : WE X o to) (ha : WA X (e :: es) t) (hbase : attributeBase o name X.env (eval o X.env) = eval o X.env := by rfl) (hfew : ((ZD cpos (QJ (e :: es) X.env)).all (fun x => !x.1) && (backToKw cpos (keywordEach [] X.env)).all (fun x => x.1.isSome)
   && decide ((e::es).length+([]:List Keyword).length+(if ([]:List Keyword).isEmpty then 0 else 1)<30))=true:=by rfl) (hline:(apos.endLine == cpos.line)=true:=by rfl) (hs:QJ (e::es) X.env=(false,eval e X.env)::QJ es X.env:=by rfl) (hplain:(ZD cpos (QJ es X.env)).any (·.1)=false:=by rfl):WE X (.Call (.Attribute o name apos) (e::es) [] cpos) (tBM X.K T r to t):=⟨N7 pa slot hty hm ho.h ha.h hbase hfew hline hs hplain⟩
end
variable{i:QB}{td ty:TE}
def Cc(hu:X.A.units+1<cLine)(ho:WE X o td)(hi:WE X i ty)(hs:L3 i):WE X (.Subscript o i pos) (JU td ty):=⟨Hd hu ho.h hi.h hs⟩
def yQ(hu:X.A.units+1<cLine)(hi:WE X i ty)(ho:WE X o td):WC X .In i o (Mj ty td):=⟨KO hu hi.h ho.h⟩
def xD(hu:X.A.units+1<cLine)(hi:WE X i ty)(ho:WE X o td):WC X .NotIn i o (uN ty td):=⟨zL hu hi.h ho.h⟩
def B6(hu:X.A.units+1<cLine)(ho:WE X o td)(hi:WE X i ty)(hv:WE X value tv)(hs:Za value (some (.Subscript o i pos')) pos.line X.env=pure false):WS X (.Assign [.Subscript o i pos'] value pos) (J4 td ty tv):=⟨GY hu ho.h hi.h hv.h hs⟩
def yL :WE X (.Dict [] [] pos) EI:=⟨C4 ⟩
section
variable{f:QB}{tx:TE}
def yM(hu:X.A.units+1<cLine)(ho:WE X o td)(he:WE X e ty)(hf:WE X f tx)(m:M2 X o "get" apos e f cpos):WE X (.Call (.Attribute o "get" apos) [e,f] [] cpos) (EJ td ty tx):=⟨C5 hu ho.h he.h hf.h m⟩
end
def yK(ho:WE X o td)(he:WE X e ty)(m:M1 X o "pop" apos e cpos):WE X (.Call (.Attribute o "pop" apos) [e] [] cpos) (EH td ty):=⟨C3 ho.h he.h m⟩
def wpv(i:Nat){x:Str}{pos:Pos}(hN:X.N[i]?=some x:=by rfl)(hv:Vis X.env.scope x:=by first|exact Or.inl rfl|exact Or.inr (Or.inl rfl)|exact Or.inr (Or.inr rfl))(hd:(x == ("__debug__":Str))=false:=by decide)(hcd:(x == ("__classdict__":Str))=false:=by decide):WE X (.Name x pos) (Mf i):=⟨pv i hN hv hd hcd⟩
def WW.pt{X:Cx}{e:QB}{t:TT}(h:WW X e t):WT X e t:=⟨h.h.pt⟩
def yk(i j:Int):Prop:=0<j/\j.natAbs.log2<9000
def wk:OpR X (binaryOp .FloorDiv) (rI yk fun i j=>.int (i / j)):=opI fun i j _ _ _ _ _ hc q=>by
 refine PyProof.Rows.floordiv_int (by have:=hc.1;omega) ?_ (.inl (PyProof.noPylong_of_log2 hc.2));rw[Int.fdiv_eq_ediv_of_nonneg i (Int.le_of_lt hc.1)];exact q
def f9{H:Hp}{p:Addr}(h:H p=none)(o:HO):Ep H (upd H p o):=fun b u q=>by rw[aI (dM q h)];exact q
def Def(K:Q1)(mg:Str->Option Q2)(x:Str)(st:Z0)(ps:List Str):Prop:=
 ∃f fd,Fun K x x st f fd/\gW K fd ps []/\mg x=some (.ref f)
def Has(P:Qx)(w:Z7)(K:Q1)(mg:Str->Option Q2)(base:Heap)(x:Str)(k:Nat)(ps:List Str)(sp:Sp):Prop:=
 ∃f fd,kC P w K mg base CX0 k f fd ps sp/\gW K fd ps []/\PySem.W.keepIn K (.ref f)=true/\mg x=some (.ref f)
section
variable{P:Qx}{w:Z7}{K:Q1}{mg:Str->Option Q2}{base:Heap}{st:Z0}{N:List Str}{k j:Nat}
def Has.mono(h:Has P w K mg base x j ps sp)(l:j<=k):Has P w K mg base x k ps sp:=by
 obtain⟨f,fd,a,b,c,d⟩:=h;exact⟨f,fd,a.mono l,b,c,d⟩
def Def.has(d:Def K mg x st ps)(S:bU N ps (ax st))(len:∀vs H Q E,sp vs H Q E->vs.length=ps.length)
  (hbody:∀(f:Addr) (cdv:Q2) (A:Z9) (outer:List Env) (s:Q3) (H:Hp) (vs:List V) (Q:VK) (E:XK),eC k (A.deeper (envOfC x (ax st) s.heap.objs.size f cdv))->sp vs H Q E->
   ∃t,WSs (mr CX0 P w K mg base N x (ax st) f cdv A outer s H E).nox (bF st) t/\t { nx:=fun _ H'=>Q .non H',rt:=Q } (jU N vs) H):Has P w K mg base x (k+1) ps sp:=by
 obtain⟨f,fd,F,b,m⟩:=d;exact⟨f,fd,F.ok S len (fun cdv A outer s H vs Q E hr h=>let ⟨t,a,b⟩:=hbody f cdv A outer s H vs Q E hr h;⟨t,a.h,b⟩),b,F.kp,m⟩
def Def.none(d:Def K mg x st ps)(no:∀vs H Q E,¬sp vs H Q E):Has P w K mg base x k ps sp:=by
 obtain⟨f,fd,F,b,m⟩:=d;exact⟨f,fd,⟨fun vs H Q E h=>absurd h (no vs H Q E),fun A outer s H args us vs Q E _ _ _ _ h=>absurd h (no vs H Q E)⟩,b,F.kp,m⟩
end
def JD{X:Cx}{k:Nat}{ps:List Str}{sp:Sp}{x:Str}{p pos:Pos}{e:QB}{es:List QB}{t:TA}(F:Has X.prog X.w X.K X.mg X.base x k ps sp)(hr:eC k X.A)(hg:Gl X x)
  (ha:WA X (e::es) t) (hdb:(x == ("__debug__":Str))=false:=by decide) (he:QJ (e::es) X.env=(false,eval e X.env)::QJ es X.env:=by rfl) (hpl:(ZD pos (QJ es X.env)).any (·.1)=false:=by rfl) :
  WE X (.Call (.Name x p) (e::es) [] pos) (JW sp [] E0 t):=by
 obtain⟨f,fd,a,b,c,d⟩:=F;exact⟨Hf a hr hg d c b .nil zM ha.h hdb he hpl⟩
structure Blt(mg:Str->Option Q2):Prop where
 len:mg "len"=none
 isinstance:mg "isinstance"=none
 int:mg "int"=none
 bool:mg "bool"=none
 str:mg "str"=none
 tuple:mg "tuple"=none
 list:mg "list"=none
 range:mg "range"=none
 min:mg "min"=none
 sum:mg "sum"=none
 all:mg "all"=none
 zip:mg "zip"=none
 sorted:mg "sorted"=none
 dict:mg "dict"=none
 enumerate:mg "enumerate"=none
 any:mg "any"=none
 max:mg "max"=none
 set:mg "set"=none
def sE{n:Nat}(h:n<=1000):n<=QD:=Nat.le_of_lt (zo h)
def xV{n:Nat}(h:n<2^60):n.log2<1920:=by
 by_cases e:n=0;subst e;decide;have:=(Nat.log2_lt e).mpr h;omega
def Ef:ZE "int"=some (.type "int"):=rfl
def k8:ZE "tuple"=some (.type "tuple"):=rfl
def ui:ZE "list"=some (.type "list"):=rfl
def Ed:ZE "min"=some (.builtin "min"):=rfl
def Ee:ZE "max"=some (.builtin "max"):=rfl
def Eg:ZE "all"=some (.builtin "all"):=rfl
def xh:ZE "any"=some (.builtin "any"):=rfl
def jO:ZE "sorted"=some (.builtin "sorted"):=rfl
def Bv{α:Type}{xs:List α}{k:Int}{v:α}(h0:0<=k)(h:xs[k.toNat]?=some v):atI xs k=some v:=by
 have ek:k=((k.toNat:Nat):Int):=by omega
 rw[ek];exact i9 h
def Fun.okW{P:Qx}{w:Z7}{K:Q1}{mg:Str->Option Q2}{base:Heap}{x qual:Str}{st:Z0}{f:Addr}{fd:Zu}{N ps:List Str}{k:Nat}{sp:Sp}(F:Fun K x qual st f fd)(S:bU N ps (ax st))(len:∀vs H Q E,sp vs H Q E->vs.length=ps.length)
  (hbody:∀(cdv:Q2) (A:Z9) (outer:List Env) (s:Q3) (H:Hp) (vs:List V) (Q:VK) (E:XK),eC k (A.deeper (envOfC qual (ax st) s.heap.objs.size f cdv))->sp vs H Q E->
   ∃t,WSs (mr CX0 P w K mg base N qual (ax st) f cdv A outer s H E).nox (bF st) t/\t { nx:=fun _ H'=>Q .non H',rt:=Q } (jU N vs) H):kC P w K mg base CX0 (k+1) f fd ps sp:=
 F.ok S len fun cdv A outer s H vs Q E hr h=>let ⟨t,a,b⟩:=hbody cdv A outer s H vs Q E hr h;⟨t,a.h,b⟩
def xp(env:Env):List (Str×Addr)->Prop
 |[]=>True
 |p::r=>env.cells.lookup p.1=some p.2/\xp env r
def xp.look{env:Env}:∀{cl:List (Str×Addr)} {y:Str} {c:Addr},xp env cl->cl.lookup y=some c->env.cells.lookup y=some c
 |[],_,_,_,h=>by simp at h
 |(n,d)::r,y,c,a,h=>by
  obtain⟨a1,a2⟩:=a;rw[Zh]at h;by_cases e:(y == n)=true
  ·rw[e]at h;have e':y=n:=by simpa using e
   subst e';cases h;exact a1
  ·have e':(y == n)=false:=by simpa using e
   rw[e']at h;exact xp.look a2 h
abbrev cxC(X:Cx)(Nc:List Str)(scope:Zl)(cl:List (Str×Addr))(s3:Q3)(H3:Hp)(fp:List Addr):Cx where
 prog:=X.prog
 w:=X.w
 K:=X.K
 mg:=X.mg
 base:=X.base
 A:=X.A
 N:=Nc
 s₀:=s3
 H₀:=H3
 env:=compEnvC scope cl s3.heap.objs.size X.env
 outer:=X.stack
 stack:=X.stack
 ex:=fp
 fn:=fun _=>false
 calm:=X.calm
 pn:=[]
 xe:=fun _ _=>False
def stC(n:Nat)(caps:List Nat)(σ:L2.St):L2.St:=QX n none++caps.map fun i=>(σ[i]?).getD none
def Cp(wi:TI)(g:TG)(te:TE)(n:Nat)(caps:List Nat):TE:=fun σ H Q=>wi σ H fun J H1=>∀l,H1 l=none->∃W:Nat->Nat->L2.St->Hp->Prop,(∃m,W 0 m (stC n caps σ) (upd H1 l (.lst [])))/\
 ∀i m σ' H2,W i m σ' H2->(J.stop i H2/\Q (.ref l) H2)\/(J.go i H2/\∃N:L2.St->Hp->Prop,(∀σ'' H',N σ'' H'->∃m',m'<m/\W (i+1) m' σ'' H')/\
  ∀x H3,J.yld i H2 x H3->g x σ' H3 fun σ2 H4=>te σ2 H4 fun v H5=>∃ys,H5 l=some (.lst ys)/\ys.length<QD/\N σ2 (upd H5 l (.lst (ys++[v]))))
def ud{prog:Qx}{w:Z7}{A:Z9}{R:Result->Q3->Prop}{s:Q3}{elt target iter:QB}{scope:Zl}{pos:Pos}{it acc:Q2}{env:Env}(I:Nat->Q3->Prop)
  (turn:∀n s,I n s->wpAny (Qy prog w) A (pyNext it) (fun r s₁=>match r with
   |none=>R (.ok .next) s₁
   | some v=>wpAny (Qy prog w) A (letOwnedTupleGo target it v) (fun _ s₁'=>wpAny (Qy prog w) A (assign target env v) (fun _ s₂=>wpAny (Qy prog w) A (eval elt env) (fun x s₃=>
     wpAny (Qy prog w) A (call (.builtin "list.append") [acc,x]) (fun _ s₄=>∃m,m<n/\I m s₄) (fun _ _=>False) s₃)
     (fun _ _=>False) s₂) (fun _ _=>False) s₁') (fun _ _=>False) s₁) (fun _ _=>False) s)
  (n:Nat) (h:I n s) :
  codeAny (Qy prog w) A (.compLoop (.ListComp elt [⟨target,iter,[],0⟩] scope pos) 0 it acc env) R s:=by
 refine codeAny_loop rfl I (fun n s hI=>?_) n h;show wpAny _ _ ((compTurn (.ListComp elt [⟨target,iter,[],0⟩] scope pos) 0 it acc env).onRaise (fun x=>do noteFrame x env;theTreesLotGoes x)) _ _ s;refine wpAny_noted ?_;rw[compTurn_list1];refine Q5 (wpAny_standAt (Q5 (ZT (turn n s hI) (fun r s₁ h₁=>?_) fun _ _ h'=>h'.elim)));cases r with
 |none=>exact Qq h₁
 |some v=>
  refine Q5 (ZT h₁ (fun _ s₁' h₁'=>?_) fun _ _ h'=>h'.elim);exact Q5 (ZT h₁' (fun _ s₂ h₂=>Q5 (Q5 (ZT h₂ (fun x s₃ h₃=>Q5 (ZT h₃
   (fun _ s₄ h₄=>Qq (Qq ⟨rfl,h₄⟩)) fun _ _ h'=>h'.elim)) fun _ _ h'=>h'.elim))) fun _ _ h'=>h'.elim)
section
variable{pins:List (Addr×Obj)}{σ:L2.St}{H:Hp}{s:Q3}{Nc capN:List Str}{scope:Zl}{cl:List (Str×Addr)}{fp:List Addr}{n:Nat}{caps:List Nat}
def Cap(X:Cx)(scope:Zl)(cl:List (Str×Addr))(i:Nat)(y:Str):Prop:=X.N[i]?=some y/\X.env.scope.names.lookup y=some .cell/\(relabel scope X.env).names.lookup y=some .cell/\∃c,cl.lookup y=some c
def Inv.comp{h1:Heap}{t':Nat}(I:Inv X pins σ H s)(hc:X.calm=true)(f2:∀b∈fp,yq X pins H b)(fo:∀b∈fp,b<s.heap.objs.size)(hkind:scope.kind=.function)(hcl:xp X.env cl)
  (hhas:((relabel scope X.env).names.all fun p=>!(p.2 == .cell||p.2 == .free)||(cl.lookup p.1).isSome)=true)
  (hcap:Paired (Cap X scope cl) caps capN) (tn:List Str) (hN:Nc=tn++capN) (hn:tn.length=n)
  (hns:h1.Ns s.heap.objs.size (fun _=>none)) (hk:∀b o,s.heap.get? b=some o->h1.get? b=some o) :
  Inv (cxC X Nc scope cl s H fp) [] (stC n caps σ) H { s with heap:=h1,toks:=t' }:=by
 have lkc:∀y c,cl.lookup y=some c->X.env.cells.lookup y=some c:=fun y c e=>hcl.look e;refine⟨⟨I.ok.mod,?_,I.ok.glob,I.ok.blt,Q7 _,fun x y c a b=>I.ok.inj x y c (lkc _ _ a) (lkc _ _ b),fun x hx=>?_,fun x c z=>(nomatch z),I.ok.hd,I.ok.frames,.inl rfl,fun b hb=>⟨Qr (fo b hb),fun x c e=>(f2 b hb).2.2.2.2.1 x c (lkc _ _ e)⟩,I.bs,ZQ I.ok.bsz I.sz,
  fun b o e hb=>?_,fun b hb z=>?_,I.stack,I.stkFree⟩,rfl,I.bare,Un.kept hk,⟨_,hns,fun i y v h1' h2 h3=>?_⟩,fun y c e=>?_,I.hok.fresh (Q7 _),fun y c e=>I.freeC y c (lkc _ _ e),fun p hp=>(by simp at hp),I.hok.kept hk,?_⟩
 exact hkind
 ·have hx':(relabel scope X.env).names.lookup x=some .cell\/(relabel scope X.env).names.lookup x=some .free:=hx;have mem:∀{k},(relabel scope X.env).names.lookup x=some k->(x,k)∈(relabel scope X.env).names:=fun{k} e=>by
   generalize (relabel scope X.env).names=L at e;induction L with
   |nil=>simp at e
   |cons p r ih=>
    obtain⟨a,b⟩:=p;rw[Zh]at e;by_cases q:(x == a)=true;rw[q]at e;cases e;have:x=a:=by simpa using q
    subst this;exact QN;rw[show(x == a)=false by simpa using q]at e;exact QY _ (ih e)
  have fin:∀{k},(k=NameKind.cell\/k=.free)->(relabel scope X.env).names.lookup x=some k->∃c,cl.lookup x=some c:=fun{k} hk' e=>by
   have:=Ze.mp hhas _ (mem e);dsimp only at this;have q:(cl.lookup x).isSome=true:=by
    rcases hk' with z|z<;>subst z<;>simpa using this
   exact ZF.mp q
  rcases hx' with e|e;exact fin (.inl rfl) e;exact fin (.inr rfl) e
 rcases(f2 b hb).2.2.2.1 with z|z;exact I.ok.noex b o e z;exact absurd (QM (QV e) I.ok.bsz) (Nat.not_lt.mpr z);rcases Qz.mp (I.stkSub b z)with q|q;exact(f2 b hb).2.1 q;exact(f2 b hb).2.2.1 q;obtain⟨m,hm,hl⟩:=I.loc;have h2':(stC n caps σ)[i]?=some (some v):=h2;have h1'':Nc[i]?=some y:=h1';unfold stC at h2';by_cases hi:i<n;rw[ZJ (by simpa using hi),Zy,X9 hi]at h2';cases h2';rw[ZZ (by simp;omega),List.length_replicate,QL]at h2';rw[hN,ZZ (by omega),hn]at h1'';have key:∀(j:Nat) {caps:List Nat} {capN:List Str},Paired (Cap X scope cl) caps capN->capN[j]?=some y->(Option.map (fun i=>(σ[i]?).getD none) caps[j]?)=some (some v)->∃k,Cap X scope cl k y/\σ[k]?=some (some v):=by
  intro j;induction j with
  |zero=>
   intro caps capN P e1 e2;cases P with
   |nil=>simp at e1
   |@cons a b l r p t=>
    simp at e1 e2;subst e1;cases q:σ[a]? with
    |none=>rw[q]at e2;simp at e2
    |some w'=>rw[q]at e2;simp at e2;subst e2;exact⟨a,p,q⟩
  |succ j ih=>
   intro caps capN P e1 e2;cases P with
   |nil=>simp at e1
   |cons p t=>exact ih t (by simpa using e1) (by simpa using e2)
 obtain⟨k,⟨c1,c2,c3,c,c4⟩,e⟩:=key _ hcap h1'' h2';obtain⟨u,r,lk⟩:=hl k y v c1 e (.inr (.inl c2));refine⟨u,r,.inr ⟨.inl c3,c,c4,?_⟩⟩;rcases lk with⟨z,_⟩|⟨_,c',e',o,ho,hd⟩;have z':X.env.scope.names.lookup y=some .local:=z;rw[c2]at z';cases z';rw[lkc _ _ c4]at e';cases e';exact⟨o,hk _ _ ho,hd⟩;obtain⟨v,o,ho,hd⟩:=I.cell y c (lkc _ _ e);exact⟨v,o,hk _ _ ho,hd⟩;show(stC n caps σ).length=Nc.length;have pl:caps.length=capN.length:=Paired.length hcap;unfold stC;rw[QH,List.length_replicate,Q9,hN,QH,hn,pl]
end
def w8{X:Cx}{Nc capN tn:List Str}{scope:Zl}{cl:List (Str×Addr)}{n:Nat}{caps:List Nat}{tg iter elt:QB}{pos:Pos}{wi:TI}{g:TG}{te:TE}
  (hc:X.calm=true) (hi:WI X tg iter wi) (hg:∀s3 H3 fp,WG (cxC X Nc scope cl s3 H3 fp) tg g) (he:∀s3 H3 fp,WE (cxC X Nc scope cl s3 H3 fp) elt te)
  (hclos:closureFor scope X.env=pure cl) (hkind:scope.kind=.function) (hnl:∀x∈scope.names,x.2=.local->scope.names.lookup x.1=some .local) (hcell:∀x∈scope.names,x.2≠.cell)
  (hcl:xp X.env cl) (hhas:((relabel scope X.env).names.all fun p=>!(p.2 == .cell||p.2 == .free)||(cl.lookup p.1).isSome)=true)
  (hcap:Paired (Cap X scope cl) caps capN) (hN:Nc=tn++capN) (hn:tn.length=n)
  {use:Option (Q2->Sem Unit)} {pins:List (Addr×Obj)} {σ:L2.St} {H:Hp} {s:Q3} {Q:VK} {Qf:Q2->Q3->Prop} (I:Inv X pins σ H s) (h:Cp wi g te n caps σ H Q)
  (hend:∀(D C:Addr) (s6:Q3) (H5:Hp) (m:Str->Option Q2),Inv X pins σ H5 s6->s6.heap.Ns C m->H5 C=none->C≠X.env.locals->X.s₀.heap.objs.size<=C->(∀x c,X.env.cells.lookup x=some c->c≠C)->(∀p∈X.pn++pins,p.1≠C)->Q (.ref D) H5->compPost (Qy X.prog X.w) X.A X.xe use Qf (.ref D) C (.ok .next) s6)
  (hs:∀x,foldedSetIterable iter X.env x=pure x) :
  wpAny (Qy X.prog X.w) X.A (comprehension (.ListComp elt [⟨tg,iter,[],0⟩] scope pos) scope X.env (firstIterPos [⟨tg,iter,[],0⟩] pos) (newList []) (firstAsync [⟨tg,iter,[],0⟩]) (firstIter [⟨tg,iter,[],0⟩] X.env) use) Qf X.xe s:=by
 refine wpAny_comprehension_free (use:=use) (g:=⟨tg,iter,[],0⟩) (gs:=[]) rfl hs hclos hkind hnl (thn (hi.h pins s σ H _ I h) fun v s1 h1=>thn h1 fun itv s2 h2=>?_);obtain⟨it,fp,tnn,J,H2,rfl,I2,T,st2,f2,hW⟩:=h2;have hD:=I2.fresh;obtain⟨W,⟨m0,w0⟩,turn⟩:=hW _ hD;refine wpAny_newObj_type (wpAny_newFunctionEnv hcell (by intro y hy;simp at hy) (fun h₁ hns₁ hsb₁=>?_) hkind);dsimp only at hns₁ hsb₁ ⊢;have I3:Inv X pins σ (upd H2 s2.heap.objs.size (.lst [])) { s2 with heap:=s2.heap.push { cls:=.type "list",dict:=none,data:=.seq ([]:List Q2).toArray },toks:=s2.toks }:=I2.lnew (its:=[]) .nil (ZC _);generalize hs3:({ s2 with heap:=s2.heap.push { cls:=.type "list",dict:=none,data:=.seq ([]:List Q2).toArray },toks:=s2.toks }:Q3)=s3 at I3;have es3:s3.heap=s2.heap.push { cls:=.type "list",dict:=none,data:=.seq ([]:List Q2).toArray }:=by rw[<-hs3]
 generalize hDD:s2.heap.objs.size=D at *;have kept:∀b o,s3.heap.get? b=some o->h₁.get? b=some o:=fun b o e=>by
  have lt:=QV e;rw[es3]at lt e;exact hsb₁.extBut b o (Qr lt) (Q6 _ e)
 have old:∀b o,s2.heap.get? b=some o->s3.heap.get? b=some o:=fun b o e=>by rw[es3];exact Q6 _ e
 have ltD:∀b∈fp,b<D:=fun b hb=>by
  obtain⟨o,e,_⟩:=T.obj 0 _ st2 b hb;rw[<-hDD];exact QV e
 have fo:∀b∈fp,b<s3.heap.objs.size:=fun b hb=>by
  obtain⟨o,e,_⟩:=T.obj 0 _ st2 b hb;exact QV (old _ _ e)
 have f3:∀b∈fp,yq X pins (upd H2 D (.lst [])) b:=fun b hb=>by
  refine⟨?_,(f2 b hb).2⟩;rw[aI (Qr (ltD b hb))];exact(f2 b hb).1
 rw[<-es3]at hns₁ hsb₁ ⊢;have Ic:=fun t'=>Inv.comp (h1:=h₁) (t':=t') (Nc:=Nc) (n:=n) I3 hc f3 fo hkind hcl hhas hcap tn hN hn hns₁ kept;have stat:∀{H':Hp},(∀b∈fp,H' b=none)->∀b∈fp,yq (cxC X Nc scope cl s3 (upd H2 D (.lst [])) fp) [] H' b:=fun hn' b hb=>by
  refine⟨hn' b hb,Qr (fo b hb),fun z=>?_,.inl hb,fun x c e=>(f2 b hb).2.2.2.2.1 x c (hcl.look e),fun p hp=>(by simp at hp)⟩;rcases Qz.mp (I3.stkSub b z)with q|q;exact(f2 b hb).2.1 q;exact(f2 b hb).2.2.1 q
 have loop:∀s4:Q3,(∃t',s4={ s3 with heap:=h₁,toks:=t' })->codeAny (Qy X.prog X.w) X.A (.compLoop (.ListComp elt [⟨tg,iter,[],0⟩] scope pos) 0 (.ref it) (.ref D) (compEnvC scope cl s3.heap.objs.size X.env))
   (compPost (Qy X.prog X.w) X.A X.xe use Qf (.ref D) s3.heap.objs.size) s4:=by
  rintro s4 ⟨t',rfl⟩;refine ud (fun n' s'=>∃i σ' H',Inv (cxC X Nc scope cl s3 (upd H2 D (.lst [])) fp) [] σ' H' s'/\tnn i s'.heap/\(∀b∈fp,H' b=none)/\W i n' σ' H') ?_ m0
   ⟨0,_,_,Ic t',T.keep 0 _ _ st2 fun b hb o e=>kept _ _ (old _ _ e),fun b hb=>(f3 b hb).1,w0⟩
  rintro n' s5 ⟨i,σ5,H5,I5,st5,fr5,w5⟩;rcases turn i n' σ5 H5 w5 with⟨stop,qn⟩|⟨go,N,hN',step⟩;refine thn (T.done (cxC X Nc scope cl s3 (upd H2 D (.lst [])) fp) rfl rfl rfl hc i [] s5 σ5 H5 (fun _ _=>False) I5 (stat fr5) st5 stop) fun r s6 ⟨hr,I6⟩=>?_;subst hr;obtain⟨m,hm,_⟩:=I6.loc;have I7:Inv X pins σ H5 s6:=Inv.call' (ch:=fp) I3 I6.os I6.base I6.hok I6.bare fun b hb=>⟨(f2 b hb).2.2.2.1,(f2 b hb).2.1,(f2 b hb).2.2.2.2.1,(f2 b hb).2.2.2.2.2⟩;exact hend D _ s6 H5 m I7 hm I6.free (Ne.symm (Qr I3.lt)) I3.sz (fun x c e=>by
    obtain⟨v',o,ho,_⟩:=I3.cell x c e;exact Qr (QV ho)) (fun p hp=>Qr (QV (I3.pin p hp).1)) qn
  refine thn (T.item (cxC X Nc scope cl s3 (upd H2 D (.lst [])) fp) rfl rfl rfl hc i [] s5 σ5 H5 (fun _ _=>False) I5 (stat fr5) st5 go) fun r s6 ⟨u,hr,h6⟩=>?_;subst hr;refine thn h6 fun _ s7 hz=>?_;obtain⟨x,H7,I7,r7,y7,st7,fr7⟩:=hz;have I7':=I7.pinned (stat fr7) (T.obj _ _ st7);refine thn ((hg s3 (upd H2 D (.lst [])) fp).h _ s7 σ5 H7 x u _ I7' r7 (step x H7 y7)) fun _ s8 hz=>?_;obtain⟨σ8,H8,I8,q8⟩:=hz;refine thn ((he s3 (upd H2 D (.lst [])) fp).h _ s8 σ8 H8 _ I8 q8) fun v9 s9 hz=>?_;obtain⟨x9,H9,I9,r9,ys,hy,hlt,q9⟩:=hz;refine thn (nQ (X:=cxC X Nc scope cl s3 (upd H2 D (.lst [])) fp) _ s9 σ8 H9 (.ref D) [x9] (.ref D) [v9] (fun _ H'=>N σ8 H') I9 rfl (.cons r9 .nil) ⟨D,ys,x9,rfl,rfl,hy,hlt,q9⟩) fun _ s10 hz=>?_;obtain⟨_,H10,I10,_,q10⟩:=hz;obtain⟨m',hm,w10⟩:=hN' σ8 H10 q10;refine⟨m',hm,i+1,σ8,H10,I10.unpinned,T.keep _ _ _ st7 fun b hb o e=>(I10.pin (b,o) (QC _ (QC _ (fN hb e)))).1,fun b hb=>?_,w10⟩;obtain⟨o,e,d⟩:=T.obj _ _ st7 b hb;exact(I10.pin (b,o) (QC _ (QC _ (fN hb e)))).2.1
 have e4:∀t',({ s2 with heap:=h₁,toks:=t' }:Q3)={ s3 with heap:=h₁,toks:=t' }:=fun t'=>by rw[<-hs3]
 refine codeAny_compStart_list (loop _ ⟨_,e4 _⟩) (T.self _ 0 _ _ _ (T.keep 0 _ _ st2 fun b hb o e=>kept _ _ (old _ _ e)) (loop _ ⟨_,e4 _⟩))
def vS{X:Cx}{Nc capN tn:List Str}{scope:Zl}{cl:List (Str×Addr)}{n:Nat}{caps:List Nat}{tg iter elt:QB}{pos:Pos}{wi:TI}{g:TG}{te:TE}
  (hc:X.calm=true) (hi:WI X tg iter wi) (hg:∀s3 H3 fp,WG (cxC X Nc scope cl s3 H3 fp) tg g) (he:∀s3 H3 fp,WE (cxC X Nc scope cl s3 H3 fp) elt te)
  (hclos:closureFor scope X.env=pure cl) (hkind:scope.kind=.function) (hnl:∀x∈scope.names,x.2=.local->scope.names.lookup x.1=some .local) (hcell:∀x∈scope.names,x.2≠.cell)
  (hcl:xp X.env cl) (hhas:((relabel scope X.env).names.all fun p=>!(p.2 == .cell||p.2 == .free)||(cl.lookup p.1).isSome)=true)
  (hcap:Paired (Cap X scope cl) caps capN) (hN:Nc=tn++capN) (hn:tn.length=n)
  (hs:∀x,foldedSetIterable iter X.env x=pure x:=by intro _;rfl) :
  WE X (.ListComp elt [⟨tg,iter,[],0⟩] scope pos) (Cp wi g te n caps):=by
 constructor;intro pins s σ H Q I h;rw[eval_ListComp];refine w8 hc hi hg he hclos hkind hnl hcell hcl hhas hcap hN hn I h (fun D C s6 H5 m I7 hm fr nl sz cn pn qn=>⟨m,hm,fun h' hs'=>?_⟩) hs;exact⟨.ref D,H5,I7.turned (t':=s6.toks) (it:=C) (fun b o hb e=>hs'.extBut b o hb e) fr nl (.inr sz) cn pn,rfl,qn⟩
def uH:∀{bs:List Bool} {us:List Q2} {i:Nat} {v:Q2},bX (bs.map V.bl) us->us[i]?=some v->∃b,bs[i]?=some b/\v=.bool b
 |[],_,_,_,r,e=>by cases r;simp at e
 |b::bs,_,0,_,.cons r _,e=>by
  have r':_=Value.bool b:=r;simp at e;subst e;exact⟨b,by simp,r'⟩
 |b::bs,_,i+1,v,.cons _ t,e=>by
  obtain⟨b',e1,e2⟩:=uH (i:=i) (v:=v) t (by simpa using e);exact⟨b',by simpa using e1,e2⟩
def El(bs:List Bool):(QF bs.length).all (fun i=>(bs[i]?).getD true)=bs.all id:=by
 rw[Zc,Ze,Ze];constructor;intro h b hb;obtain⟨i,hi,e⟩:=List.mem_iff_getElem.mp hb;have:=h i (ZN.mpr hi);rw[QQ hi,ZP,e]at this;exact this;intro h i hi;have hi':=ZN.mp hi;have:=h _ (List.getElem_mem hi');rw[QQ hi',ZP];exact this
def zZ{h:Heap}{b:Addr}{o:Obj}(e:h.get? b=some o):¬b∈[h.objs.size]:=fun z=>by
 have z':b=h.objs.size:=by simpa using z
 exact absurd (QV e) (by rw[z'];exact Zr _)
def Eb(hc:X.calm=true):gU X (.builtin "all") (fun xs H Q=>∃(p:Addr) (bs:List Bool),xs=[.ref p]/\SqL X.K H p (bs.map V.bl)/\Q (.bl (bs.all id)) H):=by
 intro pins s σ H xs us Q I r h;obtain⟨p,bs,rfl,hq,q⟩:=h;obtain⟨u,rfl,rx⟩:=mL r;cases rx;obtain⟨its,rv,pl,hz⟩:=I.list hq;have hlen:=rv.length;rw[Q9]at hlen;refine call_all_walk (wpAny_pyIter_list pl.isList ?_);have lt:p<s.heap.objs.size:=by obtain⟨o,e,_⟩:=pl.isList;exact QV e
 refine⟨s.heap.objs.size,_,_,_,_,_,fun i=>(bs[i]?).getD true,rfl,Walks.list (show X.A.in1.handled=none from I.ok.hd hc) s.heap.objs.size p (Qr lt) its.toArray,⟨⟨_,Qv _ rfl,rfl,rfl⟩,pl.isList.at fun o e=>Q6 _ e⟩,?_,fun h' tk hk=>?_⟩;intro i v s' Q' E' hP hQ;have hP':its.toArray[i]?=some v:=hP;obtain⟨b,e1,e2⟩:=uH rv (by simpa using hP');subst e2;dsimp only at hQ;rw[e1,ZP]at hQ;exact wpAny_truthy_bool hQ;have e:(QF its.toArray.size).all (fun i=>(bs[i]?).getD true)=bs.all id:=by
  rw[QR,<-hlen];exact El bs
 rw[e];exact⟨.bl (bs.all id),H,I.kept fun b o e=>hk b o (zZ e) (Q6 _ e),rfl,q⟩
open PySem.AutoSeq1 (wpAny_loadPart')
def Ea{prog:Qx}{w:Z7}{A:Z9}{E:Q2->Q3->Prop}{s:Q3}{t b:Addr}{vs ws:List Q2}{Q:Q2->Q3->Prop}(ht:IsTup s.heap t vs.toArray)(hb:IsTup s.heap b ws.toArray)(hv:vs=[])
  (h1:Q (.ref b) s):wpAny (Qy prog w) A (binaryOp .Add (.ref t) (.ref b)) Q E s:=by
 obtain⟨⟨cls,dd,data,sl⟩,ho,hc,n,hd⟩:=id ht;obtain⟨⟨cls2,dd2,data2,sl2⟩,ho2,hc2,n2,hd2⟩:=id hb;simp only at hc hd hc2 hd2;subst hc hd hc2 hd2;exact concat_meets ⟨_,ho,rfl⟩ ⟨_,ho2,rfl⟩ noFill_tuple_add seq_tuple_add PySem.F.slot_tuple_add PySem.F.entry_tuple_add (PySem.F.args_tuple_add_2 _ _)
   (tuple_addW0 t b vs.toArray ws.toArray n n2 dd dd2 sl sl2 (by simp[hv])) ⟨ho,ho2,h1⟩
def mi:fillsNumberSlot (.type "tuple") "mul"=pure false:=
 PySem.fillsNumberSlot_seq (id:="tuple.__mul__") (r:=some (.builtin "tuple.__rmul__")) F.slot_tuple_mul.lookup (by decide +kernel) F.slot_tuple_rmul.lookup (by decide +kernel)
def sI:seqRepeat? (.type "tuple")=pure (some (.builtin "tuple.__mul__")):=by
 unfold seqRepeat?;rw[PySem.seqSlot_of (T:="tuple") (name:="__mul__") (id:="tuple.__mul__") F.slot_tuple_mul.lookup (by decide +kernel),PySem.seqSlot_of (T:="tuple") (name:="__rmul__") (id:="tuple.__rmul__") F.slot_tuple_rmul.lookup (by decide +kernel)];rfl
def oI(a:Int)(t:Tok)(l:Addr)(items:Array Q2)(n:Nat)(dd:Option Addr)(sl:Array (Option Q2)) :
  Meets (Builtin.«int.__rmul__» ⟨[.int a t,.ref l],[]⟩) (fun _ R s=>s.heap.get? l=some { cls:=.type "tuple",dict:=dd,data:=.seq items n,slots:=sl }/\R (.ok (.ret Value.notImplemented)) s):=
 .of_wp fun prog w A R s h=>by obtain⟨hp,g,d,tk,os⟩:=s;obtain⟨hl,h⟩:=h;wp_walk using wpAny_loadPart' hl;exact⟨_,rfl,h⟩
def uK(l:Addr)(items:Array Q2)(n:Nat)(dd:Option Addr)(sl:Array (Option Q2))(t:Tok) :
  Meets (Builtin.«tuple.__mul__» ⟨[.ref l,.int 1 t],[]⟩) (fun _ R s=>s.heap.get? l=some { cls:=.type "tuple",dict:=dd,data:=.seq items n,slots:=sl }/\R (.ok (.ret (Value.ref l))) s):=
 .of_wp fun prog w A R s h=>by obtain⟨hp,g,d,tk,os⟩:=s;obtain⟨hl,h⟩:=h;have f1:=AutoSeq1.idx_int;wp_walk using wpAny_loadPart' hl;exact⟨_,rfl,h⟩
def uJ(l:Addr)(items:Array Q2)(n:Nat)(dd:Option Addr)(sl:Array (Option Q2))(k:Int)(t:Tok)(hc0:¬(decide (k < -2^63)||decide (k≥2^63))=true)(hc1:¬(items.isEmpty||k == 1)=true)(hc2:¬(decide (k<=0)||items.isEmpty)=true)
  (hc3:¬((items.size:Int)*k>(2^63-1) / 8)) (hc4:¬Builtin.Tuple.tupleTooMany ((items.size:Int)*k)=true) (hz:(List.foldl (fun x1 x2=>x1++x2) #[] (QX k.toNat items)).size<=QD) :
  Meets (Builtin.«tuple.__mul__» ⟨[.ref l,.int k t],[]⟩) (fun _ R s=>s.heap.get? l=some { cls:=.type "tuple",dict:=dd,data:=.seq items n,slots:=sl }/\
   R (.ok (.ret (Value.ref s.heap.objs.size))) { s with heap:=s.heap.push { cls:=Value.type "tuple",data:=Data.seq (List.foldl (fun x1 x2=>x1++x2) #[] (QX k.toNat items)) } }):=
 .of_wp fun prog w A R s h=>by
  obtain⟨hp,g,d,tk,os⟩:=s;obtain⟨hl,h⟩:=h;have f1:=AutoSeq1.idx_int;have g0:(decide (k < -2^63)||decide (k≥2^63))=false:=by simpa using hc0
  have g1:(items.isEmpty||k == 1)=false:=by simpa using hc1
  have g2:(decide (k<=0)||items.isEmpty)=false:=by simpa using hc2
  have g4:Builtin.Tuple.tupleTooMany ((items.size:Int)*k)=false:=by simpa using hc4
  wp_walk using wpAny_loadPart' hl
  refine PySem.W.KFB.if_not g0 ?_
  wp_walk using wpAny_loadPart' hl
  try (refine PySem.W.KFB.if_not g1 ?_;wp_walk using wpAny_loadPart' hl)
  try (refine PySem.W.KFB.if_not g2 ?_;wp_walk using wpAny_loadPart' hl)
  try (rw[XQ hc3];wp_walk using wpAny_loadPart' hl)
  try (refine PySem.W.KFB.if_not g4 ?_;wp_walk using wpAny_loadPart' hl)
  try (refine wpAny_ite_false (XZ (Nat.not_lt.mpr hz)) ?_;wp_walk)
  exact⟨_,rfl,h⟩
def Ae{m:Int}(h0:0<=m)(h:m<2^60):m.natAbs.log2<9000:=by
 have:=xV (n:=m.natAbs) (by omega);omega
end OG
namespace OP
open PySem PySem.Spec PyProof.Rows L2 OG
inductive U where
 |non|bl (b:Bool)|int (i:Int)|str (x:Str)|tup (us:List U)|ref (l:Nat)|kl (ns:List Int)
structure Cl where
 C:Addr
 ns:List Str
inductive O where
 |lst (us:List U)|dic (kvs:List (Key×U))|ins (c:Cl) (fs:List (Option U))|fdc (ep:Nat) (kvs:List (Key×U))|dit (kvs:List (List Key×U))|fdt (ep:Nat) (kvs:List (List Key×U))|dnt (kvs:List (List (List Int)×U))|fdn (ep:Nat) (kvs:List (List (List Int)×U))|cod (p:Addr) (pos:Pos) (q:Str)
abbrev Sto:=List O
abbrev Rho:=List (Option U)
def KL(K:Q1)(H:Hp)(a:Addr)(ns:List Int):Prop:=
 (∃o,H a=some (.frz o (.lst (ns.map V.int))))\/
  ∃(o:Obj) (its:Array Q2) (n:Nat),K.lookup a=some o/\o.cls=.type "list"/\o.dict=none/\o.data=.seq its n/\its.size<=QD/\bX (ns.map V.int) its.toList
def KL.sq{K:Q1}{H:Hp}{a:Addr}{ns:List Int}(h:KL K H a ns):SqL K H a (ns.map V.int):=by
 rcases h with h|h;exact .inl (.inr h);exact .inr h
mutual
def Is(K:Q1)(m:List Addr)(H:Hp):V->U->Prop
 |v,.non=>v=.non
 |v,.bl b=>v=.bl b
 |v,.int i=>v=.int i
 |v,.str x=>v=.str x
 |v,.tup us=>∃a xs,v=.ref a/\SqT K H a xs/\IsL K m H xs us
 |v,.ref l=>∃a,m[l]?=some a/\v=.ref a
 |v,.kl ns=>∃a,v=.ref a/\KL K H a ns
def IsL(K:Q1)(m:List Addr)(H:Hp):List V->List U->Prop
 |xs,[]=>xs=[]
 |xs,u::us=>∃x r,xs=x::r/\Is K m H x u/\IsL K m H r us
end
structure BM(K:Q1)(H H':Hp):Prop where
 t:∀a xs,SqT K H a xs->SqT K H' a xs
 l:∀a ns,KL K H a ns->KL K H' a ns
 c:∀a ob,H a=some (.frz ob (.own 0))->H' a=some (.frz ob (.own 0))
structure Ext(K:Q1)(m:List Addr)(H:Hp)(m':List Addr)(H':Hp):Prop where
 pre:∃t,m'=m++t
 keep:BM K H H'
variable{K:Q1}{m m':List Addr}{H H':Hp}{us:List U}{a q:Addr}
section
variable{m'':List Addr}{H'':Hp}{v x:V}{u:U}{xs ys:List V}{ws:List U}{o:HO}
def Ext.refl:Ext K m H m H:=⟨⟨[],by simp⟩,fun _ _ h=>h,fun _ _ h=>h,fun _ _ h=>h⟩
def Ext.trans(a:Ext K m H m' H')(b:Ext K m' H' m'' H''):Ext K m H m'' H'':=by
 obtain⟨t,rfl⟩:=a.pre;obtain⟨t',rfl⟩:=b.pre;exact⟨⟨t++t',by simp⟩,fun c ys h=>b.keep.t c ys (a.keep.t c ys h),fun c ys h=>b.keep.l c ys (a.keep.l c ys h),fun c ob h=>b.keep.c c ob (a.keep.c c ob h)⟩
def Ext.of(k:BM K H H'):Ext K m H m H':=⟨⟨[],by simp⟩,k⟩
def Ext.new(k:BM K H H'):Ext K m H (m++[q]) H':=⟨⟨[q],rfl⟩,k⟩
def Ext.get{l:Nat}(e:Ext K m H m' H')(h:m[l]?=some a):m'[l]?=some a:=by
 obtain⟨t,rfl⟩:=e.pre;rw[ZJ (Q4.mp h).1];exact h
mutual
theorem Is.mono(e:Ext K m H m' H'):∀{v:V} {u:U},Is K m H v u->Is K m' H' v u
 |v,.non,h=>by unfold Is at h ⊢;exact h
 |v,.bl b,h=>by unfold Is at h ⊢;exact h
 |v,.int i,h=>by unfold Is at h ⊢;exact h
 |v,.str x,h=>by unfold Is at h ⊢;exact h
 |v,.tup us,h=>by
  unfold Is at h ⊢;obtain⟨a,xs,e1,k,l⟩:=h;exact⟨a,xs,e1,e.keep.t _ _ k,IsL.mono e l⟩
 |v,.ref l,h=>by
  unfold Is at h ⊢;obtain⟨a,k,e1⟩:=h;exact⟨a,e.get k,e1⟩
 |v,.kl ns,h=>by
  unfold Is at h ⊢;obtain⟨a,e1,k⟩:=h;exact⟨a,e1,e.keep.l _ _ k⟩
theorem IsL.mono(e:Ext K m H m' H'):∀{xs:List V} {us:List U},IsL K m H xs us->IsL K m' H' xs us
 |xs,[],h=>by unfold IsL at h ⊢;exact h
 |xs,u::us,h=>by
  unfold IsL at h ⊢;obtain⟨x,r,e1,k,l⟩:=h;exact⟨x,r,e1,Is.mono e k,IsL.mono e l⟩
end
def Is.int_{i:Int}:Is K m H (.int i) (.int i):=by unfold Is;rfl
def Is.bl_{b:Bool}:Is K m H (.bl b) (.bl b):=by unfold Is;rfl
def Is.non_:Is K m H .non .non:=by unfold Is;rfl
def Is.str_{x:Str}:Is K m H (.str x) (.str x):=by unfold Is;rfl
def Is.of_int{i:Int}(h:Is K m H v (.int i)):v=.int i:=by unfold Is at h;exact h
def Is.of_bl{b:Bool}(h:Is K m H v (.bl b)):v=.bl b:=by unfold Is at h;exact h
def Is.of_non(h:Is K m H v .non):v=.non:=by unfold Is at h;exact h
def Is.of_str{x:Str}(h:Is K m H v (.str x)):v=.str x:=by unfold Is at h;exact h
def Is.of_tup(h:Is K m H v (.tup us)):∃a xs,v=.ref a/\SqT K H a xs/\IsL K m H xs us:=by unfold Is at h;exact h
def Is.of_ref{l:Nat}(h:Is K m H v (.ref l)):∃a,m[l]?=some a/\v=.ref a:=by unfold Is at h;exact h
def Is.of_kl{ns:List Int}(h:Is K m H v (.kl ns)):∃a,v=.ref a/\KL K H a ns:=by unfold Is at h;exact h
def Is.kl_{ns:List Int}(e:KL K H a ns):Is K m H (.ref a) (.kl ns):=by unfold Is;exact⟨a,rfl,e⟩
def Is.tup_(e:SqT K H a xs)(h:IsL K m H xs us):Is K m H (.ref a) (.tup us):=by unfold Is;exact⟨a,xs,rfl,e,h⟩
def Is.ref_{l:Nat}(e:m[l]?=some a):Is K m H (.ref a) (.ref l):=by unfold Is;exact⟨a,e,rfl⟩
def IsL.nil_:IsL K m H [] []:=by unfold IsL;rfl
def IsL.cons_(h:Is K m H x u)(t:IsL K m H xs us):IsL K m H (x::xs) (u::us):=by unfold IsL;exact⟨x,xs,rfl,h,t⟩
def IsL.of_nil(h:IsL K m H xs []):xs=[]:=by unfold IsL at h;exact h
def IsL.of_cons(h:IsL K m H xs (u::us)):∃x r,xs=x::r/\Is K m H x u/\IsL K m H r us:=by unfold IsL at h;exact h
def IsL.length:∀{xs:List V} {us:List U},IsL K m H xs us->xs.length=us.length
 |xs,[],h=>by rw[h.of_nil];rfl
 |xs,d::ds,h=>by
  obtain⟨x,r,rfl,_,t⟩:=h.of_cons;rw[QK,QK,IsL.length t]
def IsL.getD:∀{xs:List V} {us:List U} {i:Nat} {u:U},IsL K m H xs us->us[i]?=some u->∃x,xs[i]?=some x/\Is K m H x u
 |xs,[],i,x,h,e=>by simp at e
 |xs,d::ds,0,x,h,e=>by
  obtain⟨y,r,rfl,k,t⟩:=h.of_cons;simp at e;subst e;exact⟨y,by simp,k⟩
 |xs,d::ds,i+1,x,h,e=>by
  obtain⟨y,r,rfl,k,t⟩:=h.of_cons;obtain⟨d',e1,e2⟩:=IsL.getD (i:=i) (u:=x) t (by simpa using e);exact⟨d',by simpa using e1,e2⟩
def IsL.append:∀{xs:List V} {us:List U},IsL K m H xs us->IsL K m H ys ws->IsL K m H (xs++ys) (us++ws)
 |xs,[],h,k=>by rw[h.of_nil];exact k
 |xs,d::ds,h,k=>by
  obtain⟨y,r,rfl,z,t⟩:=h.of_cons;exact .cons_ z (IsL.append t k)
def IsL.set:∀{xs:List V} {us:List U} {j:Nat},IsL K m H xs us->Is K m H x u->IsL K m H (xs.set j x) (us.set j u)
 |xs,[],j,h,k=>by rw[h.of_nil];exact .nil_
 |xs,d::ds,0,h,k=>by
  obtain⟨y,r,rfl,z,t⟩:=h.of_cons;exact .cons_ k t
 |xs,d::ds,j+1,h,k=>by
  obtain⟨y,r,rfl,z,t⟩:=h.of_cons;exact .cons_ z (IsL.set t k)
def IsL.drop:∀{xs:List V} {us:List U} (n:Nat),IsL K m H xs us->IsL K m H (xs.drop n) (us.drop n)
 |xs,us,0,h=>h
 |xs,[],n+1,h=>by rw[h.of_nil];exact .nil_
 |xs,d::ds,n+1,h=>by
  obtain⟨y,r,rfl,z,t⟩:=h.of_cons;exact IsL.drop n t
def IsL.take:∀{xs:List V} {us:List U} (n:Nat),IsL K m H xs us->IsL K m H (xs.take n) (us.take n)
 |xs,us,0,h=>.nil_
 |xs,[],n+1,h=>by rw[h.of_nil];exact .nil_
 |xs,d::ds,n+1,h=>by
  obtain⟨y,r,rfl,z,t⟩:=h.of_cons;exact .cons_ z (IsL.take n t)
def IsL.erase:∀{xs:List V} {us:List U} (n:Nat),IsL K m H xs us->IsL K m H (xs.eraseIdx n) (us.eraseIdx n)
 |xs,[],n,h=>by rw[h.of_nil];exact .nil_
 |xs,d::ds,0,h=>by
  obtain⟨y,r,rfl,z,t⟩:=h.of_cons;exact t
 |xs,d::ds,n+1,h=>by
  obtain⟨y,r,rfl,z,t⟩:=h.of_cons;exact .cons_ z (IsL.erase n t)
def IsL.rep:∀(n:Nat),IsL K m H xs us->IsL K m H (QX n xs).flatten (QX n us).flatten
 |0,h=>.nil_
 |n+1,h=>by
  rw[Zm,Zm,X5,X5];exact h.append (IsL.rep n h)
def wG(h:H a=some o)(nt:∀xs,o≠.tup xs)(nf:∀ob xs,o≠.frz ob (.tup xs))(nl:∀ob xs,o≠.frz ob (.lst xs))(nc:∀ob,o≠.frz ob (.own 0))(o':HO):BM K H (upd H a o'):=by
 refine⟨fun b xs q=>?_,fun b ns q=>?_,fun b ob q=>by rw[aI (fun z=>by subst z;rw[q]at h;cases h;exact nc _ rfl)];exact q⟩;rcases q with(q|⟨ob,q⟩)|q;have n:b≠a:=fun z=>by subst z;rw[q]at h;cases h;exact nt _ rfl
 exact .inl (.inl (by rw[aI n];exact q));have n:b≠a:=fun z=>by subst z;rw[q]at h;cases h;exact nf _ _ rfl
 exact .inl (.inr ⟨ob,by rw[aI n];exact q⟩);exact .inr q;rcases q with⟨ob,q⟩|q;have n:b≠a:=fun z=>by subst z;rw[q]at h;cases h;exact nl _ _ rfl
 exact .inl ⟨ob,by rw[aI n];exact q⟩;exact .inr q
def bY(s:Ep H H'):BM K H H':=by
 refine⟨fun b xs q=>?_,fun b ns q=>?_,fun b ob q=>s _ _ q⟩;rcases q with(q|⟨ob,q⟩)|q;exact .inl (.inl (s _ _ q));exact .inl (.inr ⟨ob,s _ _ q⟩);exact .inr q;rcases q with⟨ob,q⟩|q;exact .inl ⟨ob,s _ _ q⟩;exact .inr q
def bO(h:H q=none)(o':HO):BM K H (upd H q o'):=bY (f9 h o')
end
abbrev NK:=List (List Int)
def hNK(ks:NK):Int:=reduceHash (Builtin.Tuple.tupleHashOf (ks.map fun k=>reduceHash (Builtin.Tuple.tupleHashOf (k.map hashInt))))
abbrev KN:List ((NK×Addr)×V)->List (NK×Addr×Q2)->Prop:=Paired fun p q=>p.1.1=q.1/\p.1.2=q.2.1/\cI p.2 q.2.2
def dNo(a:Addr)(kvs:List ((NK×Addr)×V)):HO:=.ext fun h=>kvs.length<=QD/\(a == sysModules)=false/\∃xs,KN kvs xs/\
 ∃o es ep,h.get? a=some o/\o.ExactDict/\o.data=.dict es ep/\es.toList=(xs.map fun x=>(⟨hNK x.1,.ref x.2.1,x.2.2⟩:DictEntry))/\(xs.map (·.1)).Nodup
def L7(K:Q1)(H:Hp)(b:Addr)(k:NK):Prop:=∃cs:List Addr,SqT K H b (cs.map V.ref)/\Paired (fun(l:List Int) c=>SqT K H c (l.map V.int)) k cs
def L7.mono{K:Q1}{H H':Hp}{b:Addr}{k:NK}(e:BM K H H')(h:L7 K H b k):L7 K H' b k:=let ⟨cs,p,q⟩:=h;⟨cs,e.t _ _ p,Paired.mapP q fun _ _ z=>e.t _ _ z⟩
def nP(kvs:List ((NK×Addr)×V)):List (NK×V):=kvs.map fun p=>(p.1.1,p.2)
def IsP{κ:Type}(K:Q1)(m:List Addr)(H:Hp)(kvs:List (κ×V))(kus:List (κ×U)):Prop:=kvs.map (·.1)=kus.map (·.1)/\IsL K m H (kvs.map (·.2)) (kus.map (·.2))
def Rf(K:Q1)(m:List Addr)(H:Hp):Option V->Option U->Prop
 |some v,some u=>Is K m H v u
 |none,none=>True
 |_,_=>False
structure InF(K:Q1)(m:List Addr)(H:Hp)(c:Cl)(fs:List (Str×V))(fus:List (Option U)):Prop where
 nd:c.ns.Nodup
 few:c.ns.length<1000
 knd:(fs.map (·.1)).Nodup
 sub:∀x∈fs.map (·.1),x∈c.ns
 len:fus.length=c.ns.length
 at_:∀(i:Nat) (x:Str),c.ns[i]?=some x->Rf K m H (fs.lookup x) ((fus[i]?).join)
def Rf.mono{K:Q1}{m m':List Addr}{H H':Hp}{v:Option V}{u:Option U}(e:Ext K m H m' H')(h:Rf K m H v u):Rf K m' H' v u:=by
 cases v with
 |none=>cases u with
  |none=>trivial
  |some u=>exact h.elim
 |some v=>cases u with
  |none=>exact h.elim
  |some u=>exact Is.mono e h
def InF.mono{K:Q1}{m m':List Addr}{H H':Hp}{c:Cl}{fs:List (Str×V)}{fus:List (Option U)}(e:Ext K m H m' H')(h:InF K m H c fs fus):InF K m' H' c fs fus:=⟨h.nd,h.few,h.knd,h.sub,h.len,fun i x q=>(h.at_ i x q).mono e⟩
def Eo(H:Hp)(pos:Pos)(q:Str)(ps:Array Q2):Prop:=TriplesOk ps.toList/\(codeAmong pos ps.toList=none\/∃c ob vs t,codeAmong pos ps.toList=some (.ref c)/\H c=some (.frz ob (.own 0))/\ob.data=.fields vs/\vs[1]?=some (.str q t))
def Eo.mono{K:Q1}{H H':Hp}{pos:Pos}{q:Str}{ps:Array Q2}(e:BM K H H')(h:Eo H pos q ps):Eo H' pos q ps:=⟨h.1,h.2.imp id fun⟨c,ob,vs,t,h1,h2,h3⟩=>⟨c,ob,vs,t,h1,e.c _ _ h2,h3⟩⟩
def Ob(K:Q1)(m:List Addr)(H:Hp)(a:Addr):O->Prop
 |.lst us=>∃xs,H a=some (.lst xs)/\IsL K m H xs us
 |.dic kus=>∃kvs,H a=some (.dK kvs)/\IsP K m H kvs kus
 |.ins c fus=>∃dx fs,H a=some (.ins c.C dx fs)/\InF K m H c fs fus
 |.fdc ep kus=>∃ob es kvs,H a=some (.frz ob (.dK kvs))/\ob.data=.dict es ep/\IsP K m H kvs kus
 |.dit kus=>∃kvs,H a=some (.dT kvs)/\IsP K m H kvs kus
 |.fdt ep kus=>∃ob es kvs,H a=some (.frz ob (.dT kvs))/\ob.data=.dict es ep/\IsP K m H kvs kus
 |.dnt kus=>∃kvs,H a=some (dNo a kvs)/\(∀p∈kvs,L7 K H p.1.2 p.1.1)/\IsP K m H (nP kvs) kus
 |.fdn ep kus=>∃ob es kvs,H a=some (.frz ob (dNo a kvs))/\ob.data=.dict es ep/\(∀p∈kvs,L7 K H p.1.2 p.1.1)/\IsP K m H (nP kvs) kus
 |.cod p pos q=>a=p/\∃ps,H a=some (.tbl ps)/\Eo H pos q ps
structure Sr(K:Q1)(m:List Addr)(S:Sto)(H:Hp):Prop where
 len:m.length=S.length
 nd:m.Nodup
 ob:∀(l:Nat) (a:Addr) (o:O),m[l]?=some a->S[l]?=some o->Ob K m H a o
structure Lr(K:Q1)(m:List Addr)(H:Hp)(ρ:Rho)(σ:L2.St):Prop where
 len:ρ.length=σ.length
 at_:∀(i:Nat) (u:U),ρ[i]?=some (some u)->∃v,σ[i]?=some (some v)/\Is K m H v u
variable{S:Sto}{ρ:Rho}{σ:L2.St}{l:Nat}
section
variable{κ:Type}{o:O}{ho:HO}{v:V}{u:U}{kvs:List (κ×V)}{kus:List (κ×U)}
def IsP.mono(e:Ext K m H m' H')(h:IsP K m H kvs kus):IsP K m' H' kvs kus:=⟨h.1,h.2.mono e⟩
def IsP.length(h:IsP K m H kvs kus):kvs.length=kus.length:=by have:=h.2.length;simpa using this
def IsP.nil_:IsP (κ:=κ) K m H [] []:=⟨rfl,.nil_⟩
def IsP.cons_{k:κ}(h:Is K m H v u)(t:IsP K m H kvs kus):IsP K m H ((k,v)::kvs) ((k,u)::kus):=⟨by simp[t.1],.cons_ h t.2⟩
def IsP.ind{P:List (κ×V)->List (κ×U)->Prop}(h0:P [] [])(h1:∀k v u kvs kus,Is K m H v u->IsP K m H kvs kus->P kvs kus->P ((k,v)::kvs) ((k,u)::kus)):∀{kvs:List (κ×V)} {kus:List (κ×U)},IsP K m H kvs kus->P kvs kus
 |[],[],_=>h0
 |[],p::r,h=>by have:=h.length;simp at this
 |p::r,[],h=>by have:=h.length;simp at this
 |(k,v)::r,(k',u)::r',h=>by
  obtain⟨e,i⟩:=h;simp only[QU,List.cons.injEq]at e;obtain⟨e1,e2⟩:=e;subst e1;obtain⟨x,t,e3,iu,it⟩:=i.of_cons;cases e3;exact h1 k v u r r' iu ⟨e2,it⟩ (IsP.ind h0 h1 (⟨e2,it⟩:IsP K m H r r'))
def Ob.mono(e:Ext K m H m' H')(h1:H' a=H a)(h:Ob K m H a o):Ob K m' H' a o:=by
 cases o with
 |lst us=>obtain⟨xs,k,i⟩:=h;exact⟨xs,h1.trans k,i.mono e⟩
 |dic kus=>obtain⟨xs,k,i⟩:=h;exact⟨xs,h1.trans k,i.mono e⟩
 |ins C fus=>obtain⟨dx,fs,k,i⟩:=h;exact⟨dx,fs,h1.trans k,i.mono e⟩
 |fdc ep kus=>obtain⟨ob,es,kvs,k,d,i⟩:=h;exact⟨ob,es,kvs,h1.trans k,d,i.mono e⟩
 |dit kus=>obtain⟨xs,k,i⟩:=h;exact⟨xs,h1.trans k,i.mono e⟩
 |fdt ep kus=>obtain⟨ob,es,kvs,k,d,i⟩:=h;exact⟨ob,es,kvs,h1.trans k,d,i.mono e⟩
 |dnt kus=>obtain⟨kvs,k,y,i⟩:=h;exact⟨kvs,h1.trans k,fun p hp=>(y p hp).mono e.keep,i.mono e⟩
 |fdn ep kus=>obtain⟨ob,es,kvs,k,d,y,i⟩:=h;exact⟨ob,es,kvs,h1.trans k,d,fun p hp=>(y p hp).mono e.keep,i.mono e⟩
 |cod p pos q=>obtain⟨z,ps,k,i⟩:=h;exact⟨z,ps,h1.trans k,i.mono e.keep⟩
def Ob.some(h:Ob K m H a o):∃ho,H a=some ho/\(∀xs,ho≠.tup xs)/\(∀ob xs,ho≠.frz ob (.tup xs))/\(∀ob xs,ho≠.frz ob (.lst xs))/\(∀ob,ho≠.frz ob (.own 0)):=by
 cases o with
 |lst us=>obtain⟨xs,k,i⟩:=h;exact⟨_,k,by simp,by simp,by simp,by simp⟩
 |dic kus=>obtain⟨xs,k,i⟩:=h;exact⟨_,k,by simp,by simp,by simp,by simp⟩
 |ins C fus=>obtain⟨dx,fs,k,i⟩:=h;exact⟨_,k,by simp,by simp,by simp,by simp⟩
 |fdc ep kus=>obtain⟨ob,es,kvs,k,d,i⟩:=h;exact⟨_,k,by simp,by simp,by simp,by simp⟩
 |dit kus=>obtain⟨xs,k,i⟩:=h;exact⟨_,k,by simp,by simp,by simp,by simp⟩
 |fdt ep kus=>obtain⟨ob,es,kvs,k,d,i⟩:=h;exact⟨_,k,by simp,by simp,by simp,by simp⟩
 |dnt kus=>obtain⟨kvs,k,y,i⟩:=h;exact⟨_,k,by simp[dNo],by simp[dNo],by simp[dNo],by simp[dNo]⟩
 |fdn ep kus=>obtain⟨ob,es,kvs,k,d,y,i⟩:=h;exact⟨_,k,by simp,by simp[dNo],by simp[dNo],by simp[dNo]⟩
 |cod p pos q=>obtain⟨z,ps,k,i⟩:=h;exact⟨_,k,by simp,by simp,by simp,by simp⟩
def Lr.mono(e:Ext K m H m' H')(h:Lr K m H ρ σ):Lr K m' H' ρ σ:=⟨h.len,fun i u e1=>let ⟨v,e2,e3⟩:=h.at_ i u e1;⟨v,e2,e3.mono e⟩⟩
def Lr.set(h:Lr K m H ρ σ)(i:Nat)(hv:Is K m H v u):Lr K m H (ρ.set i (some u)) (σ.set i (some v)):=by
 refine⟨by simp[h.len],fun j w e=>?_⟩;by_cases c:i=j;subst c;rw[List.getElem?_set_self' ]at e;rw[List.getElem?_set_self'];have hl:=h.len;cases e1:ρ[i]? with
 |none=>rw[e1]at e;simp at e
 |some z=>
  rw[e1]at e;simp at e;subst e;have:i < σ.length:=by rw[<-hl];exact(Q4.mp e1).1
  rw[QQ this];exact⟨v,rfl,hv⟩
 rw[Qt c]at e;rw[Qt c];exact h.at_ j w e
def Sr.get(r:Sr K m S H)(h:S[l]?=some o):∃a,m[l]?=some a/\Ob K m H a o:=by
 have hl:l<m.length:=by rw[r.len];exact(Q4.mp h).1
 exact⟨_,QQ hl,r.ob _ _ _ (QQ hl) h⟩
def Sr.at_(r:Sr K m S H)(h:m[l]?=some a):∃o,S[l]?=some o/\Ob K m H a o:=by
 have hl:l<S.length:=by rw[<-r.len];exact(Q4.mp h).1
 exact⟨_,QQ hl,r.ob _ _ _ h (QQ hl)⟩
def Sr.same(r:Sr K m S H)(s:Ep H H'):Sr K m S H':=⟨r.len,r.nd,fun l a o h1 h2=>by
 have q:=r.ob l a o h1 h2;obtain⟨ho,e,_⟩:=q.some;exact q.mono (.of (bY s)) (by rw[s _ _ e,e])⟩
def Sr.new(r:Sr K m S H)(h:H q=none)(n:Ob K (m++[q]) (upd H q ho) q o):Sr K (m++[q]) (S++[o]) (upd H q ho):=by
 have hq:q∉m:=fun z=>by
  obtain⟨l,e⟩:=List.getElem?_of_mem z;obtain⟨o,_,k⟩:=r.at_ e;obtain⟨ho,e2,_⟩:=k.some;rw[h]at e2;cases e2
 refine⟨by simp[r.len],?_,fun l a o' h1 h2=>?_⟩;rw[X4];exact⟨r.nd,by simp,fun x hx y hy z=>by simp at hy;subst hy;subst z;exact hq hx⟩;by_cases c:l<m.length;rw[ZJ c]at h1;rw[ZJ (by rw[<-r.len];exact c)]at h2;have q':=r.ob l a o' h1 h2;obtain⟨ho',e,_⟩:=q'.some;exact q'.mono (.new (bO h _)) (by rw[aI (dM e h)]);have e:l=m.length:=by
  have:=(Q4.mp h1).1;simp at this;omega
 subst e;rw[ZZ (Q7 _)]at h1;rw[ZZ (by rw[r.len];exact Q7 _)]at h2;simp[r.len]at h1 h2;subst h1;subst h2;exact n
def Sr.put(r:Sr K m S H)(h:m[l]?=some a)(n:Ob K m (upd H a ho) a o):Sr K m (S.set l o) (upd H a ho):=by
 obtain⟨o0,h0,k0⟩:=r.at_ h;obtain⟨ho',e,nt,nf,nl,nc⟩:=k0.some;refine⟨by simp[r.len],r.nd,fun l' a' o' h1 h2=>?_⟩;by_cases c:l=l';subst c;rw[h]at h1;cases h1;rw[ZK (Q4.mp h0).1]at h2;cases h2;exact n;rw[Qt c]at h2;have na:a'≠a:=fun z=>by
  subst z;obtain⟨p1,e1⟩:=Q4.mp h;obtain⟨p2,e2⟩:=Q4.mp h1;exact c ((List.getElem_inj r.nd).mp (e1.trans e2.symm))
 exact(r.ob l' a' o' h1 h2).mono (.of (wG e nt nf nl nc _)) (by rw[aI na])
def Sr.keep(r:Sr K m S H)(h:m[l]?=some a)(ho:HO):BM K H (upd H a ho):=by
 obtain⟨o0,h0,k0⟩:=r.at_ h;obtain⟨ho',e,nt,nf,nl,nc⟩:=k0.some;exact wG e nt nf nl nc _
end
def kx(K:Q1)(m:List Addr)(H:Hp)(Q:VK)(u:U)(S':Sto):Prop:=∀m' v H',Ext K m H m' H'->Sr K m' S' H'->Is K m' H' v u->Q v H'
abbrev CE:=Rho->Sto->Option (U×Sto)
abbrev CT:=Rho->Sto->Option (Bool×Sto)
abbrev CA:=Rho->Sto->Option (List U×Sto)
inductive Out where
 |nx|rt (u:U)|bk|ct
abbrev CS:=Rho->Sto->Option (Out×Rho×Sto)
def Er(K:Q1)(m:List Addr)(H:Hp)(Q:Bool->Hp->Prop)(b:Bool)(S':Sto):Prop:=∀m' H',Ext K m H m' H'->Sr K m' S' H'->Q b H'
def O0(K:Q1)(m:List Addr)(H:Hp)(Q:List V->Hp->Prop)(us:List U)(S':Sto):Prop:=∀m' vs H',Ext K m H m' H'->Sr K m' S' H'->IsL K m' H' vs us->Q vs H'
def iO(K:Q1)(m:List Addr)(H:Hp)(Q:L2.St->Hp->Prop)(ρ':Rho)(S':Sto):Prop:=∀m' σ' H',Ext K m H m' H'->Sr K m' S' H'->Lr K m' H' ρ' σ'->Q σ' H'
def yh(K:Q1)(m:List Addr)(H:Hp)(D:BW):Out->Rho->Sto->Prop
 |.nx,ρ',S'=>iO K m H D.nx ρ' S'
 |.bk,ρ',S'=>iO K m H D.bk ρ' S'
 |.ct,ρ',S'=>iO K m H D.ct ρ' S'
 |.rt u,_,S'=>kx K m H D.rt u S'
def oa{α β γ δ ε:Type}{A B C D:α->β->γ->δ->ε->Prop}{p:Prop}(h:∃a b c d e,A a b c d e/\B a b c d e/\C a b c d e/\D a b c d e)(f:∀a b c d e,A a b c d e->B a b c d e->C a b c d e->D a b c d e->p):p:=by
 obtain⟨a,b,c,d,e,h1,h2,h3,h4⟩:=h;exact f a b c d e h1 h2 h3 h4
def wU{α β γ δ ε ζ:Type}{A B C D:α->β->γ->δ->ε->ζ->Prop}{p:Prop}(h:∃a b c d e g,A a b c d e g/\B a b c d e g/\C a b c d e g/\D a b c d e g)(f:∀a b c d e g,A a b c d e g->B a b c d e g->C a b c d e g->D a b c d e g->p):p:=by
 obtain⟨a,b,c,d,e,g,h1,h2,h3,h4⟩:=h;exact f a b c d e g h1 h2 h3 h4
def PJ{α β γ δ ε ζ:Type}{A B C D E:α->β->γ->δ->ε->ζ->Prop}{p:Prop}(h:∃a b c d e g,A a b c d e g/\B a b c d e g/\C a b c d e g/\D a b c d e g/\E a b c d e g)(f:∀a b c d e g,A a b c d e g->B a b c d e g->C a b c d e g->D a b c d e g->E a b c d e g->p):p:=by
 obtain⟨a,b,c,d,e,g,h1,h2,h3,h4,h5⟩:=h;exact f a b c d e g h1 h2 h3 h4 h5
def tE(K:Q1)(c:CE):TE:=fun σ H Q=>∃m ρ S u S',Sr K m S H/\Lr K m H ρ σ/\c ρ S=some (u,S')/\kx K m H Q u S'
def tT(K:Q1)(c:CT):TT:=fun σ H Q=>∃m ρ S u S',Sr K m S H/\Lr K m H ρ σ/\c ρ S=some (u,S')/\Er K m H Q u S'
def tA(K:Q1)(c:CA):TA:=fun σ H Q=>∃m ρ S u S',Sr K m S H/\Lr K m H ρ σ/\c ρ S=some (u,S')/\O0 K m H Q u S'
def tS(K:Q1)(c:CS):TS:=fun D σ H=>∃m ρ S o ρ' S',Sr K m S H/\Lr K m H ρ σ/\c ρ S=some (o,ρ',S')/\yh K m H D o ρ' S'
abbrev QE(X:Cx)(e:QB)(c:CE):Prop:=WE X e (tE X.K c)
abbrev QT(X:Cx)(e:QB)(c:CT):Prop:=WT X e (tT X.K c)
abbrev QW(X:Cx)(e:QB)(c:CT):Prop:=WW X e (tT X.K c)
abbrev QS(X:Cx)(e:Z0)(c:CS):Prop:=WS X e (tS X.K c)
abbrev QSs(X:Cx)(e:List Z0)(c:CS):Prop:=WSs X e (tS X.K c)
structure QA(X:Cx)(es:List QB)(c:CA):Prop where
 h:WA X es (tA X.K c)
 len:∀ρ S us S',c ρ S=some (us,S')->us.length=es.length
variable{X:Cx}{e:QB}{es:List QB}{sts:List Z0}
section
variable{st:Z0}
def _root_.OG.WE.imp{t t':TE}(h:WE X e t)(i:∀σ H Q,t' σ H Q->t σ H Q):WE X e t':=⟨fun pins s σ H Q I k=>h.h pins s σ H Q I (i σ H Q k)⟩
def _root_.OG.WT.imp{t t':TT}(h:WT X e t)(i:∀σ H Q,t' σ H Q->t σ H Q):WT X e t':=⟨fun pins s σ H Q I k=>h.h pins s σ H Q I (i σ H Q k)⟩
def _root_.OG.WW.imp{t t':TT}(h:WW X e t)(i:∀σ H Q,t' σ H Q->t σ H Q):WW X e t':=⟨fun wh pins s σ H Q I k=>h.h wh pins s σ H Q I (i σ H Q k)⟩
def _root_.OG.WA.imp{t t':TA}(h:WA X es t)(i:∀σ H Q,t' σ H Q->t σ H Q):WA X es t':=⟨fun pos pins s σ H Q I k=>h.h pos pins s σ H Q I (i σ H Q k)⟩
def _root_.OG.WS.imp{t t':TS}(h:WS X st t)(i:∀D σ H,t' D σ H->t D σ H):WS X st t':=⟨fun pins s σ H D I k=>h.h pins s σ H D I (i D σ H k)⟩
def _root_.OG.WSs.imp{t t':TS}(h:WSs X sts t)(i:∀D σ H,t' D σ H->t D σ H):WSs X sts t':=⟨fun pins s σ H D I k=>h.h pins s σ H D I (i D σ H k)⟩
def _root_.OG.WI.imp{tg:QB}{t t':TI}(h:WI X tg e t)(i:∀σ H R,t' σ H R->t σ H R):WI X tg e t':=⟨fun pins s σ H R I k=>h.h pins s σ H R I (i σ H R k)⟩
def _root_.OG.WG.imp{t t':TG}(h:WG X e t)(i:∀v σ H Q,t' v σ H Q->t v σ H Q):WG X e t':=⟨fun pins s σ H v u Q I r k=>h.h pins s σ H v u Q I r (i v σ H Q k)⟩
def _root_.OG.WGs.imp{t t':TGs}(h:WGs X es t)(i:∀v σ H Q,t' v σ H Q->t v σ H Q):WGs X es t':=⟨fun pins s σ H v u Q I r k=>h.h pins s σ H v u Q I r (i v σ H Q k)⟩
def _root_.OG.WE.or{t t':TE}(h:WE X e t)(h':WE X e t'):WE X e (fun σ H Q=>t σ H Q\/t' σ H Q):=⟨fun pins s σ H Q I k=>k.elim (h.h pins s σ H Q I) (h'.h pins s σ H Q I)⟩
def _root_.OG.WT.or{t t':TT}(h:WT X e t)(h':WT X e t'):WT X e (fun σ H Q=>t σ H Q\/t' σ H Q):=⟨fun pins s σ H Q I k=>k.elim (h.h pins s σ H Q I) (h'.h pins s σ H Q I)⟩
def _root_.OG.WS.or{t t':TS}(h:WS X st t)(h':WS X st t'):WS X st (fun D σ H=>t D σ H\/t' D σ H):=⟨fun pins s σ H D I k=>k.elim (h.h pins s σ H D I) (h'.h pins s σ H D I)⟩
def _root_.OG.WI.or{tg:QB}{t t':TI}(h:WI X tg e t)(h':WI X tg e t'):WI X tg e (fun σ H D=>t σ H D\/t' σ H D):=⟨fun pins s σ H D I k=>k.elim (h.h pins s σ H D I) (h'.h pins s σ H D I)⟩
end
section
variable{Q:VK}{R:L2.St->Hp->Prop}{D:BW}{u:U}{o:Out}{S':Sto}{ρ':Rho}
def kx.mono(e:Ext K m H m' H')(p:kx K m H Q u S'):kx K m' H' Q u S':=fun m2 v H2 e2 r i=>p m2 v H2 (e.trans e2) r i
def Er.mono{Q:Bool->Hp->Prop}{b:Bool}(e:Ext K m H m' H')(p:Er K m H Q b S'):Er K m' H' Q b S':=fun m2 H2 e2 r=>p m2 H2 (e.trans e2) r
def iO.mono(e:Ext K m H m' H')(p:iO K m H R ρ' S'):iO K m' H' R ρ' S':=fun m2 v H2 e2 r i=>p m2 v H2 (e.trans e2) r i
def yh.mono(e:Ext K m H m' H')(p:yh K m H D o ρ' S'):yh K m' H' D o ρ' S':=by
 cases o with
 |nx=>exact iO.mono e p
 |rt u=>exact kx.mono e p
 |bk=>exact iO.mono e p
 |ct=>exact iO.mono e p
end
def LIM:Nat:=100000
def lim{n:Nat}(h:n<=LIM):n<=QD:=ZQ h (by unfold LIM QD;decide)
def Mq{n:Nat}(h:n<LIM):n<QD:=QM h (by unfold LIM QD;decide)
def ah(i:Nat):CE:=fun ρ S=>match ρ[i]? with
 |some (some u)=>some (u,S)
 |_=>none
def cC(u:U):CE:=fun _ S=>some (u,S)
variable{b c:QB}{ca cb:CE}{pos:Pos}{ta tb:CT}{cr:CA}
section
variable{a:QB}
def CC{i:Nat}(h:WE X e (Mf i)):QE X e (ah i):=h.imp fun σ H Q hz=>oa hz fun m ρ S u S' sr lr hc post=>by
 unfold ah at hc;split at hc;rename_i u' e;cases hc;obtain⟨v,e1,e2⟩:=lr.at_ i u e;exact⟨v,e1,post m v H .refl sr e2⟩;cases hc
def q_c{v:V}{u:U}(h:WE X e (tC v))(hi:∀m H,Is X.K m H v u):QE X e (cC u):=h.imp fun σ H Q hz=>oa hz fun m ρ S u' S' sr lr hc post=>by
 cases hc;exact post m v H .refl sr (hi m H)
def NU{i:Int}(h:WE X e (tC (.int i))):QE X e (cC (.int i)):=q_c h fun _ _=>.int_
def Qh{i:Bool}(h:WE X e (tC (.bl i))):QE X e (cC (.bl i)):=q_c h fun _ _=>.bl_
def NQ{i:Str}(h:WE X e (tC (.str i))):QE X e (cC (.str i)):=q_c h fun _ _=>.str_
def NR(h:WE X e (tC .non)):QE X e (cC .non):=q_c h fun _ _=>.non_
def cOp(f:U->U->Sto->Option (U×Sto))(ca cb:CE):CE:=fun ρ S=>(ca ρ S).bind fun p=>(cb ρ p.2).bind fun q=>f p.1 q.1 q.2
def OpP(K:Q1)(r:R2)(f:U->U->Sto->Option (U×Sto)):Prop:=
 ∀m S H x y v w u S' Q,Sr K m S H->Is K m H v x->Is K m H w y->f x y S=some (u,S')->kx K m H Q u S'->r v w H Q
def zW{K:Q1}{r:R2}{f:U->U->Sto->Option (U×Sto)}(hp:OpP K r f):∀σ H Q,tE K (cOp f ca cb) σ H Q->tOp r (tE K ca) (tE K cb) σ H Q:=by
 rintro σ H Q ⟨m,ρ,S,u,S',sr,lr,hc,post⟩;obtain⟨⟨x,S1⟩,h1,h⟩:=Q0.mp hc;obtain⟨⟨y,S2⟩,h2,h3⟩:=Q0.mp h;exact⟨m,ρ,S,x,S1,sr,lr,h1,fun m1 v1 H1 e1 sr1 i1=>⟨m1,ρ,S1,y,S2,sr1,lr.mono e1,h2,fun m2 v2 H2 e2 sr2 i2=>hp m2 S2 H2 x y v1 v2 u S' Q sr2 (i1.mono e2) i2 h3 (post.mono (e1.trans e2))⟩⟩
def fq{op:Operator}{r:R2}{f:U->U->Sto->Option (U×Sto)}(ho:OpR X (binaryOp op) r)(hp:OpP X.K r f)(ha:QE X a ca)(hb:QE X b cb):QE X (.BinOp a op b pos) (cOp f ca cb):=(JB ho ha hb).imp (zW hp)
def oA{op:CmpOp}{r:R2}{f:U->U->Sto->Option (U×Sto)}(ho:OpR X (compareOp op) r)(hp:OpP X.K r f)(ha:QE X a ca)(hb:QE X b cb)(hm:behindInMarks op b=false):QE X (.Compare a [op] [b] pos) (cOp f ca cb):=(vT ho ha hb hm).imp (zW hp)
def aR(c:CE):CT:=fun ρ S=>(c ρ S).bind fun p=>match p.1 with
 |.bl b=>some (b,p.2)
 |_=>none
def my{K:Q1}{c:CE}{t:TE}(h:∀σ H Q,tE K c σ H Q->t σ H Q):∀σ H Q,tT K (aR c) σ H Q->t σ H fun x H'=>∃k,x=.bl k/\Q k H':=by
 rintro σ H Q ⟨m,ρ,S,u,S',sr,lr,hc,post⟩;obtain⟨⟨x,S1⟩,h1,h2⟩:=Q0.mp hc;refine h σ H _ ⟨m,ρ,S,x,S1,sr,lr,h1,fun m1 v1 H1 e1 sr1 i1=>?_⟩;cases x<;>simp at h2;obtain⟨rfl,rfl⟩:=h2;exact⟨_,i1.of_bl,post m1 H1 e1 sr1⟩
def aY{op:CmpOp}{r:R2}{f:U->U->Sto->Option (U×Sto)}(ho:OpR X (compareOp op) r)(hp:OpP X.K r f)(ha:QE X a ca)(hb:QE X b cb)(hm:behindInMarks op b=false):QT X (.Compare a [op] [b] pos) (aR (cOp f ca cb)):=(qe ho ha hb hm).imp (my (zW hp))
def gw(h:QE X e ca)(he:∀whole,isTrue e X.env whole=(do let v <-whole;standAt e.pos;holding [v] (truthy v)):=by intro _;rfl):QT X e (aR ca):=(FV h he).imp (my fun _ _ _ z=>z)
variable{rest:List QB}
def yf(ta tb:CT):CT:=fun ρ S=>(ta ρ S).bind fun p=>if p.1=true then tb ρ p.2 else some (false,p.2)
def cOr(ta tb:CT):CT:=fun ρ S=>(ta ρ S).bind fun p=>if p.1=true then some (true,p.2)else tb ρ p.2
def IL(ta:CT):CT:=fun ρ S=>(ta ρ S).bind fun p=>some (!p.1,p.2)
def CB(h:QW X e ta):QT X e ta:=WW.pt h
def pJ(ha:QT X a ta):QW X (.BoolOp .And [a] pos) ta:=BZ ha
def GO(ha:QT X a ta):QW X (.BoolOp .Or [a] pos) ta:=FT ha
def xK(ha:QT X a ta)(hb:QW X (.BoolOp .And (b::rest) pos) tb):QW X (.BoolOp .And (a::b::rest) pos) (yf ta tb):=(FU ha hb).imp fun σ H Q hz=>oa hz fun m ρ S u S' sr lr hc post=>by
 obtain⟨⟨x,S1⟩,h1,h2⟩:=Q0.mp hc;refine⟨m,ρ,S,x,S1,sr,lr,h1,fun m1 H1 e1 sr1=>?_⟩;cases x with
 |true=>exact IH ⟨m1,ρ,S1,u,S',sr1,lr.mono e1,h2,post.mono e1⟩
 |false=>cases h2;exact II (post m1 H1 e1 sr1)
def Mo(ha:QT X a ta)(hb:QW X (.BoolOp .Or (b::rest) pos) tb):QW X (.BoolOp .Or (a::b::rest) pos) (cOr ta tb):=(Jy ha hb).imp fun σ H Q hz=>oa hz fun m ρ S u S' sr lr hc post=>by
 obtain⟨⟨x,S1⟩,h1,h2⟩:=Q0.mp hc;refine⟨m,ρ,S,x,S1,sr,lr,h1,fun m1 H1 e1 sr1=>?_⟩;cases x with
 |true=>cases h2;exact IH (post m1 H1 e1 sr1)
 |false=>exact II ⟨m1,ρ,S1,u,S',sr1,lr.mono e1,h2,post.mono e1⟩
def zA(ha:QT X a ta):QT X (.UnaryOp .Not a pos) (IL ta):=(FW ha).imp fun σ H Q hz=>oa hz fun m ρ S u S' sr lr hc post=>by
 obtain⟨⟨x,S1⟩,h1,h2⟩:=Q0.mp hc;cases h2;exact⟨m,ρ,S,x,_,sr,lr,h1,fun m1 H1 e1 sr1=>post m1 H1 e1 sr1⟩
def ye(ca cb:CE):CE:=fun ρ S=>(ca ρ S).bind fun p=>match p.1 with
 |.bl true=>cb ρ p.2
 |.bl false=>some (.bl false,p.2)
 |_=>none
def LX(ca cb:CE):CE:=fun ρ S=>(ca ρ S).bind fun p=>match p.1 with
 |.bl false=>cb ρ p.2
 |.bl true=>some (.bl true,p.2)
 |_=>none
def Ec(ca:CE):CE:=fun ρ S=>(ca ρ S).bind fun p=>match p.1 with
 |.bl b=>some (.bl (!b),p.2)
 |_=>none
def zB{op}(h:QE X a ca):QE X (.BoolOp op [a] pos) ca:=Gf h
def zE(ha:QE X a ca)(hb:QE X (.BoolOp .And (b::rest) pos) cb):QE X (.BoolOp .And (a::b::rest) pos) (ye ca cb):=(Gn ha hb).imp fun σ H Q hz=>oa hz fun m ρ S u S' sr lr hc post=>by
 obtain⟨⟨x,S1⟩,h1,h2⟩:=Q0.mp hc;refine⟨m,ρ,S,x,S1,sr,lr,h1,fun m1 v1 H1 e1 sr1 i1=>?_⟩;cases x with
 |bl k=>
  refine⟨k,i1.of_bl,?_⟩;cases k with
  |true=>exact IH ⟨m1,ρ,S1,u,S',sr1,lr.mono e1,h2,post.mono e1⟩
  |false=>cases h2;exact II (post m1 _ H1 e1 sr1 .bl_)
 |_=>simp at h2
def J8(ha:QE X a ca)(hb:QE X (.BoolOp .Or (b::rest) pos) cb):QE X (.BoolOp .Or (a::b::rest) pos) (LX ca cb):=(JA ha hb).imp fun σ H Q hz=>oa hz fun m ρ S u S' sr lr hc post=>by
 obtain⟨⟨x,S1⟩,h1,h2⟩:=Q0.mp hc;refine⟨m,ρ,S,x,S1,sr,lr,h1,fun m1 v1 H1 e1 sr1 i1=>?_⟩;cases x with
 |bl k=>
  refine⟨k,i1.of_bl,?_⟩;cases k with
  |false=>exact II ⟨m1,ρ,S1,u,S',sr1,lr.mono e1,h2,post.mono e1⟩
  |true=>cases h2;exact IH (post m1 _ H1 e1 sr1 .bl_)
 |_=>simp at h2
def J9(ha:QE X a ca):QE X (.UnaryOp .Not a pos) (Ec ca):=(Gg ha).imp fun σ H Q hz=>oa hz fun m ρ S u S' sr lr hc post=>by
 obtain⟨⟨x,S1⟩,h1,h2⟩:=Q0.mp hc;refine⟨m,ρ,S,x,S1,sr,lr,h1,fun m1 v1 H1 e1 sr1 i1=>?_⟩;cases x with
 |bl k=>cases h2;exact⟨k,i1.of_bl,post m1 _ H1 e1 sr1 .bl_⟩
 |_=>simp at h2
def ay:CA:=fun _ S=>some ([],S)
def ag(ca:CE)(cr:CA):CA:=fun ρ S=>(ca ρ S).bind fun p=>(cr ρ p.2).bind fun q=>some (p.1::q.1,q.2)
def av:QA X [] ay:=⟨yR.imp fun σ H Q hz=>oa hz fun m ρ S u S' sr lr hc post=>by cases hc;exact post m [] H .refl sr .nil_,fun ρ S us S' h=>by cases h;rfl⟩
def ae(ha:QE X e ca)(hr:QA X es cr)(hs:QJ (e::es) X.env=(false,eval e X.env)::QJ es X.env:=by rfl):QA X (e::es) (ag ca cr):=⟨(vU ha hr.h hs).imp fun σ H Q hz=>oa hz fun m ρ S u S' sr lr hc post=>by
 obtain⟨⟨x,S1⟩,h1,h⟩:=Q0.mp hc;obtain⟨⟨y,S2⟩,h2,h3⟩:=Q0.mp h;cases h3;exact⟨m,ρ,S,x,S1,sr,lr,h1,fun m1 v1 H1 e1 sr1 i1=>⟨m1,ρ,S1,y,S2,sr1,lr.mono e1,h2,fun m2 v2 H2 e2 sr2 i2=>post m2 _ H2 (e1.trans e2) sr2 (.cons_ (i1.mono e2) i2)⟩⟩,
 fun ρ S us S' h=>by
 obtain⟨⟨x,S1⟩,h1,h⟩:=Q0.mp h;obtain⟨⟨y,S2⟩,h2,h3⟩:=Q0.mp h;cases h3;simp[hr.len ρ S1 y S2 h2]⟩
def iN(cr:CA):CE:=fun ρ S=>(cr ρ S).bind fun p=>some (.tup p.1,p.2)
def mH(cr:CA):CE:=fun ρ S=>(cr ρ S).bind fun p=>some (.ref p.2.length,p.2++[.lst p.1])
def dW{m:List Addr}{S:Sto}{q:Addr}(h:m.length=S.length):(m++[q])[S.length]?=some q:=by rw[ZZ (by omega)];simp[h]
def qu{K:Q1}{m:List Addr}{H:Hp}{S:Sto}{us:List U}{xs:List V}{Q:VK}{p:Addr}(sr:Sr K m S H)(i:IsL K m H xs us)(post:kx K m H Q (.tup us) S)(hp:H p=none):Q (.ref p) (upd H p (.tup xs)):=
 post m _ _ (.of (bO hp _)) (sr.same (f9 hp _)) (.tup_ (SqT.of aH) (i.mono (.of (bO hp _))))
def ft{K:Q1}{m:List Addr}{H:Hp}{S:Sto}{us:List U}{xs:List V}{Q:VK}{p:Addr}(sr:Sr K m S H)(i:IsL K m H xs us)(post:kx K m H Q (.ref S.length) (S++[.lst us]))(hp:H p=none):Q (.ref p) (upd H p (.lst xs)):=
 post (m++[p]) _ _ (.new (bO hp _)) (sr.new hp ⟨xs,aH,i.mono (.new (bO hp _))⟩) (.ref_ (dW sr.len))
def dC{x1}(h:QA X es cr)(hl:es.length<=1000:=by exact ZU rfl):QE X (.Tuple es x1 pos) (iN cr):=(Gd h.h).imp fun σ H Q hz=>oa hz fun m ρ S u S' sr lr hc post=>by
 obtain⟨⟨us,S1⟩,h1,h2⟩:=Q0.mp hc;cases h2;refine⟨m,ρ,S,us,_,sr,lr,h1,fun m1 v1 H1 e1 sr1 i1=>⟨sE ?_,fun p hp=>qu sr1 i1 (post.mono e1) hp⟩⟩;rw[i1.length,h.len _ _ _ _ h1];exact hl
def iU(h:QA X es cr)(hl:es.length<=1000:=by exact ZU rfl):QE X (.List es pos) (mH cr):=(Gi h.h).imp fun σ H Q hz=>oa hz fun m ρ S u S' sr lr hc post=>by
 obtain⟨⟨us,S1⟩,h1,h2⟩:=Q0.mp hc;cases h2;refine⟨m,ρ,S,us,_,sr,lr,h1,fun m1 v1 H1 e1 sr1 i1=>⟨sE ?_,fun p hp=>ft sr1 i1 (post.mono e1) hp⟩⟩;rw[i1.length,h.len _ _ _ _ h1];exact hl
def cCB(f:List U->Sto->Option (U×Sto))(cr:CA):CE:=fun ρ S=>(cr ρ S).bind fun p=>f p.1 p.2
def mv(K:Q1)(r:List V->Hp->VK->Prop)(f:List U->Sto->Option (U×Sto)):Prop:=
 ∀m S H us vs u S' Q,Sr K m S H->IsL K m H vs us->f us S=some (u,S')->kx K m H Q u S'->r vs H Q
def Fs{K:Q1}{r:List V->Hp->VK->Prop}{f:List U->Sto->Option (U×Sto)}(hp:mv K r f):∀σ H Q,tE K (cCB f cr) σ H Q->tCB r (tA K cr) σ H Q:=by
 rintro σ H Q ⟨m,ρ,S,u,S',sr,lr,hc,post⟩;obtain⟨⟨us,S1⟩,h1,h2⟩:=Q0.mp hc;exact⟨m,ρ,S,us,S1,sr,lr,h1,fun m1 v1 H1 e1 sr1 i1=>hp m1 S1 H1 us v1 u S' Q sr1 i1 h2 (post.mono e1)⟩
def cW{id:String}{x:Str}{p:Pos}{r:List V->Hp->VK->Prop}{f:List U->Sto->Option (U×Sto)}(hc:gU X (.builtin id) r)(hp:mv X.K r f)(hg:Gl X x)(hm:X.mg x=none)(hv:ZE x=some (.builtin id))(ha:QA X (e::es) cr)(hn:x≠"__name__":=by decide)(hdb:(x == ("__debug__":Str))=false:=by decide)(he:QJ (e::es) X.env=(false,eval e X.env)::QJ es X.env:=by rfl)(hpl:(ZD pos (QJ es X.env)).any (·.1)=false:=by rfl) :
  QE X (.Call (.Name x p) (e::es) [] pos) (cCB f cr):=(yN hc hg hm hv ha.h hn hdb he hpl).imp (Fs hp)
def jc{id:String}{x:Str}{p:Pos}{r:List V->Hp->VK->Prop}{f:List U->Sto->Option (U×Sto)}(hc:gU X (.type id) r)(hp:mv X.K r f)(hg:Gl X x)(hm:X.mg x=none)(hv:ZE x=some (.type id))(ha:QA X (e::es) cr)(hn:x≠"__name__":=by decide)(hdb:(x == ("__debug__":Str))=false:=by decide)(he:QJ (e::es) X.env=(false,eval e X.env)::QJ es X.env:=by rfl)(hpl:(ZD pos (QJ es X.env)).any (·.1)=false:=by rfl) :
  QE X (.Call (.Name x p) (e::es) [] pos) (cCB f cr):=(xC hc hg hm hv ha.h hn hdb he hpl).imp (Fs hp)
end
def yl(K:Q1)(f:List U->Sto->Option (U×Sto)):Sp:=fun vs H Q _=>∃m us S u S',IsL K m H vs us/\Sr K m S H/\f us S=some (u,S')/\kx K m H Q u S'
abbrev Fn:=List U->Sto->Option (U×Sto)
abbrev yp(P:Qx)(w:Z7)(K:Q1)(mg:Str->Option Q2)(base:Heap)(x:Str)(k:Nat)(ps:List Str)(f:Fn):Prop:=Has P w K mg base x k ps (yl K f)
def sj(n:Nat)(us:List U):Rho:=us.map some++QX (n-us.length) none
def fnU(n k:Nat)(c:CS):Fn:=fun us S=>if us.length=k then(c (sj n us) S).bind fun r=>match r.1 with
 |.rt u=>some (u,r.2.2)
 |.nx=>some (.non,r.2.2)
 |_=>none else none
section
variable{P:Qx}{w:Z7}{mg:Str->Option Q2}{base:Heap}{x:Str}{st:Z0}{ps N:List Str}{k:Nat}{c:CS}{f:Fn}
def Du{m:List Addr}{H:Hp}{vs:List V}{us:List U}(i:IsL K m H vs us):Lr K m H (sj N.length us) (L2.jU N vs):=by
 have hl:=i.length;refine⟨by simp[sj,L2.jU,hl],fun j u e=>?_⟩;unfold sj at e;unfold L2.jU;by_cases c:j<us.length;rw[ZJ (by simpa using c),QL]at e;rw[ZJ (by simpa [hl] using c),QL];rw[QQ c]at e;simp at e;obtain⟨v,e1,e2⟩:=i.getD (QQ c);rw[e1];subst e;exact⟨v,rfl,e2⟩
 ·rw[ZZ (by simpa using c),Zy]at e;split at e<;>cases e
def qU{X:Cx}{body:List Z0}{Q:VK}{E:XK}{vs:List V}{H:Hp}(hK:X.K=K)(h:yl K (fnU N.length ps.length c) vs H Q E):tS X.K c { nx:=fun _ H'=>Q .non H',rt:=Q } (L2.jU N vs) H:=by
 subst hK;obtain⟨m,us,S,u,S',i,sr,hf,post⟩:=h;unfold fnU at hf;split at hf;obtain⟨⟨o,ρ',S2⟩,h1,h2⟩:=Q0.mp hf;refine⟨m,_,S,o,ρ',S2,sr,Du i,h1,?_⟩;cases o with
 |rt v=>cases h2;exact post
 |nx=>cases h2;exact fun m1 σ1 H1 e1 sr1 _=>post m1 _ H1 e1 sr1 .non_
 |bk=>simp at h2
 |ct=>simp at h2
 cases hf
def mz{vs:List V}{H:Hp}{Q:VK}{E:XK}{n k:Nat}(h:yl K (fnU n k c) vs H Q E):vs.length=k:=by
 obtain⟨m,us,S,u,S',i,sr,hf,post⟩:=h;unfold fnU at hf;split at hf;rename_i e;rw[i.length,e];cases hf
def _root_.OG.Def.pure(d:Def K mg x st ps)(S:bU N ps (ax st))
  (hb:∀(f:Addr) (cdv:Q2) (A:Z9) (outer:List Env) (s:Q3) (H:Hp) (E:XK),eC k (A.deeper (envOfC x (ax st) s.heap.objs.size f cdv))->
   WSs (mr CX0 P w K mg base N x (ax st) f cdv A outer s H E).nox (bF st) (tS K c)):yp P w K mg base x (k+1) ps (fnU N.length ps.length c):=
 d.has S (fun vs H Q E h=>mz h) fun f cdv A outer s H vs Q E hr h=>⟨_,hb f cdv A outer s H E hr,qU (X:=(mr CX0 P w K mg base N x (ax st) f cdv A outer s H E).nox) (body:=[]) (ps:=ps) rfl h⟩
def _root_.OG.Def.no(d:Def K mg x st ps):yp P w K mg base x k ps (fun _ _=>none):=d.none fun vs H Q E h=>by
 obtain⟨m,us,S,u,S',i,sr,hf,post⟩:=h;cases hf
def bQ{X:Cx}{e:QB}{es:List QB}{cr:CA}{p pos:Pos}(F:Has X.prog X.w X.K X.mg X.base x k ps (yl X.K f))(hr:eC k X.A)(hg:Gl X x)(ha:QA X (e::es) cr)
  (hdb:(x == ("__debug__":Str))=false:=by decide) (he:QJ (e::es) X.env=(false,eval e X.env)::QJ es X.env:=by rfl) (hpl:(ZD pos (QJ es X.env)).any (·.1)=false:=by rfl) :
  QE X (.Call (.Name x p) (e::es) [] pos) (cCB f cr):=(JD F hr hg ha.h hdb he hpl).imp fun σ H Q hz=>oa hz fun m ρ S u S' sr lr hc post=>by
 obtain⟨⟨us,S1⟩,h1,h2⟩:=Q0.mp hc;exact⟨m,ρ,S,us,S1,sr,lr,h1,fun m1 v1 H1 e1 sr1 i1=>⟨m1,us,S1,u,S',by simpa using i1,sr1,h2,post.mono e1⟩⟩
end
variable{c1 c2:CS}
section
variable{a:QB}{st:Z0}
def bP:CS:=fun ρ S=>some (.nx,ρ,S)
def aV(c1 c2:CS):CS:=fun ρ S=>(c1 ρ S).bind fun r=>match r.1 with
 |.nx=>c2 r.2.1 r.2.2
 |o=>some (o,r.2.1,r.2.2)
def br:QSs X [] bP:=B4.imp fun D σ H hz=>wU hz fun m ρ S o ρ' S' sr lr hc post=>by cases hc;exact post m σ H .refl sr lr
def ak(h1:QS X st c1)(h2:QSs X sts c2):QSs X (st::sts) (aV c1 c2):=(yB h1 h2).imp fun D σ H hz=>wU hz fun m ρ S o ρ' S' sr lr hc post=>by
 obtain⟨⟨o1,ρ1,S1⟩,h1,h2⟩:=Q0.mp hc;refine⟨m,ρ,S,o1,ρ1,S1,sr,lr,h1,?_⟩;cases o1 with
 |nx=>exact fun m1 σ1 H1 e1 sr1 lr1=>⟨m1,ρ1,S1,o,ρ',S',sr1,lr1,h2,post.mono e1⟩
 |rt u=>cases h2;exact post
 |bk=>cases h2;exact post
 |ct=>cases h2;exact post
def aN(h1:QS X st c1):QSs X [st] c1:=B0 h1
def Cy:QS X (.Break pos) (fun ρ S=>some (.bk,ρ,S)):=yF.imp fun D σ H hz=>wU hz fun m ρ S o ρ' S' sr lr hc post=>by cases hc;exact post m σ H .refl sr lr
def uh:CS:=fun _ _=>none
def mC:QS X st uh:=yD.imp fun D σ H hz=>wU hz fun m ρ S o ρ' S' sr lr hc post=>by cases hc
def b8(ca:CE):CS:=fun ρ S=>(ca ρ S).bind fun p=>some (.nx,ρ,p.2)
def ba(he:QE X e ca)(hs:Za e none pos.line X.env=pure false:=by rfl):QS X (.Expr e pos) (b8 ca):=(B5 he hs).imp fun D σ H hz=>wU hz fun m ρ S o ρ' S' sr lr hc post=>by
 obtain⟨⟨u,S1⟩,h1,h2⟩:=Q0.mp hc;cases h2;exact⟨m,ρ,S,u,_,sr,lr,h1,fun m1 v1 H1 e1 sr1 i1=>post m1 σ H1 e1 sr1 (lr.mono e1)⟩
def bT(ca:CE):CS:=fun ρ S=>(ca ρ S).bind fun p=>some (.rt p.1,ρ,p.2)
def sL(he:QE X e ca):QS X (.Return (some e) pos) (bT ca):=(FY he).imp fun D σ H hz=>wU hz fun m ρ S o ρ' S' sr lr hc post=>by
 obtain⟨⟨u,S1⟩,h1,h2⟩:=Q0.mp hc;cases h2;exact⟨m,ρ,S,u,_,sr,lr,h1,post⟩
def dQ(t:CT)(c1 c2:CS):CS:=fun ρ S=>(t ρ S).bind fun p=>if p.1=true then c1 ρ p.2 else c2 ρ p.2
def bA{t:CT}{s1 s2:List Z0}(hc:QT X c t)(h1:QSs X s1 c1)(h2:QSs X s2 c2):QS X (.If c s1 s2 pos) (dQ t c1 c2):=(Jz hc h1 h2).imp fun D σ H hz=>wU hz fun m ρ S o ρ' S' sr lr hc post=>by
 obtain⟨⟨x,S1⟩,h1,h2⟩:=Q0.mp hc;refine⟨m,ρ,S,x,S1,sr,lr,h1,fun m1 H1 e1 sr1=>?_⟩;cases x with
 |true=>exact IH ⟨m1,ρ,S1,o,ρ',S',sr1,lr.mono e1,h2,post.mono e1⟩
 |false=>exact II ⟨m1,ρ,S1,o,ρ',S',sr1,lr.mono e1,h2,post.mono e1⟩
abbrev CG:=U->Rho->Sto->Option (Rho×Sto)
def tG(K:Q1)(g:CG):TG:=fun v σ H Q=>∃m ρ S u ρ' S',Sr K m S H/\Lr K m H ρ σ/\Is K m H v u/\g u ρ S=some (ρ',S')/\iO K m H Q ρ' S'
abbrev QG(X:Cx)(e:QB)(g:CG):Prop:=WG X e (tG X.K g)
def gNm(i:Nat):CG:=fun u ρ S=>some (ρ.set i (some u),S)
def cg{i:Nat}(h:WG X e (x5 i)):QG X e (gNm i):=h.imp fun v σ H Q hz=>PJ hz fun m ρ S u ρ' S' sr lr iu hc post=>by
 cases hc;exact post m _ H .refl sr (lr.set i iu)
def iJ:List Nat->List U->Rho->Option Rho
 |[],[],ρ=>some ρ
 |i::is,u::us,ρ=>iJ is us (ρ.set i (some u))
 |_,_,_=>none
def tGs(K:Q1)(is:List Nat):TGs:=fun vs σ H Q=>∃m ρ S us ρ',Sr K m S H/\Lr K m H ρ σ/\IsL K m H vs us/\iJ is us ρ=some ρ'/\iO K m H Q ρ' S
abbrev QGs(X:Cx)(es:List QB)(is:List Nat):Prop:=WGs X es (tGs X.K is)
def qo:QGs X [] []:=Ca.imp fun v σ H Q ⟨m,ρ,S,us,ρ',sr,lr,iu,hc,post⟩=>by
 cases us with
 |nil=>cases hc;exact⟨iu.of_nil,post m σ H .refl sr lr⟩
 |cons a r=>simp[iJ]at hc
def fk{i:Nat}{is:List Nat}{es:List QB}(h:WG X e (x5 i))(h2:QGs X es is)(hs:(assignEach (e::es) X.env).map (·.2)=assign e X.env::(assignEach es X.env).map (·.2):=by rfl):QGs X (e::es) (i::is):=(yH h h2 hs).imp fun v σ H Q ⟨m,ρ,S,us,ρ',sr,lr,iu,hc,post⟩=>by
 cases us with
 |nil=>simp[iJ]at hc
 |cons u r=>
  obtain⟨x,xr,rfl,i1,i2⟩:=iu.of_cons;exact⟨x,xr,rfl,m,ρ.set i (some u),S,r,ρ',sr,lr.set i i1,i2,hc,post⟩
def gTp(is:List Nat):CG:=fun u ρ S=>match u with
 |.tup us=>(iJ is us ρ).bind fun ρ'=>some (ρ',S)
 |_=>none
def pC:∀{is:List Nat} {us:List U} {ρ ρ':Rho},iJ is us ρ=some ρ'->us.length=is.length
 |[],[],_,_,_=>rfl
 |[],_::_,_,_,h=>by simp[iJ]at h
 |_::_,[],_,_,h=>by simp[iJ]at h
 |i::is,u::us,ρ,ρ',h=>by
  have:=pC (is:=is) (us:=us) h;simp[this]
def wc{is:List Nat}{es:List QB}{k:Nat}(hc:X.calm=true)(h:QGs X es is)(hn:(assignEach es X.env).length=is.length:=by rfl)(hst:(assignEach es X.env).findIdx? (·.1)=none:=by rfl):QG X (.Tuple es k pos) (gTp is):=(Ga hc h hn hst).imp fun v σ H Q hz=>PJ hz fun m ρ S u ρ' S' sr lr iu hc post=>by
 cases u with
 |tup us=>
  obtain⟨ρ2,h1,h2⟩:=Q0.mp hc;cases h2;obtain⟨a,xs,rfl,sq,il⟩:=iu.of_tup;refine⟨a,xs,rfl,sq,?_,m,ρ,S,us,ρ',sr,lr,il,h1,post⟩;rw[il.length];exact pC h1
 |_=>simp[gTp]at hc
def LY(ca:CE)(g:CG):CS:=fun ρ S=>(ca ρ S).bind fun p=>(g p.1 ρ p.2).bind fun q=>some (.nx,q.1,q.2)
def Ir{K:Q1}{g:CG}:∀D σ H,tS K (LY ca g) D σ H->JX (tE K ca) (tG K g) D σ H:=by
 rintro D σ H ⟨m,ρ,S,o,ρ',S',sr,lr,hc,post⟩;obtain⟨⟨u,S1⟩,h1,h2⟩:=Q0.mp hc;obtain⟨⟨ρ2,S2⟩,h3,h4⟩:=Q0.mp h2;cases h4;exact⟨m,ρ,S,u,S1,sr,lr,h1,fun m1 v1 H1 e1 sr1 i1=>⟨m1,ρ,S1,u,_,_,sr1,lr.mono e1,i1,h3,iO.mono e1 post⟩⟩
def J7{tg:QB}{g:CG}(he:QE X e ca)(hg:QG X tg g)(hs:swapsWithSole [tg] e pos.line X.env=pure false:=by rfl)(hw:swappedStores [tg] e X.env=pure none:=by rfl)
  (h1:(assignEach [tg] X.env).map (·.2)=[assign tg X.env]:=by rfl):QS X (.Assign [tg] e pos) (LY ca g):=(yG he hg hs hw h1).imp Ir
def dF(i:Nat)(ca:CE):CS:=fun ρ S=>(ca ρ S).bind fun p=>some (.nx,ρ.set i (some p.1),p.2)
def J6{i:Nat}{x:Str}{pos':Pos}(hN:X.N.Nodup)(hi:X.N[i]?=some x)(hx:Loc X.env.scope x)(he:QE X e ca)(hs:Za e (some (.Name x pos')) pos.line X.env=pure false:=by rfl)(hf:X.fn x=true\/X.env.scope.names.lookup x=some .local:=by first|exact .inl rfl|exact .inr rfl|assumption) :
  QS X (.Assign [.Name x pos'] e pos) (dF i ca):=(FX hN hi hx he hs hf).imp fun D σ H hz=>wU hz fun m ρ S o ρ' S' sr lr hc post=>by
 obtain⟨⟨u,S1⟩,h1,h2⟩:=Q0.mp hc;cases h2;exact⟨m,ρ,S,u,_,sr,lr,h1,fun m1 v1 H1 e1 sr1 i1=>post m1 _ H1 e1 sr1 ((lr.mono e1).set i i1)⟩
abbrev CI:=Rho->Sto->Option (List U×(Sto->Prop)×Sto)
def Et(K:Q1)(J:It)(m:List Addr)(H:Hp)(us:List U)(ok:Sto->Prop):Prop:=∀m2 S2 H2 i,Ext K m H m2 H2->Sr K m2 S2 H2->ok S2->
 (∀u,us[i]?=some u->J.go i H2/\∀x H3,J.yld i H2 x H3->Ext K m2 H2 m2 H3/\Sr K m2 S2 H3/\Is K m2 H3 x u)/\(us.length<=i->J.stop i H2)
def tI(K:Q1)(ci:CI):TI:=fun σ H R=>∃m ρ S us ok S',Sr K m S H/\Lr K m H ρ σ/\ci ρ S=some (us,ok,S')/\∀m' H' J,Ext K m H m' H'->Sr K m' S' H'->Et K J m' H' us ok->R J H'
abbrev QI(X:Cx)(tg iter:QB)(ci:CI):Prop:=WI X tg iter (tI X.K ci)
open Classical in
def eY(ok:Sto->Prop)(g:CG)(cb:CS):List U->CS
 |[]=>fun ρ S=>if ok S then some (.nx,ρ,S)else none
 |u::us=>fun ρ S=>if ok S then(g u ρ S).bind fun p=>(cb p.1 p.2).bind fun r=>match r.1 with
  |.nx=>eY ok g cb us r.2.1 r.2.2
  |.ct=>eY ok g cb us r.2.1 r.2.2
  |.bk=>some (.nx,r.2.1,r.2.2)
  |.rt v=>some (.rt v,r.2.1,r.2.2)else none
def oV(ci:CI)(g:CG)(cb:CS):CS:=fun ρ S=>(ci ρ S).bind fun p=>eY p.2.1 g cb p.1 ρ p.2.2
def og{α:Type}{us:List α}{i:Nat}{u:α}(h:us[i]?=some u):us.drop i=u::us.drop (i+1):=by
 obtain⟨hl,e⟩:=Q4.mp h;rw[List.drop_eq_getElem_cons hl,e]
def wz{K:Q1}{g:CG}{cb:CS}{J:It}{us:List U}{ok:Sto->Prop}{D:BW}{m1:List Addr}{H1:Hp}{ρ ρ':Rho}{σ:L2.St}{S1 S':Sto}{o:Out}(sr1:Sr K m1 S1 H1)(lr1:Lr K m1 H1 ρ σ)(ito:Et K J m1 H1 us ok)(h2:eY ok g cb us ρ S1=some (o,ρ',S'))(post:yh K m1 H1 D o ρ' S') :
  ∃W:Nat->Nat->L2.St->Hp->Prop,(∃n,W 0 n σ H1)/\∀i n σ H,W i n σ H->
   (J.stop i H/\D.nx σ H)\/(J.go i H/\∃N:L2.St->Hp->Prop,(∀σ' H',N σ' H'->∃n',n'<n/\W (i+1) n' σ' H')/\∀x H',J.yld i H x H'->tG K g x σ H' fun σ2 H2=>tS K cb { D with nx:=N,ct:=N,bk:=D.nx } σ2 H2):=by
 let W:Nat->Nat->L2.St->Hp->Prop:=fun i n σ2 H2=>n=us.length-i/\i<=us.length/\∃m2 ρ2 S2,Ext K m1 H1 m2 H2/\Sr K m2 S2 H2/\Lr K m2 H2 ρ2 σ2/\eY ok g cb (us.drop i) ρ2 S2=some (o,ρ',S')
 refine⟨W,⟨us.length,by simp,ZC _,m1,ρ,S1,.refl,sr1,lr1,by simpa using h2⟩,?_⟩;rintro i n σ2 H2 ⟨rfl,hi,m2,ρ2,S2,e2,sr2,lr2,hl⟩;by_cases hlt:i<us.length;have hu:=QQ hlt;rw[og hu]at hl;unfold eY at hl;split at hl;rename_i hok;obtain⟨⟨ρ3,S3⟩,h3,hl⟩:=Q0.mp hl;obtain⟨⟨o4,ρ4,S4⟩,h4,hl⟩:=Q0.mp hl;obtain⟨hgo,hy⟩:=(ito m2 S2 H2 i e2 sr2 hok).1 _ hu;refine .inr ⟨hgo,W (i+1) (us.length-(i+1)),fun σ' H' w'=>⟨_,by omega,w'⟩,fun x H3 y=>?_⟩;obtain⟨e3,sr3,ix⟩:=hy x H3 y;refine⟨m2,ρ2,S2,_,ρ3,S3,sr3,lr2.mono e3,ix,h3,fun m4 σ4 H4 e4 sr4 lr4=>⟨m4,ρ3,S3,o4,ρ4,S4,sr4,lr4,h4,?_⟩⟩;have e14:=(e2.trans e3).trans e4;have nxt:eY ok g cb (us.drop (i+1)) ρ4 S4=some (o,ρ',S')->iO K m4 H4 (W (i+1) (us.length-(i+1))) ρ4 S4:=fun hn m5 σ5 H5 e5 sr5 lr5=>⟨rfl,hlt,m5,ρ4,S4,e14.trans e5,sr5,lr5,hn⟩;cases o4 with
 |nx=>exact nxt hl
 |ct=>exact nxt hl
 |bk=>cases hl;exact iO.mono e14 post
 |rt v=>cases hl;exact kx.mono e14 post
 cases hl;have e:i=us.length:=by omega
 subst e;rw[List.drop_length]at hl;unfold eY at hl;split at hl;rename_i hok;cases hl;exact .inl ⟨(ito m2 _ H2 _ e2 sr2 hok).2 (Q7 _),post m2 σ2 H2 e2 sr2 lr2⟩;cases hl
def HX{K:Q1}{ci:CI}{g:CG}{cb:CS}:∀D σ H,tS K (oV ci g cb) D σ H->Mi (tI K ci) (tG K g) (tS K cb) D σ H:=by
 rintro D σ H ⟨m,ρ,S,o,ρ',S',sr,lr,hc,post⟩;obtain⟨⟨us,ok,S1⟩,h1,h2⟩:=Q0.mp hc;exact⟨m,ρ,S,us,ok,S1,sr,lr,h1,fun m1 H1 J e1 sr1 ito=>wz sr1 (lr.mono e1) ito h2 (yh.mono e1 post)⟩
def nK{tg iter:QB}{body:List Z0}{ci:CI}{g:CG}{cb:CS}(hp:PassesOwn (Qy X.prog X.w) X.A X.env X.xe)(hc:X.calm=true)(hi:QI X tg iter ci)(hg:QG X tg g)(hb:QSs X body cb)(hs:∀x,foldedSetIterable iter X.env x=pure x:=by intro _;rfl):QS X (.For tg iter body [] pos) (oV ci g cb):=(yE hp hc hi hg hb hs).imp HX
def f7(t:CT)(cb:CS):Nat->CS
 |0=>fun _ _=>none
 |n+1=>fun ρ S=>(t ρ S).bind fun p=>if p.1=true then(cb ρ p.2).bind fun r=>match r.1 with
  |.nx=>f7 t cb n r.2.1 r.2.2
  |.ct=>f7 t cb n r.2.1 r.2.2
  |.bk=>some (.nx,r.2.1,r.2.2)
  |.rt v=>some (.rt v,r.2.1,r.2.2)else some (.nx,ρ,p.2)
def yV{K:Q1}{t:CT}{cb:CS}{n:Nat}:∀D σ H,tS K (f7 t cb n) D σ H->zi (tT K t) (tS K cb) D σ H:=by
 rintro D σ H ⟨m,ρ,S,o,ρ',S',sr,lr,hc,post⟩;let W:Nat->L2.St->Hp->Prop:=fun n σ2 H2=>∃m2 ρ2 S2,Ext K m H m2 H2/\Sr K m2 S2 H2/\Lr K m2 H2 ρ2 σ2/\f7 t cb n ρ2 S2=some (o,ρ',S')
 refine⟨W,⟨n,m,ρ,S,.refl,sr,lr,hc⟩,?_⟩;rintro k σ2 H2 ⟨m2,ρ2,S2,e2,sr2,lr2,hl⟩;cases k with
 |zero=>cases hl
 |succ k=>
  unfold f7 at hl;obtain⟨⟨x,S3⟩,h3,hl⟩:=Q0.mp hl;refine⟨m2,ρ2,S2,x,S3,sr2,lr2,h3,fun m3 H3 e3 sr3=>?_⟩;have e13:=e2.trans e3;cases x with
  |true=>
   rw[X9 rfl]at hl;refine IH ?_;obtain⟨⟨o4,ρ4,S4⟩,h4,hl⟩:=Q0.mp hl;refine⟨W k,fun σ' H' w'=>⟨k,Nat.lt_succ_self _,w'⟩,m3,ρ2,S3,o4,ρ4,S4,sr3,lr2.mono e3,h4,?_⟩;have nxt:f7 t cb k ρ4 S4=some (o,ρ',S')->iO K m3 H3 (W k) ρ4 S4:=fun hn m5 σ5 H5 e5 sr5 lr5=>⟨m5,ρ4,S4,e13.trans e5,sr5,lr5,hn⟩;cases o4 with
   |nx=>exact nxt hl
   |ct=>exact nxt hl
   |bk=>cases hl;exact iO.mono e13 post
   |rt v=>cases hl;exact kx.mono e13 post
  |false=>
   rw[XQ QZ]at hl;refine II ?_;cases hl;exact post m3 σ2 H3 e13 sr3 (lr2.mono e3)
def Cw{body:List Z0}{t:CT}{cb:CS}(n:Nat)(hp:PassesOwn (Qy X.prog X.w) X.A X.env X.xe)(hc:QT X c t)(hb:QSs X body cb):QS X (.While c body [] pos) (f7 t cb n):=(yC hp hc hb).imp yV
def iTp(ca:CE):CI:=fun ρ S=>(ca ρ S).bind fun p=>match p.1 with
 |.tup us=>some (us,fun _=>True,p.2)
 |.ref l=>match p.2[l]? with
  |some (.lst us)=>some (us,fun S=>S[l]?=some (.lst us),p.2)
  |_=>none
 |_=>none
def Lx{K:Q1}{m:List Addr}{H:Hp}{us:List U}{a:Addr}{xs:List V}(sq:SqT K H a xs)(il:IsL K m H xs us):Et K (Itt K a) m H us (fun _=>True):=by
 intro m2 S2 H2 i e2 sr2 _;have sq2:=e2.keep.t _ _ sq;have il2:=il.mono e2;refine⟨fun u hu=>?_,fun hi=>⟨xs,sq2,by rw[il2.length];exact hi⟩⟩;obtain⟨x,hx,ix⟩:=il2.getD hu;refine⟨⟨xs,x,sq2,hx⟩,fun y H3 hy=>?_⟩;obtain⟨rfl,hy⟩:=hy;have:=hy xs sq2;rw[hx]at this;cases this;exact⟨.refl,sr2,ix⟩
def Ly{K:Q1}{m:List Addr}{H:Hp}{us:List U}{a:Addr}{l:Nat}(hl:m[l]?=some a):Et K (Itl K a) m H us (fun S=>S[l]?=some (.lst us)):=by
 intro m2 S2 H2 i e2 sr2 hok;obtain⟨a',ha',xs,hx,il⟩:=sr2.get hok;rw[e2.get hl]at ha';cases ha';refine⟨fun u hu=>?_,fun hi=>⟨xs,SqL.of hx,by rw[il.length];exact hi⟩⟩;obtain⟨x,hx',ix⟩:=il.getD hu;refine⟨⟨xs,x,SqL.of hx,hx'⟩,fun y H3 hy=>?_⟩;obtain⟨rfl,hy⟩:=hy;have:=hy xs (SqL.of hx);rw[hx']at this;cases this;exact⟨.refl,sr2,ix⟩
def jt{tg:QB}(h:QE X e ca):QI X tg e (iTp ca):=((F9 h).or (B9 h)).imp fun σ H R hz=>wU hz fun m ρ S us ok S' sr lr hc post=>by
 obtain⟨⟨u,S1⟩,h1,h2⟩:=Q0.mp hc;cases u with
 |tup ws=>
  cases h2;refine .inl ⟨m,ρ,S,.tup us,_,sr,lr,h1,fun m1 v1 H1 e1 sr1 i1=>?_⟩;obtain⟨a,xs,rfl,sq,il⟩:=i1.of_tup;exact⟨a,rfl,⟨xs,sq⟩,post m1 H1 _ e1 sr1 (Lx sq il)⟩
 |ref l=>
  simp only at h2;split at h2;rename_i us' hS;cases h2;refine .inr ⟨m,ρ,S,.ref l,_,sr,lr,h1,fun m1 v1 H1 e1 sr1 i1=>?_⟩;obtain⟨a,hl,rfl⟩:=i1.of_ref;obtain⟨a',ha',xs,hx,il⟩:=sr1.get hS;rw[hl]at ha';cases ha';exact⟨a,rfl,⟨xs,SqL.of hx⟩,post m1 H1 _ e1 sr1 (Ly hl)⟩;cases h2
 |_=>simp at h2
def js(lo:Int)(n:Nat):List U:=(QF n).map fun i=>.int (lo+(i:Nat))
def DN{K:Q1}{m:List Addr}{H:Hp}{lo:Int}{n:Nat}:Et K (Itr lo n) m H (js lo n) (fun _=>True):=by
 intro m2 S2 H2 i e2 sr2 _;refine⟨fun u hu=>?_,fun hi=>by show n<=i;simpa [js] using hi⟩;unfold js at hu;rw[QL]at hu;by_cases c:i<n;rw[Zn c]at hu;simp at hu;subst hu;refine⟨c,fun y H3 hy=>?_⟩;obtain⟨rfl,rfl⟩:=hy;exact⟨.refl,sr2,.int_⟩;rw[Zx (by simpa using c)]at hu;cases hu
def bS(cr:CA):CI:=fun ρ S=>(cr ρ S).bind fun p=>match p.1 with
 |[.int j]=>if -(2^62)<=j/\j<2^62 then some (js 0 j.toNat,fun _=>True,p.2)else none
 |_=>none
def fS{tg:QB}{cr:CA}{p:Pos}(hg:Gl X "range")(hm:X.mg "range"=none)(ha:QA X [a] cr)(hs:QJ [a] X.env=[(false,eval a X.env)]:=by rfl):QI X tg (.Call (.Name "range" p) [a] [] pos) (bS cr):=(xA hg hm ha.h hs).imp fun σ H R hz=>wU hz fun m ρ S us ok S' sr lr hc post=>by
 obtain⟨⟨ws,S1⟩,h1,h2⟩:=Q0.mp hc;simp only at h2;split at h2;rename_i j;split at h2;rename_i hj;cases h2;refine⟨m,ρ,S,_,S',sr,lr,h1,fun m1 v1 H1 e1 sr1 i1=>?_⟩;obtain⟨x,r,rfl,ix,ir⟩:=i1.of_cons;rw[ir.of_nil,ix.of_int];exact⟨j,rfl,hj.1,hj.2,post m1 H1 _ e1 sr1 DN⟩;cases h2;cases h2
end
def fI(g:Int->Int->Option U):U->U->Sto->Option (U×Sto)
 |.int i,.int j,S=>(g i j).bind fun u=>some (u,S)
 |_,_,_=>none
section
def N9{C:Int->Int->Prop}{gV:Int->Int->V}{g:Int->Int->Option U}(h:∀i j u,g i j=some u->C i j/\∀m H,Is K m H (gV i j) u):OpP K (rI C gV) (fI g):=by
 intro m S H x y v w u S' Q sr ix iy hf post;cases x<;>cases y<;>simp only[fI]at hf<;>try cases hf
 rename_i i j;obtain⟨u1,h1,h2⟩:=Q0.mp hf;cases h2;obtain⟨hc,hi⟩:=h i j u h1;exact⟨i,j,ix.of_int,iy.of_int,hc,post m _ H .refl sr (hi m H)⟩
def zQ{gV:Int->Int->V}{g:Int->Int->Option U}(h:∀i j u,g i j=some u->∀m H,Is K m H (gV i j) u):OpP K (rI0 gV) (fI g):=by
 intro m S H x y v w u S' Q sr ix iy hf post;cases x<;>cases y<;>simp only[fI]at hf<;>try cases hf
 rename_i i j;obtain⟨u1,h1,h2⟩:=Q0.mp hf;cases h2;exact⟨i,j,ix.of_int,iy.of_int,post m _ H .refl sr (h i j u h1 m H)⟩
def Cv(K:Q1):R2:=fun x y H Q=>∃a b xs ys,x=.ref a/\y=.ref b/\SqT K H a xs/\SqT K H b ys/\xs.length+ys.length<=QD/\∀q H',Ep H H'->SqT K H' q (xs++ys)->Q (.ref q) H'
def Ho:OpR X (binaryOp .Add) (Cv X.K):=by
 intro pins s σ H x y v u Q I rx ry h;obtain⟨a,b,xs,ys,rfl,rfl,ha,hb,hz,q⟩:=h;by_cases e:xs=[];cases rx;cases ry;obtain⟨its,r1,p1,_⟩:=I.tuple ha;obtain⟨its2,r2,p2,_⟩:=I.tuple hb;refine Ea p1 p2 (r1.nil_iff.mpr e) ⟨.ref b,H,I,rfl,q b H (.refl _) (by rw[e];exact hb)⟩;refine Hn pins s σ H _ _ v u Q I rx ry ⟨a,b,xs,ys,rfl,rfl,ha,hb,e,hz,fun z=>q a H (.refl _) (by rw[z,Z8];exact ha),fun _ p hp=>q p _ (f9 hp _) (SqT.of aH)⟩
def AO:U->U->Sto->Option (U×Sto)
 |.tup a,.tup b,S=>if a.length+b.length<=LIM then some (.tup (a++b),S)else none
 |_,_,_=>none
def C8:OpP K (Cv K) AO:=by
 intro m S H x y v w u S' Q sr ix iy hf post;cases x<;>cases y<;>simp only[AO]at hf<;>try cases hf
 split at hf<;>try cases hf
 rename_i hl;obtain⟨a,xs,rfl,sa,la⟩:=ix.of_tup;obtain⟨b,ys,rfl,sb,lb⟩:=iy.of_tup;refine⟨a,b,xs,ys,rfl,rfl,sa,sb,lim (by rw[la.length,lb.length];exact hl),fun q H' s sq=>?_⟩;exact post m _ H' (.of (bY s)) (sr.same s) (.tup_ sq ((la.append lb).mono (.of (bY s))))
def qX:U->U->Sto->Option (U×Sto)
 |.ref l,.ref k,S=>match S[l]?,S[k]? with
  |some (.lst a),some (.lst b)=>if a.length+b.length<=LIM then some (.ref S.length,S++[.lst (a++b)])else none
  |_,_=>none
 |_,_,_=>none
def Dd:OpP K Ml qX:=by
 intro m S H x y v w u S' Q sr ix iy hf post;cases x<;>cases y<;>simp only[qX]at hf<;>try cases hf
 rename_i l k;split at hf<;>try cases hf
 rename_i a b h1 h2;split at hf<;>try cases hf
 rename_i hl;obtain⟨p,hp,rfl⟩:=ix.of_ref;obtain⟨q,hq,rfl⟩:=iy.of_ref;obtain⟨p',hp',xs,hx,il⟩:=sr.get h1;obtain⟨q',hq',ys,hy,il'⟩:=sr.get h2;rw[hp]at hp';cases hp';rw[hq]at hq';cases hq';exact⟨p,q,xs,ys,rfl,rfl,hx,hy,lim (by rw[il.length,il'.length];exact hl),fun r hr=>ft sr (il.append il') post hr⟩
def AQ:U->U->Sto->Option (U×Sto)
 |.str a,.str b,S=>if a.length+b.length<=LIM then some (.str (a++b),S)else none
 |_,_,_=>none
def C9:OpP K (fun x y H Q=>∃i j,x=.str i/\y=.str j/\i.length+j.length<=QD/\Q (.str (i++j)) H) AQ:=by
 intro m S H x y v w u S' Q sr ix iy hf post;cases x<;>cases y<;>simp only[AQ]at hf<;>try cases hf
 split at hf<;>try cases hf
 rename_i hl;exact⟨_,_,ix.of_str,iy.of_str,lim hl,post m _ H .refl sr .str_⟩
def iM:U->U->Sto->Option (U×Sto)
 |.int i,.int j,S=>some (.int (i+j),S)
 |.tup a,.tup b,S=>if a.length+b.length<=LIM then some (.tup (a++b),S)else none
 |.str a,.str b,S=>if a.length+b.length<=LIM then some (.str (a++b),S)else none
 |.ref l,.ref k,S=>qX (.ref l) (.ref k) S
 |_,_,_=>none
def fz:OpR X (binaryOp .Add) (fun x y H Q=>rI0 (fun i j=>.int (i+j)) x y H Q\/(Ml x y H Q\/(Cv X.K x y H Q\/∃i j,x=.str i/\y=.str j/\i.length+j.length<=QD/\Q (.str (i++j)) H))):=K2.or (K1.or (Ho.or xR))
def fu:OpP K (fun x y H Q=>rI0 (fun i j=>.int (i+j)) x y H Q\/(Ml x y H Q\/(Cv K x y H Q\/∃i j,x=.str i/\y=.str j/\i.length+j.length<=QD/\Q (.str (i++j)) H))) iM:=by
 intro m S H x y v w u S' Q sr ix iy hf post;cases x<;>cases y<;>simp only[iM]at hf<;>try cases hf
 exact .inl ⟨_,_,ix.of_int,iy.of_int,post m _ H .refl sr .int_⟩;exact .inr (.inr (.inr (C9 m S H _ _ v w u S' Q sr ix iy hf post)));exact .inr (.inr (.inl (C8 m S H _ _ v w u S' Q sr ix iy hf post)));exact .inr (.inl (Dd m S H _ _ v w u S' Q sr ix iy hf post))
def HZ:=fI fun i j=>some (.int (i-j))
def zP:OpP K (rI0 fun i j=>.int (i-j)) HZ:=zQ fun i j u h m H=>by cases h;exact .int_
instance {i j:Int}:Decidable (BO i j):=by unfold BO;exact inferInstance
def oR:=fI fun i j=>if BO i j then some (.int (i*j))else none
def sQ:OpP K (rI BO fun i j=>.int (i*j)) oR:=N9 fun i j u h=>by
 split at h;rename_i c;cases h;exact⟨c,fun m H=>.int_⟩;cases h
instance {i j:Int}:Decidable (yk i j):=by unfold yk;exact inferInstance
def E9:=fI fun i j=>if yk i j then some (.int (i / j))else none
def KS:OpP K (rI yk fun i j=>.int (i / j)) E9:=N9 fun i j u h=>by
 split at h;rename_i c;cases h;exact⟨c,fun m H=>.int_⟩;cases h
def tX:=fI fun i j=>if 0<j then some (.int (i % j))else none
def uT:OpP K (rI (fun _ j=>0<j) fun i j=>.int (i % j)) tX:=N9 fun i j u h=>by
 split at h;rename_i c;cases h;exact⟨c,fun m H=>.int_⟩;cases h
instance {i j:Int}:Decidable (PR i j):=by unfold PR;exact inferInstance
def fLt:=fI fun i j=>some (.bl (decide (i<j)))
def fLe:=fI fun i j=>some (.bl (decide (i<=j)))
def fGt:=fI fun i j=>some (.bl (decide (j<i)))
def fGe:=fI fun i j=>some (.bl (decide (j<=i)))
def KR:OpP K (rI0 fun i j=>.bl (decide (i<j))) fLt:=zQ fun i j u h m H=>by cases h;exact .bl_
def Pg:OpP K (rI0 fun i j=>.bl (decide (i<=j))) fLe:=zQ fun i j u h m H=>by cases h;exact .bl_
def IF:OpP K (rI0 fun i j=>.bl (decide (j<i))) fGt:=zQ fun i j u h m H=>by cases h;exact .bl_
def Ph:OpP K (rI0 fun i j=>.bl (decide (j<=i))) fGe:=zQ fun i j u h m H=>by cases h;exact .bl_
def eqS:U->U->Option Bool
 |.int i,.int j=>some (decide (i=j))
 |.bl i,.bl j=>some (decide (i=j))
 |.str i,.str j=>some (decide (i=j))
 |.non,.non=>some true
 |.non,.int _=>some false|.int _,.non=>some false
 |.non,.bl _=>some false|.bl _,.non=>some false
 |.non,.str _=>some false|.str _,.non=>some false
 |.int _,.str _=>some false|.str _,.int _=>some false
 |.bl _,.str _=>some false|.str _,.bl _=>some false
 |_,_=>none
def fEq:U->U->Sto->Option (U×Sto):=fun x y S=>(eqS x y).bind fun b=>some (.bl b,S)
def fNe:U->U->Sto->Option (U×Sto):=fun x y S=>(eqS x y).bind fun b=>some (.bl (!b),S)
def Fd{m:List Addr}{H:Hp}{x y:U}{v w:V}{b:Bool}(ix:Is K m H v x)(iy:Is K m H w y)(h:eqS x y=some b):NJ v w=true/\decide (v=w)=b:=by
 cases x<;>cases y<;>simp only[eqS]at h<;>(first|cases h|skip);all_goals
  (first|(have e1:=ix.of_int)|(have e1:=ix.of_bl)|(have e1:=ix.of_str)|(have e1:=ix.of_non))
  (first|(have e2:=iy.of_int)|(have e2:=iy.of_bl)|(have e2:=iy.of_str)|(have e2:=iy.of_non))
  subst e1 e2;exact⟨rfl,by simp⟩
def kB:OpP K rEq fEq:=by
 intro m S H x y v w u S' Q sr ix iy hf post;obtain⟨b,h1,h2⟩:=Q0.mp hf;cases h2;obtain⟨e1,e2⟩:=Fd ix iy h1;exact⟨e1,by rw[e2];exact post m _ H .refl sr .bl_⟩
def Oa:OpP K rNe fNe:=by
 intro m S H x y v w u S' Q sr ix iy hf post;obtain⟨b,h1,h2⟩:=Q0.mp hf;cases h2;obtain⟨e1,e2⟩:=Fd ix iy h1;exact⟨e1,by rw[e2];exact post m _ H .refl sr .bl_⟩
def oH:U->Bool
 |.non=>true
 |_=>false
def E8:U->U->Sto->Option (U×Sto)
 |x,.non,S=>some (.bl (oH x),S)
 |_,_,_=>none
def tW:U->U->Sto->Option (U×Sto)
 |x,.non,S=>some (.bl (!oH x),S)
 |_,_,_=>none
def wL{m:List Addr}{H:Hp}{x:U}{v:V}(ix:Is K m H v x):decide (v=.non)=oH x:=by
 cases x with
 |non=>rw[ix.of_non];rfl
 |bl b=>rw[ix.of_bl];rfl
 |int i=>rw[ix.of_int];rfl
 |str i=>rw[ix.of_str];rfl
 |tup us=>obtain⟨a,xs,rfl,_⟩:=ix.of_tup;rfl
 |ref l=>obtain⟨a,_,rfl⟩:=ix.of_ref;rfl
 |kl ns=>obtain⟨a,rfl,_⟩:=ix.of_kl;rfl
def zT:OpP K (fun x y H Q=>y=.non/\Q (.bl (decide (x=.non))) H) E8:=by
 intro m S H x y v w u S' Q sr ix iy hf post;cases y<;>simp only[E8]at hf<;>cases hf;exact⟨iy.of_non,by rw[wL ix];exact post m _ H .refl sr .bl_⟩
def zR:OpP K (fun x y H Q=>y=.non/\Q (.bl (!decide (x=.non))) H) tW:=by
 intro m S H x y v w u S' Q sr ix iy hf post;cases y<;>simp only[tW]at hf<;>cases hf;exact⟨iy.of_non,by rw[wL ix];exact post m _ H .refl sr .bl_⟩
section
variable{κ:Type}[DecidableEq κ]
def bC{α:Type}(kvs:List (κ×α))(k:κ):Option α:=(kvs.find? fun kv=>decide (kv.1=k)).map (·.2)
def fZ{α:Type}(kvs:List (κ×α))(k:κ)(v:α):List (κ×α):=
 if (kvs.any fun kv=>decide (kv.1=k))=true then kvs.map (fun kv=>if kv.1=k then(kv.1,v)else kv)else kvs++[(k,v)]
variable{m:List Addr}{H:Hp}{kvs:List (κ×V)}{kus:List (κ×U)}{k:κ}{v:V}{u:U}
def IsP.val(h:IsP K m H kvs kus):Rf K m H (jg kvs k) (bC kus k):=by
 refine IsP.ind (P:=fun kvs kus=>Rf K m H (jg kvs k) (bC kus k)) trivial (fun k' v u kvs kus i _ ih=>?_) h;by_cases e:k'=k;subst e;simp[jg,bC,ZX,Rf,i];simp only[jg,bC,ZX,XZ e]at ih ⊢;exact ih
def IsP.any_(h:IsP K m H kvs kus):(kvs.any fun kv=>decide (kv.1=k))=(kus.any fun kv=>decide (kv.1=k)):=
 IsP.ind (P:=fun kvs kus=>(kvs.any fun kv=>decide (kv.1=k))=(kus.any fun kv=>decide (kv.1=k))) rfl (fun k' v u kvs kus i _ ih=>by simp only[Zf,ih]) h
def IsP.append{kvs':List (κ×V)}{kus':List (κ×U)}(h:IsP K m H kvs kus)(h':IsP K m H kvs' kus'):IsP K m H (kvs++kvs') (kus++kus'):=⟨by simp[h.1,h'.1],by simpa using h.2.append h'.2⟩
def IsP.put(h:IsP K m H kvs kus)(i:Is K m H v u):IsP K m H (rO kvs k v) (fZ kus k u):=by
 unfold rO fZ;rw[h.any_];split;refine IsP.ind (P:=fun kvs kus=>IsP K m H (kvs.map fun kv=>if kv.1=k then(kv.1,v)else kv) (kus.map fun kv=>if kv.1=k then(kv.1,u)else kv)) .nil_ (fun k' v' u' kvs kus i' _ ih=>?_) h;simp only[QU];by_cases e:k'=k;simp only[e,if_true];exact .cons_ i ih;simp only[e,if_false];exact .cons_ i' ih;exact h.append (.cons_ i .nil_)
end
def oG:U->Option Key
 |.int i=>some (.inl i)
 |.str x=>some (.inr x)
 |_=>none
def jE{m:List Addr}{H:Hp}{x:U}{v:V}{k:Key}(ix:Is K m H v x)(h:oG x=some k):v=kV k:=by
 cases x<;>simp only[oG]at h<;>cases h;exact ix.of_int;exact ix.of_str
def kn:U->Bool
 |.non=>true|.bl _=>true|.int _=>true|.str _=>true|_=>false
def eqF:U->U->Bool
 |.non,.non=>true
 |.bl a,.bl b=>a == b
 |.bl a,.int b=>(if a then 1 else 0) == b
 |.int a,.bl b=>a == (if b then 1 else 0)
 |.int a,.int b=>a == b
 |.str a,.str b=>a == b
 |_,_=>false
def inU(x:U)(us:List U):Bool:=us.any fun y=>eqF y x
def vm{m:List Addr}{H:Hp}{x:U}{v:V}(ix:Is K m H v x)(h:kn x=true):oQ v=true:=by
 cases x with
 |non=>rw[ix.of_non];rfl
 |bl b=>rw[ix.of_bl];rfl
 |int i=>rw[ix.of_int];rfl
 |str i=>rw[ix.of_str];rfl
 |tup us=>cases h
 |ref l=>cases h
 |kl l=>cases h
def LK{m:List Addr}{H:Hp}{x y:U}{v w:V}(ix:Is K m H v x)(iy:Is K m H w y)(hx:kn x=true)(hy:kn y=true):eqV v w=eqF x y:=by
 cases x<;>(first|cases hx|skip)<;>cases y<;>(first|cases hy|skip);all_goals
  (first|(have e1:=ix.of_int)|(have e1:=ix.of_bl)|(have e1:=ix.of_str)|(have e1:=ix.of_non))
  (first|(have e2:=iy.of_int)|(have e2:=iy.of_bl)|(have e2:=iy.of_str)|(have e2:=iy.of_non))
  subst e1 e2;rfl
def qV{m:List Addr}{H:Hp}:∀{xs:List V} {us:List U},IsL K m H xs us->us.all kn=true->xs.all oQ=true
 |xs,[],h,_=>by rw[h.of_nil];rfl
 |xs,u::us,h,k=>by
  obtain⟨x,r,rfl,i,t⟩:=h.of_cons;rw[List.all_cons,Zo]at k ⊢;exact⟨vm i k.1,qV t k.2⟩
def AE{m:List Addr}{H:Hp}{x:U}{v:V}(ix:Is K m H v x)(hx:kn x=true):∀{xs:List V} {us:List U},IsL K m H xs us->us.all kn=true->inV v xs=inU x us
 |xs,[],h,_=>by rw[h.of_nil];rfl
 |xs,u::us,h,k=>by
  obtain⟨y,r,rfl,i,t⟩:=h.of_cons;rw[List.all_cons,Zo]at k;have ih:=AE ix hx t k.2;unfold inV inU at ih ⊢;rw[Zf,Zf,ih,LK i ix k.1 hx]
def _root_.L2.DGet.kz{H:Hp}{a:Addr}{ob:Obj}{kvs:List (Key×V)}{k:Key}(e:H a=some (.frz ob (.dK kvs))):DGet H a (kV k) (jg kvs k):=.inl ⟨kvs,k,.inr ⟨ob,e⟩,rfl,rfl⟩
def fIn(neg:Bool):U->U->Sto->Option (U×Sto):=fun x y S=>match y with
 |.tup us=>if kn x=true/\us.all kn=true then some (.bl (if neg then !inU x us else inU x us),S)else none
 |.ref l=>match S[l]? with
  |some (.lst us)=>if kn x=true/\us.all kn=true then some (.bl (if neg then !inU x us else inU x us),S)else none
  |some (.dic kus)=>(oG x).bind fun k=>some (.bl (if neg then !(bC kus k).isSome else(bC kus k).isSome),S)
  |some (.fdc ep kus)=>(oG x).bind fun k=>some (.bl (if neg then !(bC kus k).isSome else(bC kus k).isSome),S)
  |_=>none
 |_=>none
def Rf.isSome{m:List Addr}{H:Hp}{v:Option V}{u:Option U}(h:Rf K m H v u):v.isSome=u.isSome:=by
 cases v<;>cases u<;>first|rfl|exact h.elim
def AD{ca cb:CE}{neg:Bool}(t2:TE->TE->TE)(h2:∀ta tb σ H Q,(ta σ H fun y H1=>tb σ H1 fun x H2=>∃a o,x=.ref a/\DGet H2 a y o/\Q (.bl (if neg then !o.isSome else o.isSome)) H2)->t2 ta tb σ H Q):∀σ H Q,tE K (cOp (fIn neg) ca cb) σ H Q->tOp (rIn K neg) (tE K ca) (tE K cb) σ H Q\/t2 (tE K ca) (tE K cb) σ H Q:=by
 rintro σ H Q ⟨m,ρ,S,u,S',sr,lr,hc,post⟩;obtain⟨⟨x,S1⟩,h1,h⟩:=Q0.mp hc;obtain⟨⟨y,S2⟩,h3,h4⟩:=Q0.mp h;cases y with
 |tup us=>
  simp only[fIn]at h4;split at h4<;>try cases h4
  rename_i hf;refine .inl ⟨m,ρ,S,x,S1,sr,lr,h1,fun m1 v1 H1 e1 sr1 i1=>⟨m1,ρ,S1,.tup us,S',sr1,lr.mono e1,h3,fun m2 v2 H2 e2 sr2 i2=>?_⟩⟩;obtain⟨a,xs,rfl,sa,la⟩:=i2.of_tup;refine⟨a,xs,rfl,.inr sa,vm (i1.mono e2) hf.1,qV la hf.2,?_⟩;rw[AE (i1.mono e2) hf.1 la hf.2];exact post m2 _ H2 (e1.trans e2) sr2 .bl_
 |ref l=>
  simp only[fIn]at h4;split at h4<;>try cases h4
  ·rename_i us hS;split at h4<;>try cases h4
   rename_i hf;refine .inl ⟨m,ρ,S,x,S1,sr,lr,h1,fun m1 v1 H1 e1 sr1 i1=>⟨m1,ρ,S1,.ref l,S',sr1,lr.mono e1,h3,fun m2 v2 H2 e2 sr2 i2=>?_⟩⟩;obtain⟨a,ha,rfl⟩:=i2.of_ref;obtain⟨a',ha',xs,hx,la⟩:=sr2.get hS;rw[ha]at ha';cases ha';refine⟨a,xs,rfl,.inl (SqL.of hx),vm (i1.mono e2) hf.1,qV la hf.2,?_⟩;rw[AE (i1.mono e2) hf.1 la hf.2];exact post m2 _ H2 (e1.trans e2) sr2 .bl_
  rename_i kus hS;obtain⟨k,hk,h5⟩:=Q0.mp h4;cases h5;refine .inr (h2 _ _ _ _ _ ⟨m,ρ,S,x,S1,sr,lr,h1,fun m1 v1 H1 e1 sr1 i1=>⟨m1,ρ,S1,.ref l,S',sr1,lr.mono e1,h3,fun m2 v2 H2 e2 sr2 i2=>?_⟩⟩);obtain⟨a,ha,rfl⟩:=i2.of_ref;obtain⟨a',ha',kvs,hx,ip⟩:=sr2.get hS;rw[ha]at ha';cases ha';have ek:=jE (i1.mono e2) hk;subst ek;refine⟨a,_,rfl,DGet.k hx,?_⟩;rw[(IsP.val ip).isSome];exact post m2 _ H2 (e1.trans e2) sr2 .bl_;rename_i ep kus hS;obtain⟨k,hk,h5⟩:=Q0.mp h4;cases h5;refine .inr (h2 _ _ _ _ _ ⟨m,ρ,S,x,S1,sr,lr,h1,fun m1 v1 H1 e1 sr1 i1=>⟨m1,ρ,S1,.ref l,S',sr1,lr.mono e1,h3,fun m2 v2 H2 e2 sr2 i2=>?_⟩⟩);obtain⟨a,ha,rfl⟩:=i2.of_ref;obtain⟨a',ha',ob,es,kvs,hx,hd,ip⟩:=sr2.get hS;rw[ha]at ha';cases ha';have ek:=jE (i1.mono e2) hk;subst ek;refine⟨a,_,rfl,DGet.kz hx,?_⟩;rw[(IsP.val ip).isSome];exact post m2 _ H2 (e1.trans e2) sr2 .bl_
 |_=>simp[fIn]at h4
variable{a:QB}
def Qg(hu:X.A.units+1<cLine)(ha:QE X a ca)(hb:QE X b cb)(hm:behindInMarks .In b=false):QE X (.Compare a [.In] [b] pos) (cOp (fIn false) ca cb):=
 ((vT sU ha hb hm).or (Gm (yQ hu ha hb) hm)).imp (AD (neg:=false) Mj fun _ _ _ _ _ h=>h)
def CD(hu:X.A.units+1<cLine)(ha:QE X a ca)(hb:QE X b cb)(hm:behindInMarks .In b=false):QT X (.Compare a [.In] [b] pos) (aR (cOp (fIn false) ca cb)):=
 ((qe sU ha hb hm).or (yA (yQ hu ha hb) hm)).imp (my (AD (neg:=false) Mj fun _ _ _ _ _ h=>h))
def we(hu:X.A.units+1<cLine)(ha:QE X a ca)(hb:QE X b cb)(hm:behindInMarks .NotIn b=false):QT X (.Compare a [.NotIn] [b] pos) (aR (cOp (fIn true) ca cb)):=
 ((qe sS ha hb hm).or (yA (xD hu ha hb) hm)).imp (my (AD (neg:=true) uN fun _ _ _ _ _ h=>h))
def fIx:U->U->Sto->Option (U×Sto):=fun x y S=>match x with
 |.tup us=>match y with
  |.int i=>(atI us i).bind fun u=>some (u,S)
  |_=>none
 |.ref l=>match S[l]? with
  |some (.lst us)=>(match y with
   |.int i=>(atI us i).bind fun u=>some (u,S)
   |_=>none)
  |some (.dic kus)=>(oG y).bind fun k=>(bC kus k).bind fun u=>some (u,S)
  |some (.fdc ep kus)=>(oG y).bind fun k=>(bC kus k).bind fun u=>some (u,S)
  |_=>none
 |.kl ns=>match y with
  |.int i=>(atI (ns.map U.int) i).bind fun u=>some (u,S)
  |_=>none
 |_=>none
def wM{K:Q1}{m:List Addr}{H:Hp}:∀ns:List Int,IsL K m H (ns.map V.int) (ns.map U.int)
 |[]=>.nil_
 |n::ns=>.cons_ .int_ (wM ns)
def Bu{m:List Addr}{H:Hp}{xs:List V}{us:List U}{i:Int}{u:U}(l:IsL K m H xs us)(h:atI us i=some u):∃v,atI xs i=some v/\Is K m H v u:=by
 unfold atI at h ⊢;rw[l.length];obtain⟨j,e1,e2⟩:=Q0.mp h;rw[e1];obtain⟨v,e3,e4⟩:=l.getD e2;exact⟨v,e3,e4⟩
def Pf(hu:X.A.units+1<cLine)(ha:QE X a ca)(hb:QE X b cb)(hs:vC b)(hs2:L3 b):QE X (.Subscript a b pos) (cOp fIx ca cb):=
 ((JC (HL.or Lu) ha hb hs).or (Cc hu ha hb hs2)).imp fun σ H Q hz=>oa hz fun m ρ S u S' sr lr hc post=>by
 obtain⟨⟨x,S1⟩,h1,h⟩:=Q0.mp hc;obtain⟨⟨y,S2⟩,h3,h4⟩:=Q0.mp h;cases x with
 |tup us=>
  simp only[fIx]at h4;split at h4<;>try cases h4
  rename_i i;obtain⟨w,hw,h5⟩:=Q0.mp h4;cases h5;refine .inl ⟨m,ρ,S,_,S1,sr,lr,h1,fun m1 v1 H1 e1 sr1 i1=>⟨m1,ρ,S1,_,S',sr1,lr.mono e1,h3,fun m2 v2 H2 e2 sr2 i2=>.inr ?_⟩⟩;obtain⟨a,xs,rfl,sa,la⟩:=(i1.mono e2).of_tup;obtain⟨z,ez,iz⟩:=Bu la hw;exact⟨a,xs,i,z,rfl,i2.of_int,sa,ez,post m2 _ H2 (e1.trans e2) sr2 iz⟩
 |ref l=>
  simp only[fIx]at h4;split at h4<;>try cases h4
  ·rename_i us hS;split at h4<;>try cases h4
   rename_i i;obtain⟨w,hw,h5⟩:=Q0.mp h4;cases h5;refine .inl ⟨m,ρ,S,_,S1,sr,lr,h1,fun m1 v1 H1 e1 sr1 i1=>⟨m1,ρ,S1,_,S',sr1,lr.mono e1,h3,fun m2 v2 H2 e2 sr2 i2=>.inl ?_⟩⟩;obtain⟨a,ha,rfl⟩:=(i1.mono e2).of_ref;obtain⟨a',ha',xs,hx,la⟩:=sr2.get hS;rw[ha]at ha';cases ha';obtain⟨z,ez,iz⟩:=Bu la hw;exact⟨a,xs,i,z,rfl,i2.of_int,SqL.of hx,ez,post m2 _ H2 (e1.trans e2) sr2 iz⟩
  rename_i kus hS;obtain⟨k,hk,h5⟩:=Q0.mp h4;obtain⟨w,hw,h6⟩:=Q0.mp h5;cases h6;refine .inr ⟨m,ρ,S,_,S1,sr,lr,h1,fun m1 v1 H1 e1 sr1 i1=>⟨m1,ρ,S1,_,S',sr1,lr.mono e1,h3,fun m2 v2 H2 e2 sr2 i2=>?_⟩⟩;obtain⟨a,ha,rfl⟩:=(i1.mono e2).of_ref;obtain⟨a',ha',kvs,hx,ip⟩:=sr2.get hS;rw[ha]at ha';cases ha';have ek:=jE i2 hk;subst ek;have rf:=IsP.val (k:=k) ip;rw[hw]at rf;cases hv:jg kvs k with
  |none=>rw[hv]at rf;exact rf.elim
  |some z=>
   rw[hv]at rf;exact⟨a,z,rfl,by have:=DGet.k (k:=k) hx;rw[hv]at this;exact this,post m2 _ H2 (e1.trans e2) sr2 rf⟩
  rename_i ep kus hS;obtain⟨k,hk,h5⟩:=Q0.mp h4;obtain⟨w,hw,h6⟩:=Q0.mp h5;cases h6;refine .inr ⟨m,ρ,S,_,S1,sr,lr,h1,fun m1 v1 H1 e1 sr1 i1=>⟨m1,ρ,S1,_,S',sr1,lr.mono e1,h3,fun m2 v2 H2 e2 sr2 i2=>?_⟩⟩;obtain⟨a,ha,rfl⟩:=(i1.mono e2).of_ref;obtain⟨a',ha',ob,es,kvs,hx,hd,ip⟩:=sr2.get hS;rw[ha]at ha';cases ha';have ek:=jE i2 hk;subst ek;have rf:=IsP.val (k:=k) ip;rw[hw]at rf;cases hv:jg kvs k with
  |none=>rw[hv]at rf;exact rf.elim
  |some z=>
   rw[hv]at rf;exact⟨a,z,rfl,by have:=DGet.kz (k:=k) hx;rw[hv]at this;exact this,post m2 _ H2 (e1.trans e2) sr2 rf⟩
 |kl ns=>
  simp only[fIx]at h4;split at h4<;>try cases h4
  rename_i i;obtain⟨w,hw,h5⟩:=Q0.mp h4;cases h5;refine .inl ⟨m,ρ,S,_,S1,sr,lr,h1,fun m1 v1 H1 e1 sr1 i1=>⟨m1,ρ,S1,_,S',sr1,lr.mono e1,h3,fun m2 v2 H2 e2 sr2 i2=>.inl ?_⟩⟩;obtain⟨a,rfl,ka⟩:=(i1.mono e2).of_kl;obtain⟨z,ez,iz⟩:=Bu (wM (K:=X.K) (m:=m2) (H:=H2) ns) hw;exact⟨a,_,i,z,rfl,i2.of_int,ka.sq,ez,post m2 _ H2 (e1.trans e2) sr2 iz⟩
 |_=>simp[fIx]at h4
def n5:U->U->U->Sto->Option Sto:=fun o i v S=>match o with
 |.ref l=>match S[l]? with
  |some (.lst us)=>(match i with
   |.int k=>(ixN us.length k).bind fun j=>some (S.set l (.lst (us.set j v)))
   |_=>none)
  |some (.dic kus)=>(oG i).bind fun k=>if kus.length<LIM then some (S.set l (.dic (fZ kus k v)))else none
  |_=>none
 |_=>none
def i8(co ci cv:CE):CS:=fun ρ S=>(cv ρ S).bind fun p=>(co ρ p.2).bind fun q=>(ci ρ q.2).bind fun r=>(n5 q.1 r.1 p.1 r.2).bind fun S'=>some (.nx,ρ,S')
def fj{o i:QB}{co ci cv:CE}{pos':Pos}(hu:X.A.units+1<cLine)(ho:QE X o co)(hi:QE X i ci)(hv:QE X e cv)
  (hs0:swapsWithSole [.Subscript o i pos'] e pos.line X.env=pure false:=by rfl) (hw:swappedStores [.Subscript o i pos'] e X.env=pure none:=by rfl)
  (h1:(assignEach [.Subscript o i pos'] X.env).map (·.2)=[assign (.Subscript o i pos') X.env]:=by rfl)
  (hs:Za e (some (.Subscript o i pos')) pos.line X.env=pure false:=by rfl)
  (ha:∀v,assign (.Subscript o i pos') X.env v=(do
   let ov <-holding [v] (eval o X.env)
   let iv <-holding [v,ov] (eval i X.env)
   standAt pos'
   holding [v,ov,iv] (setItem ov iv v)
   release [v,ov,iv] []):=by intro _;rfl):QS X (.Assign [.Subscript o i pos'] e pos) (i8 co ci cv):=
 ((yG hv (Gb ho hi Cr ha) hs0 hw h1).or (B6 hu ho hi hv hs)).imp fun D σ H hz=>wU hz fun m ρ S o ρ' S' sr lr hc post=>by
 obtain⟨⟨v,S1⟩,h1,h⟩:=Q0.mp hc;obtain⟨⟨ou,S2⟩,h2,h⟩:=Q0.mp h;obtain⟨⟨iu,S3⟩,h3,h⟩:=Q0.mp h;obtain⟨S4,h4,h⟩:=Q0.mp h;cases h;cases ou with
 |ref l=>
  simp only[n5]at h4;split at h4<;>try cases h4
  ·rename_i us hS;split at h4<;>try cases h4
   rename_i k;obtain⟨j,hj,h5⟩:=Q0.mp h4;cases h5;refine .inl ⟨m,ρ,S,v,S1,sr,lr,h1,fun m1 v1 H1 e1 sr1 i1=>⟨m1,ρ,S1,_,S2,sr1,lr.mono e1,h2,fun m2 v2 H2 e2 sr2 i2=>⟨m2,ρ,S2,_,S3,sr2,lr.mono (e1.trans e2),h3,fun m3 v3 H3 e3 sr3 i3=>?_⟩⟩⟩;obtain⟨a,ha,rfl⟩:=(i2.mono e3).of_ref;obtain⟨a',ha',xs,hx,la⟩:=sr3.get hS;rw[ha]at ha';cases ha';have e13:=(e1.trans e2).trans e3;have ek:Ext X.K m3 H3 m3 (upd H3 a (.lst (xs.set j v1))):=.of (sr3.keep ha _);refine⟨a,xs,k,j,rfl,i3.of_int,hx,by rw[la.length];exact hj,post m3 σ _ (e13.trans ek) (sr3.put ha ⟨_,aH,((la.set (i1.mono (e2.trans e3)))).mono ek⟩) (lr.mono (e13.trans ek))⟩
  ·rename_i kus hS;obtain⟨k,hk,h5⟩:=Q0.mp h4;split at h5<;>try cases h5
   have hlen:kus.length<LIM:=by assumption
   refine .inr ⟨m,ρ,S,v,S1,sr,lr,h1,fun m1 v1 H1 e1 sr1 i1=>⟨m1,ρ,S1,_,S2,sr1,lr.mono e1,h2,fun m2 v2 H2 e2 sr2 i2=>⟨m2,ρ,S2,_,S3,sr2,lr.mono (e1.trans e2),h3,fun m3 v3 H3 e3 sr3 i3=>?_⟩⟩⟩;obtain⟨a,ha,rfl⟩:=(i2.mono e3).of_ref;obtain⟨a',ha',kvs,hx,ip⟩:=sr3.get hS;rw[ha]at ha';cases ha';have ek:=jE i3 hk;subst ek;have e13:=(e1.trans e2).trans e3;have ee:Ext X.K m3 H3 m3 (upd H3 a (.dK (rO kvs k v1))):=.of (sr3.keep ha _);exact⟨a,_,rfl,Mc.k hx (Mq (by rw[IsP.length ip];exact hlen)),post m3 σ _ (e13.trans ee) (sr3.put ha ⟨_,aH,(IsP.put ip (i1.mono (e2.trans e3))).mono ee⟩) (lr.mono (e13.trans ee))⟩
 |_=>simp[n5]at h4
end
def j8{α:Type}[DecidableEq α]:∀{l l':List α},l.Nodup->(∀x∈l,x∈l')->l.length<=l'.length
 |[],_,_,_=>ZC _
 |x::r,l',nd,s=>by
  obtain⟨h1,h2⟩:=Zs.mp nd;have hx:=s x QN;have:=j8 (l:=r) (l':=l'.erase x) h2 fun y hy=>(List.mem_erase_of_ne (fun z=>h1 (by rw[<-z];exact hy))).mpr (s y (QY _ hy));rw[List.length_erase_of_mem hx]at this;have hp:=List.length_pos_of_mem hx;rw[QK];omega
def fT(f:Str)(v:V):∀fs:List (Str×V),(oB f v fs).map (·.1)=if f∈fs.map (·.1)then fs.map (·.1)else fs.map (·.1)++[f]
 |[]=>by simp[oB]
 |(g,x)::r=>by
  unfold oB;by_cases e:g=f
  ·simp[e]
  ·have ih:=fT f v r;rw[XQ e,QU,QU,ih];by_cases c:f∈r.map (·.1);rw[X9 c,X9 (QY _ c)];rw[XQ c,XQ (fun z=>by rcases Qz.mp z with z|z;exact e z.symm;exact c z)];rfl
variable{fus:List (Option U)}{i:Nat}
section
variable{c:Cl}{fs:List (Str×V)}
def InF.room(h:InF K m H c fs fus):fs.length<1000:=by
 have:=j8 h.knd h.sub;rw[Q9]at this;have:=h.few;omega
def nR{f:Str}:∀{fs:List (Str×V)},f∉fs.map (·.1)->fs.lookup f=none
 |[],_=>rfl
 |(g,x)::r,h=>by
  rw[Zh];have h1:(f == g)=false:=by
   apply beq_eq_false_iff_ne.mpr;intro z;exact h (by rw[z];exact QN)
  rw[h1];exact nR fun z=>h (QY _ z)
def InF.none_{f:Str}(h:InF K m H c fs fus)(hf:f∉c.ns):fs.lookup f=none:=nR fun z=>hf (h.sub f z)
def InF.put{f:Str}{i:Nat}{v:V}{u:U}(h:InF K m H c fs fus)(hi:c.ns[i]?=some f)(hv:Is K m H v u):InF K m H c (oB f v fs) (fus.set i (some u)):=by
 have hfm:f∈c.ns:=ZS hi;refine⟨h.nd,h.few,?_,fun x hx=>?_,by simp[h.len],fun j x hj=>?_⟩;rw[fT];split;exact h.knd;rename_i hn;rw[X4];exact⟨h.knd,by simp,fun a ha b hb z=>by simp at hb;subst hb;subst z;exact hn ha⟩;rw[fT]at hx;split at hx;exact h.sub x hx;rcases Z6.mp hx with z|z;exact h.sub x z;simp at z;subst z;exact hfm;rw[jD];by_cases e:i=j;subst e;rw[hi]at hj;cases hj;rw[X9 rfl];have:i<fus.length:=by rw[h.len];exact(Q4.mp hi).1
 rw[ZK this];exact hv;have ne:x≠f:=fun z=>by
  subst z;obtain⟨p1,e1⟩:=Q4.mp hi;obtain⟨p2,e2⟩:=Q4.mp hj;exact e ((List.getElem_inj h.nd).mp (e1.trans e2.symm))
 rw[XQ ne,Qt e];exact h.at_ j x hj
def InF.new(nd:c.ns.Nodup)(few:c.ns.length<1000):InF K m H c [] (QX c.ns.length none):=by
 refine⟨nd,few,by simp,fun x hx=>by simp at hx,by simp,fun i x hi=>?_⟩;rw[Zy];split<;>exact trivial
open Classical in
def LG(c:Cl)(i:Nat)(x:U)(S:Sto):Option (U×Sto):=match x with
 |.ref l=>match S[l]? with
  |some (.ins c' fus)=>if c'=c then(fus[i]?).join.bind fun u=>some (u,S)else none
  |_=>none
 |_=>none
def aS(c:Cl)(i:Nat)(ca:CE):CE:=fun ρ S=>(ca ρ S).bind fun p=>LG c i p.1 p.2
open Classical in
def AR(c:Cl)(i:Nat)(x v:U)(S:Sto):Option Sto:=match x with
 |.ref l=>match S[l]? with
  |some (.ins c' fus)=>if c'=c then some (S.set l (.ins c (fus.set i (some v))))else none
  |_=>none
 |_=>none
def bz(c:Cl)(i:Nat)(ca cv:CE):CS:=fun ρ S=>(cv ρ S).bind fun p=>(ca ρ p.2).bind fun q=>(AR c i q.1 p.1 q.2).bind fun S'=>some (.nx,ρ,S')
variable{cv:CE}{f:Str}
def GQ(hcl:Cls X.K c.C)(hna:jx X.K c.C f)(hi:c.ns[i]?=some f)(h:QE X e ca)(hb:attributeBase e f X.env (eval e X.env)=eval e X.env:=by rfl):QE X (.Attribute e f pos) (aS c i ca):=(Gk h hb).imp fun σ H Q hz=>oa hz fun m ρ S u S' sr lr hc post=>by
 obtain⟨⟨x,S1⟩,h1,h2⟩:=Q0.mp hc;refine⟨m,ρ,S,x,S1,sr,lr,h1,fun m1 v1 H1 e1 sr1 i1=>?_⟩;cases x with
 |ref l=>
  simp only[LG]at h2;split at h2<;>try cases h2
  rename_i c' fus hS;split at h2<;>try cases h2
  rename_i hc';subst hc';obtain⟨w,hw,h3⟩:=Q0.mp h2;cases h3;obtain⟨a,ha,rfl⟩:=i1.of_ref;obtain⟨a',ha',dx,fs,hx,inf⟩:=sr1.get hS;rw[ha]at ha';cases ha';have rf:=inf.at_ i f hi;rw[hw]at rf;cases hv:fs.lookup f with
  |none=>rw[hv]at rf;exact rf.elim
  |some z=>
   rw[hv]at rf;exact⟨a,_,dx,fs,z,rfl,hx,hcl,hna,hv,post m1 _ H1 e1 sr1 rf⟩
 |_=>simp[LG]at h2
def GJ{o:QB}{co:CE}{pos':Pos}(hcl:Cls X.K c.C)(hna:jx X.K c.C f)(hi:c.ns[i]?=some f)(ho:QE X o co)(hv:QE X e cv)(hs:Za e (some (.Attribute o f pos')) pos.line X.env=pure false:=by rfl):QS X (.Assign [.Attribute o f pos'] e pos) (bz c i co cv):=(FZ ho hv hs).imp fun D σ H hz=>wU hz fun m ρ S o ρ' S' sr lr hc post=>by
 obtain⟨⟨v,S1⟩,h1,h⟩:=Q0.mp hc;obtain⟨⟨x,S2⟩,h2,h⟩:=Q0.mp h;obtain⟨S3,h3,h⟩:=Q0.mp h;cases h;refine⟨m,ρ,S,v,S1,sr,lr,h1,fun m1 v1 H1 e1 sr1 i1=>⟨m1,ρ,S1,x,S2,sr1,lr.mono e1,h2,fun m2 v2 H2 e2 sr2 i2=>?_⟩⟩;cases x with
 |ref l=>
  simp only[AR]at h3;split at h3<;>try cases h3
  rename_i c' fus hS;split at h3<;>try cases h3
  have hc':c'=c:=by assumption
  subst hc';obtain⟨a,ha,rfl⟩:=i2.of_ref;obtain⟨a',ha',dx,fs,hx,inf⟩:=sr2.get hS;rw[ha]at ha';cases ha';have ee:Ext X.K m2 H2 m2 (upd H2 a (.ins c'.C dx (oB f v1 fs))):=.of (sr2.keep ha _);have e12:=e1.trans e2;exact⟨a,_,dx,fs,rfl,hx,hcl,hna,inf.room,post m2 σ _ (e12.trans ee) (sr2.put ha ⟨dx,_,aH,(inf.put hi (i1.mono e2)).mono ee⟩) (lr.mono (e12.trans ee))⟩
 |_=>simp[AR]at h3
structure uC(P:Qx)(w:Z7)(K:Q1)(mg:Str->Option Q2)(base:Heap)(c:Cl)(mn:Str)(k:Nat)(ps:List Str)(f:Fn):Prop where
 ex:∃fa fd,Iy K c.C mn fa/\kC P w K mg base CX0 k fa fd ps (yl K f)/\gW K fd ps []
def uC.mono{P:Qx}{w:Z7}{mg:Str->Option Q2}{base:Heap}{mn:Str}{j k:Nat}{ps:List Str}{f:Fn}(h:uC P w K mg base c mn j ps f)(l:j<=k):uC P w K mg base c mn k ps f:=by
 obtain⟨fa,fd,a,b,d⟩:=h.ex;exact⟨fa,fd,a,b.mono l,d⟩
open Classical in
def AS(c:Cl)(f:Fn)(x:U)(S:Sto)(args:Sto->Option (List U×Sto)):Option (U×Sto):=match x with
 |.ref l=>match S[l]? with
  |some (.ins c' _)=>if c'=c then(args S).bind fun q=>f (.ref l::q.1) q.2 else none
  |_=>none
 |_=>none
def aM(c:Cl)(f:Fn)(ca:CE)(cr:CA):CE:=fun ρ S=>(ca ρ S).bind fun p=>AS c f p.1 p.2 (cr ρ)
def wy{mn:Str}{g:Fn}{co:CE}{cr:CA}(hmn:mn∉c.ns):∀σ H Q,tE K (aM c g co cr) σ H Q->zm c.C mn (yl K g) [] E0 (tE K co) (tA K cr) σ H Q:=by
 rintro σ H Q ⟨m,ρ,S,u,S',sr,lr,hc,post⟩;obtain⟨⟨x,S1⟩,h1,h2⟩:=Q0.mp hc;refine⟨m,ρ,S,x,S1,sr,lr,h1,fun m1 v1 H1 e1 sr1 i1=>?_⟩;cases x with
 |ref l=>
  simp only[AS]at h2;split at h2<;>try cases h2
  rename_i c' fus hS;split at h2<;>try cases h2
  rename_i hc';subst hc';obtain⟨⟨us,S2⟩,h3,h4⟩:=Q0.mp h2;obtain⟨a,ha,rfl⟩:=i1.of_ref;obtain⟨a',ha',dx,fs,hx,inf⟩:=sr1.get hS;rw[ha]at ha';cases ha';refine⟨a,dx,fs,rfl,hx,inf.none_ hmn,m1,ρ,S1,us,S2,sr1,lr.mono e1,h3,fun m2 vs H2 e2 sr2 i2=>?_⟩;exact⟨m2,_,S2,u,S',.cons_ (i1.mono e2) (by simpa using i2),sr2,h4,post.mono (e1.trans e2)⟩
 |_=>simp[AS]at h2
def Ka{mn:Str}{g:Fn}{k:Nat}{ps:List Str}{o:QB}{es:List QB}{co:CE}{cr:CA}{apos:Pos}{pl:Sem Bool}(hcl:Cls X.K c.C)(F:uC X.prog X.w X.K X.mg X.base c mn k ps g)(hr:eC k X.A)(hmn:mn∉c.ns)(ho:QE X o co)(ha:QA X (e::es) cr)
  (hst:QJ (e::es) X.env=(false,eval e X.env)::QJ es X.env:=by rfl) (hpl:(ZD pos (QJ es X.env)).any (·.1)=false:=by rfl) (ht:eval (.Call (.Attribute o mn apos) (e::es) [] pos) X.env=(do
   let ov <-eval o X.env
   standAt apos.atName
   let (f,first) <-holding [ov] (getMethod ov mn pl)
   callWith pos f first (ZD pos (QJ (e::es) X.env)) (backToKw pos (keywordEach [] X.env))):=by rfl):QE X (.Call (.Attribute o mn apos) (e::es) [] pos) (aM c g co cr):=by
 obtain⟨fa,fd,hm,F,hb⟩:=F.ex;exact(Cb ho hcl hm F hr hb .nil zM ha.h hst hpl ht).imp (wy hmn)
def zC{mn:Str}{g:Fn}{k:Nat}{ps:List Str}{o:QB}{co:CE}{apos:Pos}{pl:Sem Bool}(hcl:Cls X.K c.C)(F:uC X.prog X.w X.K X.mg X.base c mn k ps g)(hr:eC k X.A)(hmn:mn∉c.ns)(ho:QE X o co)
  (ht:eval (.Call (.Attribute o mn apos) [] [] pos) X.env=(do
   let ov <-eval o X.env
   standAt apos.atName
   let (f,first) <-holding [ov] (getMethod ov mn pl)
   callWith pos f first (ZD pos (QJ [] X.env)) (backToKw pos (keywordEach [] X.env))):=by rfl):QE X (.Call (.Attribute o mn apos) [] [] pos) (aM c g co ay):=by
 obtain⟨fa,fd,hm,F,hb⟩:=F.ex;refine(yJ ho hcl hm F hr hb .nil zM ht).imp fun σ H Q h=>?_;obtain⟨m,ρ,S,u,S',sr,lr,hc,k⟩:=wy hmn σ H Q h;refine⟨m,ρ,S,u,S',sr,lr,hc,fun m1 v1 H1 e1 sr1 i1=>?_⟩;obtain⟨a,dx,fs,h1,h2,h3,m2,ρ2,S2,us,S3,sr2,lr2,h4,h5⟩:=k m1 v1 H1 e1 sr1 i1;cases h4;exact⟨a,dx,fs,h1,h2,h3,h5 m2 [] H1 .refl sr2 .nil_⟩
structure CMk(P:Qx)(w:Z7)(K:Q1)(mg:Str->Option Q2)(base:Heap)(c:Cl)(x:Str)(k:Nat)(ps:List Str)(f:Fn):Prop where
 ex:∃fa fd,Mk K c.C fa/\kC P w K mg base CX0 k fa fd ps (yl K f)/\gW K fd ps []/\mg x=some (.ref c.C)
 nd:c.ns.Nodup
 few:c.ns.length<1000
def CMk.mono{P:Qx}{w:Z7}{mg:Str->Option Q2}{base:Heap}{x:Str}{j k:Nat}{ps:List Str}{f:Fn}(h:CMk P w K mg base c x j ps f)(l:j<=k):CMk P w K mg base c x k ps f:=by
 obtain⟨fa,fd,a,b,d⟩:=h.ex;exact⟨⟨fa,fd,a,b.mono l,d⟩,h.nd,h.few⟩
def fU(c:Cl)(f:Fn):Fn:=fun us S=>(f (.ref S.length::us) (S++[.ins c (QX c.ns.length none)])).bind fun p=>match p.1 with
 |.non=>some (.ref S.length,p.2)
 |_=>none
def Dq{g:Fn}{cr:CA}(nd:c.ns.Nodup)(few:c.ns.length<1000):∀σ H Q,tE K (cCB (fU c g) cr) σ H Q->Cn c.C (yl K g) [] E0 (tA K cr) σ H Q:=by
 rintro σ H Q ⟨m,ρ,S,u,S',sr,lr,hc,post⟩;obtain⟨⟨us,S1⟩,h1,h2⟩:=Q0.mp hc;obtain⟨⟨w,S2⟩,h3,h4⟩:=Q0.mp h2;refine⟨m,ρ,S,us,S1,sr,lr,h1,fun m1 vs H1 e1 sr1 i1 x dx hx hdx ne=>?_⟩;cases w with
 |non=>
  cases h4;have s1:Ep H1 (upd H1 dx (.own x)):=f9 hdx _;have hx2:(upd H1 dx (.own x)) x=none:=by rw[aI (Ne.symm ne)];exact hx
  have ee:Ext K m1 H1 (m1++[x]) (upd (upd H1 dx (.own x)) x (.ins c.C dx [])):=.new ⟨fun b xs q=>(bO hx2 _).t b xs ((bY s1).t b xs q),fun b xs q=>(bO hx2 _).l b xs ((bY s1).l b xs q),fun b xs q=>(bO (K:=K) hx2 _).c b xs ((bY (K:=K) s1).c b xs q)⟩;refine⟨m1++[x],.ref S1.length::us,S1++[.ins c (QX c.ns.length none)],.non,S2,.cons_ (.ref_ (dW sr1.len)) (by simpa using i1.mono ee),(sr1.same s1).new (o:=.ins c (QX c.ns.length none)) hx2 ⟨dx,[],aH,InF.new nd few⟩,h3,fun m2 v2 H2 e2 sr2 i2=>⟨i2.of_non,?_⟩⟩;exact post m2 _ H2 ((e1.trans ee).trans e2) sr2 (.ref_ (e2.get (dW sr1.len)))
 |_=>simp at h4
def lY{x:Str}{g:Fn}{k:Nat}{ps:List Str}{es:List QB}{cr:CA}{p:Pos}(M:CMk X.prog X.w X.K X.mg X.base c x k ps g)(hr:eC (k+1) X.A)(hg:Gl X x)(ha:QA X (e::es) cr)
  (hdb:(x == ("__debug__":Str))=false:=by decide) (he:QJ (e::es) X.env=(false,eval e X.env)::QJ es X.env:=by rfl) (hpl:(ZD pos (QJ es X.env)).any (·.1)=false:=by rfl):QE X (.Call (.Name x p) (e::es) [] pos) (cCB (fU c g) cr):=by
 obtain⟨fa,fd,hm,F,hb,hx⟩:=M.ex;exact(vR hm F hr hg hx hb .nil zM ha.h hdb he hpl).imp (Dq M.nd M.few)
def vx:CE:=fun _ S=>some (.ref S.length,S++[.dic []])
def sM:QE X (.Dict [] [] pos) vx:=yL.imp fun σ H Q hz=>oa hz fun m ρ S u S' sr lr hc post=>by
 cases hc;exact fun p hp=>post (m++[p]) _ _ (.new (bO hp _)) (sr.new hp ⟨[],aH,.nil_⟩) (.ref_ (dW sr.len))
def yd(cd ck cx:CE):CE:=fun ρ S=>(cd ρ S).bind fun p=>match p.1 with
 |.ref l=>match p.2[l]? with
  |some (.dic _)=>(ck ρ p.2).bind fun q=>(cx ρ q.2).bind fun r=>match r.2[l]? with
   |some (.dic kus)=>(oG q.1).bind fun k=>some ((bC kus k).getD r.1,r.2)
   |_=>none
  |_=>none
 |_=>none
def ER{o e f:QB}{cd ck cx:CE}{apos:Pos}(hu:X.A.units+1<cLine)(ho:QE X o cd)(he:QE X e ck)(hf:QE X f cx)(hm:M2 X o "get" apos e f pos):QE X (.Call (.Attribute o "get" apos) [e,f] [] pos) (yd cd ck cx):=(yM hu ho he hf hm).imp fun σ H Q hz=>oa hz fun m ρ S u S' sr lr hc post=>by
 obtain⟨⟨x,S1⟩,h1,h⟩:=Q0.mp hc;refine⟨m,ρ,S,x,S1,sr,lr,h1,fun m1 v1 H1 e1 sr1 i1=>?_⟩;cases x with
 |ref l=>
  simp only at h;split at h<;>try cases h
  rename_i kus0 hS;obtain⟨⟨ku,S2⟩,h2,h⟩:=Q0.mp h;obtain⟨⟨xu,S3⟩,h3,h⟩:=Q0.mp h;simp only at h;split at h<;>try cases h
  rename_i kus hS3;obtain⟨k,hk,h⟩:=Q0.mp h;cases h;obtain⟨a,ha,rfl⟩:=i1.of_ref;obtain⟨a',ha',kvs0,hx0,_⟩:=sr1.get hS;rw[ha]at ha';cases ha';refine⟨a,rfl,.inl ⟨kvs0,.inl hx0⟩,m1,ρ,S1,ku,S2,sr1,lr.mono e1,h2,fun m2 v2 H2 e2 sr2 i2=>⟨m2,ρ,S2,xu,_,sr2,lr.mono (e1.trans e2),h3,fun m3 v3 H3 e3 sr3 i3=>?_⟩⟩;obtain⟨a',ha',kvs,hx,ip⟩:=sr3.get hS3;rw[(e2.trans e3).get ha]at ha';cases ha';have ek:=jE (i2.mono e3) hk;subst ek;have rf:=IsP.val (k:=k) ip;refine⟨_,DGet.k hx,post m3 _ H3 ((e1.trans e2).trans e3) sr3 ?_⟩;cases hv:jg kvs k with
  |none=>
   cases hw:bC kus k with
   |none=>exact i3
   |some w=>rw[hv,hw]at rf;exact rf.elim
  |some v=>
   cases hw:bC kus k with
   |none=>rw[hv,hw]at rf;exact rf.elim
   |some w=>rw[hv,hw]at rf;exact rf
 |_=>simp at h
end
def qj(n:Nat)(caps:List Nat)(ρ:Rho):Rho:=QX n none++caps.map fun i=>(ρ[i]?).getD none
open Classical in
def ic(ok:Sto->Prop)(g:CG)(ce:CE)(l:Nat):List U->Rho->Sto->Option Sto
 |[],_,S=>if ok S then some S else none
 |u::us,ρ,S=>if ok S then(g u ρ S).bind fun p=>(ce p.1 p.2).bind fun r=>match r.2[l]? with
  |some (.lst ys)=>if ys.length<LIM then ic ok g ce l us p.1 (r.2.set l (.lst (ys++[r.1])))else none
  |_=>none else none
def dG(ci:CI)(g:CG)(ce:CE)(n:Nat)(caps:List Nat):CE:=fun ρ S=>(ci ρ S).bind fun p=>(ic p.2.1 g ce p.2.2.length p.1 (qj n caps ρ) (p.2.2++[.lst []])).bind fun S'=>some (.ref p.2.2.length,S')
section
def Ab{m:List Addr}{H:Hp}{ρ:Rho}{σ:L2.St}{n:Nat}{caps:List Nat}(lr:Lr K m H ρ σ):Lr K m H (qj n caps ρ) (OG.stC n caps σ):=by
 refine⟨by simp[qj,OG.stC],fun j u e=>?_⟩;unfold qj at e;unfold OG.stC;by_cases c:j<n
 ·rw[ZJ (by simpa using c),Zy]at e;split at e<;>cases e
 rw[ZZ (by simp;omega),QL]at e ⊢;simp only[List.length_replicate]at e ⊢;cases q:caps[j-n]? with
 |none=>rw[q]at e;simp at e
 |some i=>
  rw[q]at e;simp only[Zj,Option.some.injEq]at e ⊢;have e2:ρ[i]?=some (some u):=by
   cases z:ρ[i]? with
   |none=>rw[z]at e;simp at e
   |some y=>rw[z]at e;simp at e;rw[e]
  obtain⟨v,h1,h2⟩:=lr.at_ i u e2;exact⟨v,by rw[h1];rfl,h2⟩
def uc{g:CG}{ce:CE}{n:Nat}{caps:List Nat}{J:It}{us:List U}{ok:Sto->Prop}{Q:VK}{m1:List Addr}{H1:Hp}{S1 S':Sto}{ρ:Rho}{σ:L2.St}{l:Addr}(sr1:Sr K m1 S1 H1)(lr:Lr K m1 H1 ρ σ)(ito:Et K J m1 H1 us ok)(hl:H1 l=none)(h2:ic ok g ce S1.length us (qj n caps ρ) (S1++[.lst []])=some S')
  (post:∀m2 H2,Ext K (m1++[l]) (upd H1 l (.lst [])) m2 H2->Sr K m2 S' H2->Q (.ref l) H2) :
  ∃W:Nat->Nat->L2.St->Hp->Prop,(∃m,W 0 m (OG.stC n caps σ) (upd H1 l (.lst [])))/\
 ∀i m σ' H2,W i m σ' H2->(J.stop i H2/\Q (.ref l) H2)\/(J.go i H2/\∃N:L2.St->Hp->Prop,(∀σ'' H',N σ'' H'->∃m',m'<m/\W (i+1) m' σ'' H')/\
  ∀x H3,J.yld i H2 x H3->tG K g x σ' H3 fun σ2 H4=>tE K ce σ2 H4 fun v H5=>∃ys,H5 l=some (.lst ys)/\ys.length<QD/\N σ2 (upd H5 l (.lst (ys++[v])))):=by
 have ee:Ext K m1 H1 (m1++[l]) (upd H1 l (.lst [])):=.new (bO hl _);let W:Nat->Nat->L2.St->Hp->Prop:=fun i k σ2 H2=>k=us.length-i/\i<=us.length/\∃m2 ρ2 S2,Ext K (m1++[l]) (upd H1 l (.lst [])) m2 H2/\Sr K m2 S2 H2/\Lr K m2 H2 ρ2 σ2/\ic ok g ce S1.length (us.drop i) ρ2 S2=some S'
 refine⟨W,⟨us.length,by simp,ZC _,m1++[l],qj n caps ρ,S1++[.lst []],.refl,sr1.new (o:=.lst []) hl ⟨[],aH,.nil_⟩,Ab (lr.mono ee),by simpa using h2⟩,?_⟩;rintro i k σ2 H2 ⟨rfl,hi,m2,ρ2,S2,e2,sr2,lr2,hl2⟩;by_cases hlt:i<us.length
 ·have hu:=QQ hlt;rw[og hu]at hl2;unfold ic at hl2;split at hl2
  ·rename_i hok;obtain⟨⟨ρ3,S3⟩,h3,hl2⟩:=Q0.mp hl2;obtain⟨⟨u4,S4⟩,h4,hl2⟩:=Q0.mp hl2;simp only at hl2;split at hl2<;>try cases hl2
   rename_i ys hys;split at hl2<;>try cases hl2
   rename_i hlen;obtain⟨hgo,hy⟩:=(ito m2 S2 H2 i (ee.trans e2) sr2 hok).1 _ hu;refine .inr ⟨hgo,W (i+1) (us.length-(i+1)),fun σ' H' w'=>⟨_,by omega,w'⟩,fun x H3 y=>?_⟩;obtain⟨e3,sr3,ix⟩:=hy x H3 y;refine⟨m2,ρ2,S2,_,ρ3,S3,sr3,lr2.mono e3,ix,h3,fun m4 σ4 H4 e4 sr4 lr4=>⟨m4,ρ3,S3,u4,S4,sr4,lr4,h4,fun m5 v5 H5 e5 sr5 i5=>?_⟩⟩;obtain⟨a',ha',xs,hx,il⟩:=sr5.get hys;have ha:m5[S1.length]?=some l:=(((e2.trans e3).trans e4).trans e5).get (dW sr1.len);rw[ha]at ha';cases ha';have eu:Ext K m5 H5 m5 (upd H5 l (.lst (xs++[v5]))):=.of (sr5.keep ha _);refine⟨xs,hx,Mq (by rw[il.length];exact hlen),rfl,hlt,m5,ρ3,_,((((e2.trans e3).trans e4).trans e5).trans eu),sr5.put (o:=.lst (ys++[u4])) ha ⟨_,aH,(il.append (.cons_ i5 .nil_)).mono eu⟩,(lr4.mono (e5.trans eu)),hl2⟩
  cases hl2
 have e:i=us.length:=by omega
 subst e;rw[List.drop_length]at hl2;unfold ic at hl2;split at hl2;rename_i hok;cases hl2;exact .inl ⟨(ito m2 _ H2 _ (ee.trans e2) sr2 hok).2 (Q7 _),post m2 H2 e2 sr2⟩;cases hl2
def w6{ci:CI}{g:CG}{ce:CE}{n:Nat}{caps:List Nat}:∀σ H Q,tE K (dG ci g ce n caps) σ H Q->Cp (tI K ci) (tG K g) (tE K ce) n caps σ H Q:=by
 rintro σ H Q ⟨m,ρ,S,u,S',sr,lr,hc,post⟩;obtain⟨⟨us,ok,S1⟩,h1,h2⟩:=Q0.mp hc;obtain⟨S2,h2,h3⟩:=Q0.mp h2;cases h3;refine⟨m,ρ,S,us,ok,S1,sr,lr,h1,fun m1 H1 J e1 sr1 ito l hl=>?_⟩;have ee:Ext K m1 H1 (m1++[l]) (upd H1 l (.lst [])):=.new (bO hl _);exact uc sr1 (lr.mono e1) ito hl h2 fun m2 H2 e2 sr2=>post m2 _ H2 ((e1.trans ee).trans e2) sr2 (.ref_ (e2.get (dW sr1.len)))
def nL{Nc capN tn:List Str}{scope:Zl}{cl:List (Str×Addr)}{n:Nat}{caps:List Nat}{tg iter elt:QB}{pos:Pos}{ci:CI}{g:CG}{ce:CE}
  (hc:X.calm=true) (hi:QI X tg iter ci) (hg:∀s3 H3 fp,WG (cxC X Nc scope cl s3 H3 fp) tg (tG X.K g)) (he:∀s3 H3 fp,WE (cxC X Nc scope cl s3 H3 fp) elt (tE X.K ce))
  (hclos:closureFor scope X.env=pure cl) (hkind:scope.kind=.function) (hnl:∀x∈scope.names,x.2=.local->scope.names.lookup x.1=some .local) (hcell:∀x∈scope.names,x.2≠.cell)
  (hcl:xp X.env cl) (hhas:((relabel scope X.env).names.all fun p=>!(p.2 == .cell||p.2 == .free)||(cl.lookup p.1).isSome)=true)
  (hcap:Paired (Cap X scope cl) caps capN) (hN:Nc=tn++capN) (hn:tn.length=n)
  (hs:∀x,foldedSetIterable iter X.env x=pure x:=by intro _;rfl) :
  QE X (.ListComp elt [⟨tg,iter,[],0⟩] scope pos) (dG ci g ce n caps):=(vS hc hi hg he hclos hkind hnl hcell hcl hhas hcap hN hn hs).imp w6
def jI:Fn
 |[.tup us],S=>some (.int us.length,S)
 |[.ref l],S=>match S[l]? with
  |some (.lst us)=>some (.int us.length,S)
  |some (.dic us)=>some (.int us.length,S)
  |_=>none
 |[.kl ns],S=>some (.int ns.length,S)
 |_,_=>none
abbrev Pe(K:Q1):List V->Hp->VK->Prop:=fun xs H Q=>(∃p ys,xs=[.ref p]/\(SqL K H p ys\/SqT K H p ys)/\Q (.int ys.length) H)\/∃a kvs,xs=[V.ref a]/\H a=some (.dK kvs)/\Q (.int kvs.length) H
def oE:gU X (.builtin "len") (Pe X.K):=uf.or Bk
def IsL.one{m:List Addr}{H:Hp}{vs:List V}{u:U}(h:IsL K m H vs [u]):∃v,vs=[v]/\Is K m H v u:=by
 obtain⟨x,r,rfl,i,t⟩:=h.of_cons;rw[t.of_nil];exact⟨x,rfl,i⟩
def IsL.two{m:List Addr}{H:Hp}{vs:List V}{u w:U}(h:IsL K m H vs [u,w]):∃v x,vs=[v,x]/\Is K m H v u/\Is K m H x w:=by
 obtain⟨x,r,rfl,i,t⟩:=h.of_cons;obtain⟨y,rfl,j⟩:=t.one;exact⟨x,y,rfl,i,j⟩
def oC:mv K (Pe K) jI:=by
 intro m S H us vs u S' Q sr i hf post;match us,hf with
 |[.tup ws],hf=>
  cases hf;obtain⟨v,rfl,iv⟩:=i.one;obtain⟨a,xs,rfl,sa,la⟩:=iv.of_tup;exact .inl ⟨a,xs,rfl,.inr sa,by rw[la.length];exact post m _ H .refl sr .int_⟩
 |[.ref l],hf=>
  obtain⟨v,rfl,iv⟩:=i.one;obtain⟨a,ha,rfl⟩:=iv.of_ref;simp only[jI]at hf;split at hf<;>try cases hf
  rename_i ws hS;obtain⟨a',ha',xs,hx,la⟩:=sr.get hS;rw[ha]at ha';cases ha';exact .inl ⟨a,xs,rfl,.inl (SqL.of hx),by rw[la.length];exact post m _ H .refl sr .int_⟩;rename_i ws hS;obtain⟨a',ha',xs,hx,la⟩:=sr.get hS;rw[ha]at ha';cases ha';exact .inr ⟨a,xs,rfl,hx,by rw[IsP.length la];exact post m _ H .refl sr .int_⟩
 |[.kl ns],hf=>
  cases hf;obtain⟨v,rfl,iv⟩:=i.one;obtain⟨a,rfl,ka⟩:=iv.of_kl;exact .inl ⟨a,_,rfl,.inl ka.sq,by rw[Q9];exact post m _ H .refl sr .int_⟩
def vn:Fn
 |[.tup us],S=>some (.ref S.length,S++[.lst us])
 |[.ref l],S=>match S[l]? with
  |some (.lst us)=>some (.ref S.length,S++[.lst us])
  |_=>none
 |_,_=>none
def ET:mv K (fun xs H Q=>∃p ys,xs=[.ref p]/\(SqL K H p ys\/SqT K H p ys)/\∀l,H l=none->Q (.ref l) (upd H l (.lst ys))) vn:=by
 intro m S H us vs u S' Q sr i hf post;match us,hf with
 |[.tup ws],hf=>
  cases hf;obtain⟨v,rfl,iv⟩:=i.one;obtain⟨a,xs,rfl,sa,la⟩:=iv.of_tup;exact⟨a,xs,rfl,.inr sa,fun l hl=>ft sr la post hl⟩
 |[.ref l],hf=>
  obtain⟨v,rfl,iv⟩:=i.one;obtain⟨a,ha,rfl⟩:=iv.of_ref;simp only[vn]at hf;split at hf<;>try cases hf
  rename_i ws hS;obtain⟨a',ha',xs,hx,la⟩:=sr.get hS;rw[ha]at ha';cases ha';exact⟨a,xs,rfl,.inl (SqL.of hx),fun l hl=>ft sr la post hl⟩
def lZ:Fn
 |[.tup us],S=>some (.tup us,S)
 |[.ref l],S=>match S[l]? with
  |some (.lst us)=>some (.tup us,S)
  |_=>none
 |_,_=>none
def uS:mv K (fun xs H Q=>∃p ys,xs=[.ref p]/\((SqL K H p ys/\∀l,H l=none->Q (.ref l) (upd H l (.tup ys)))\/(SqT K H p ys/\Q (.ref p) H))) lZ:=by
 intro m S H us vs u S' Q sr i hf post;match us,hf with
 |[.tup ws],hf=>
  cases hf;obtain⟨v,rfl,iv⟩:=i.one;obtain⟨a,xs,rfl,sa,la⟩:=iv.of_tup;exact⟨a,xs,rfl,.inr ⟨sa,post m _ H .refl sr iv⟩⟩
 |[.ref l],hf=>
  obtain⟨v,rfl,iv⟩:=i.one;obtain⟨a,ha,rfl⟩:=iv.of_ref;simp only[lZ]at hf;split at hf<;>try cases hf
  rename_i ws hS;obtain⟨a',ha',xs,hx,la⟩:=sr.get hS;rw[ha]at ha';cases ha';exact⟨a,xs,rfl,.inl ⟨SqL.of hx,fun l hl=>qu sr la post hl⟩⟩
def OJ:Fn
 |[.int i],S=>some (.int i,S)
 |[.bl b],S=>some (.int (if b then 1 else 0),S)
 |_,_=>none
def Of:mv K (fun xs H Q=>(∃i,xs=[.int i]/\Q (.int i) H)\/∃k,xs=[.bl k]/\Q (.int (if k then 1 else 0)) H) OJ:=by
 intro m S H us vs u S' Q sr i hf post;match us,hf with
 |[.int j],hf=>
  cases hf;obtain⟨v,rfl,iv⟩:=i.one;exact .inl ⟨j,by rw[iv.of_int],post m _ H .refl sr .int_⟩
 |[.bl j],hf=>
  cases hf;obtain⟨v,rfl,iv⟩:=i.one;exact .inr ⟨j,by rw[iv.of_bl],post m _ H .refl sr .int_⟩
def IJ:Fn
 |[.int i,.int j],S=>some (.int (if j<i then j else i),S)
 |_,_=>none
def Oc:mv K (fun xs H Q=>∃i j,xs=[.int i,.int j]/\Q (.int (if j<i then j else i)) H) IJ:=by
 intro m S H us vs u S' Q sr i hf post;match us,hf with
 |[.int j,.int k],hf=>
  cases hf;obtain⟨v,w,rfl,iv,iw⟩:=i.two;exact⟨j,k,by rw[iv.of_int,iw.of_int],post m _ H .refl sr .int_⟩
def IK:Fn
 |[.int i,.int j],S=>some (.int (if j>i then j else i),S)
 |_,_=>none
def Oe:mv K (fun xs H Q=>∃i j,xs=[.int i,.int j]/\Q (.int (if j>i then j else i)) H) IK:=by
 intro m S H us vs u S' Q sr i hf post;match us,hf with
 |[.int j,.int k],hf=>
  cases hf;obtain⟨v,w,rfl,iv,iw⟩:=i.two;exact⟨j,k,by rw[iv.of_int,iw.of_int],post m _ H .refl sr .int_⟩
def DP:List U->Option (List Int)
 |[]=>some []
 |.int i::r=>(DP r).map (i::·)
 |_=>none
def Io:List U->Option (List Bool)
 |[]=>some []
 |.bl i::r=>(Io r).map (i::·)
 |_=>none
def wO:∀{us:List U} {ns:List Int},DP us=some ns->us=ns.map U.int
 |[],ns,h=>by cases h;rfl
 |u::r,ns,h=>by
  cases u<;>simp only[DP]at h<;>try cases h
  obtain⟨ms,e,h⟩:=Zz.mp h;subst h;rw[wO e];rfl
def vz:∀{us:List U} {ns:List Bool},Io us=some ns->us=ns.map U.bl
 |[],ns,h=>by cases h;rfl
 |u::r,ns,h=>by
  cases u<;>simp only[Io]at h<;>try cases h
  obtain⟨ms,e,h⟩:=Zz.mp h;subst h;rw[vz e];rfl
def rm:∀(ns:List Bool),Io (ns.map U.bl)=some ns
 |[]=>rfl
 |n::r=>by simp[Io,rm r]
def IsL.ints{m:List Addr}{H:Hp}:∀{xs:List V} {ns:List Int},IsL K m H xs (ns.map U.int)->xs=ns.map V.int
 |xs,[],h=>h.of_nil
 |xs,n::ns,h=>by
  obtain⟨x,r,rfl,i,t⟩:=h.of_cons;rw[IsL.ints t,i.of_int];rfl
def IsL.bls{m:List Addr}{H:Hp}:∀{xs:List V} {ns:List Bool},IsL K m H xs (ns.map U.bl)->xs=ns.map V.bl
 |xs,[],h=>h.of_nil
 |xs,n::ns,h=>by
  obtain⟨x,r,rfl,i,t⟩:=h.of_cons;rw[IsL.bls t,i.of_bl];rfl
def mG{m:List Addr}{H:Hp}:∀(ns:List Int),IsL K m H (ns.map V.int) (ns.map U.int)
 |[]=>.nil_
 |n::ns=>.cons_ .int_ (mG ns)
def LH:Fn
 |[.ref l],S=>match S[l]? with
  |some (.lst us)=>(Io us).bind fun bs=>some (.bl (bs.all id),S)
  |_=>none
 |_,_=>none
def Og:mv K (fun xs H Q=>∃(p:Addr) (bs:List Bool),xs=[.ref p]/\SqL K H p (bs.map V.bl)/\Q (.bl (bs.all id)) H) LH:=by
 intro m S H us vs u S' Q sr i hf post;match us,hf with
 |[.ref l],hf=>
  obtain⟨v,rfl,iv⟩:=i.one;obtain⟨a,ha,rfl⟩:=iv.of_ref;simp only[LH]at hf;split at hf<;>try cases hf
  rename_i ws hS;obtain⟨bs,hb,h⟩:=Q0.mp hf;cases h;obtain⟨a',ha',xs,hx,la⟩:=sr.get hS;rw[ha]at ha';cases ha';rw[vz hb]at la;rw[la.bls]at hx;exact⟨a,bs,rfl,SqL.of hx,post m _ H .refl sr .bl_⟩
def cBM(f:U->List U->Sto->Option (U×Sto))(co:CE)(cr:CA):CE:=fun ρ S=>(co ρ S).bind fun p=>match p.1 with
 |.ref l=>match p.2[l]? with
  |some (.lst _)=>(cr ρ p.2).bind fun q=>f p.1 q.1 q.2
  |_=>none
 |_=>none
def MtP(K:Q1)(r:V->List V->Hp->VK->Prop)(f:U->List U->Sto->Option (U×Sto)):Prop:=
 ∀m S H x v us vs u S' Q,Sr K m S H->Is K m H v x->IsL K m H vs us->f x us S=some (u,S')->kx K m H Q u S'->r v vs H Q
def Bq{r:V->List V->Hp->VK->Prop}{f:U->List U->Sto->Option (U×Sto)}{co:CE}{cr:CA}(hp:MtP K r f):∀σ H Q,tE K (cBM f co cr) σ H Q->tBM K "list" r (tE K co) (tA K cr) σ H Q:=by
 rintro σ H Q ⟨m,ρ,S,u,S',sr,lr,hc,post⟩;obtain⟨⟨x,S1⟩,h1,h2⟩:=Q0.mp hc;refine⟨m,ρ,S,x,S1,sr,lr,h1,fun m1 v1 H1 e1 sr1 i1=>?_⟩;cases x with
 |ref l=>
  simp only at h2;split at h2<;>try cases h2
  rename_i ws hS;obtain⟨⟨us,S2⟩,h3,h4⟩:=Q0.mp h2;obtain⟨a,ha,rfl⟩:=id i1.of_ref;obtain⟨a',ha',xs,hx,la⟩:=sr1.get hS;rw[ha]at ha';cases ha';exact⟨.inl ⟨rfl,xs,SqL.of hx⟩,m1,ρ,S1,us,S2,sr1,lr.mono e1,h3,fun m2 vs H2 e2 sr2 i2=>hp m2 S2 H2 _ _ us vs u S' Q sr2 (i1.mono e2) i2 h4 (post.mono (e1.trans e2))⟩
 |_=>simp at h2
def b7:U->List U->Sto->Option (U×Sto)
 |.ref l,[u],S=>match S[l]? with
  |some (.lst us)=>if us.length<LIM then some (.non,S.set l (.lst (us++[u])))else none
  |_=>none
 |_,_,_=>none
def Dg:MtP K zx b7:=by
 intro m S H x v us vs u S' Q sr ix i hf post;match x,us,hf with
 |.ref l,[w],hf=>
  simp only[b7]at hf;split at hf<;>try cases hf
  rename_i ws hS;split at hf<;>try cases hf
  rename_i hl;obtain⟨a,ha,rfl⟩:=ix.of_ref;obtain⟨a',ha',xs,hx,la⟩:=sr.get hS;rw[ha]at ha';cases ha';obtain⟨y,rfl,iy⟩:=i.one;have eu:Ext K m H m (upd H a (.lst (xs++[y]))):=.of (sr.keep ha _);exact⟨a,xs,y,rfl,rfl,hx,Mq (by rw[la.length];exact hl),post m _ _ eu (sr.put ha ⟨_,aH,(la.append (.cons_ iy .nil_)).mono eu⟩) .non_⟩
variable{co:CE}{o:QB}{apos cpos:Pos}
def cL (ho : QE X o co) (ha : QA X (e :: es) cr) (hbase : attributeBase o "append" X.env (eval o X.env) = eval o X.env := by rfl) (hfew : ((ZD cpos (QJ (e :: es) X.env)).all (fun x => !x.1) && (backToKw cpos (keywordEach [] X.env)).all (fun x => x.1.isSome)
   && decide ((e::es).length+([]:List Keyword).length+(if ([]:List Keyword).isEmpty then 0 else 1)<30))=true:=by rfl) (hline:(apos.endLine == cpos.line)=true:=by rfl) (hs:QJ (e::es) X.env=(false,eval e X.env)::QJ es X.env:=by rfl) (hplain:(ZD cpos (QJ es X.env)).any (·.1)=false:=by rfl) :
  QE X (.Call (.Attribute o "append" apos) (e::es) [] cpos) (cBM b7 co cr):=(yP PySem.F.plainAttrs_list PySem.F.slot_list_append PySem.F.type_list_append nQ ho ha.h hbase hfew hline hs hplain).imp (Bq Dg)
end
def OW:CS:=fun ρ S=>some (.bk,ρ,S)
structure TC(K:Q1)(c:Cl)(NS:List Str):Prop where
 cl:Cls K c.C
 ns:c.ns=NS
 nas:∀f∈NS,jx K c.C f
section
variable{c:Cl}{NS:List Str}
def TC.ix(T:TC K c NS){i:Nat}{f:Str}(h:NS[i]?=some f):c.ns[i]?=some f:=by rw[T.ns];exact h
def TC.na(T:TC K c NS)(i:Nat){f:Str}(h:NS[i]?=some f):jx K c.C f:=T.nas f (ZS h)
def TC.nm(T:TC K c NS){f:Str}(h:f∉NS):f∉c.ns:=by rw[T.ns];exact h
end
def _root_.L2.Fun.pure{P:Qx}{w:Z7}{K:Q1}{mg:Str->Option Q2}{base:Heap}{x qual:Str}{st:Z0}{f:Addr}{fd:Zu}{N ps:List Str}{k:Nat}{c:CS}(F:Fun K x qual st f fd)(S:bU N ps (ax st))
  (hb:∀(cdv:Q2) (A:Z9) (outer:List Env) (s:Q3) (H:Hp) (E:XK),eC k (A.deeper (envOfC qual (ax st) s.heap.objs.size f cdv))->
   WSs (mr CX0 P w K mg base N qual (ax st) f cdv A outer s H E).nox (bF st) (tS K c)):kC P w K mg base CX0 (k+1) f fd ps (yl K (fnU N.length ps.length c)):=
 Fun.okW F S (fun vs H Q E h=>mz h) fun cdv A outer s H vs Q E hr h=>⟨_,hb cdv A outer s H E hr,qU (X:=(mr CX0 P w K mg base N qual (ax st) f cdv A outer s H E).nox) (body:=[]) (ps:=ps) rfl h⟩
def SI:Bool->Heap->Addr->Addr->Nat->Prop
 |true,h,it,a,i=>h.IsListIter it a i
 |false,h,it,a,i=>h.IsTupleIter it a i
def SA:Bool->Heap->Addr->Array Q2->Prop
 |true,h,a,xs=>h.IsList a xs
 |false,h,a,xs=>h.IsTuple a xs
def SI.at_{b:Bool}{h h':Heap}{it a:Addr}{i:Nat}(x:SI b h it a i)(k:∀o,h.get? it=some o->h'.get? it=some o):SI b h' it a i:=by
 cases b with
 |true=>obtain⟨o,e,r⟩:=x;exact⟨o,k o e,r⟩
 |false=>obtain⟨o,e,r⟩:=x;exact⟨o,k o e,r⟩
def SA.at_{b:Bool}{h h':Heap}{a:Addr}{xs:Array Q2}(x:SA b h a xs)(k:∀o,h.get? a=some o->h'.get? a=some o):SA b h' a xs:=by
 cases b with
 |true=>obtain⟨o,e,r⟩:=x;exact⟨o,k o e,r⟩
 |false=>obtain⟨o,e,r⟩:=x;exact⟨o,k o e,r⟩
def SI.obj{b:Bool}{h:Heap}{it a:Addr}{i:Nat}(x:SI b h it a i):∃o,h.get? it=some o/\∀v,o.data≠.cell v:=by
 cases b with
 |true=>obtain⟨o,e,c,d⟩:=x;exact⟨o,e,fun v z=>by rw[d]at z;cases z⟩
 |false=>obtain⟨o,e,c,d⟩:=x;exact⟨o,e,fun v z=>by rw[d]at z;cases z⟩
def SA.lt{b:Bool}{h:Heap}{a:Addr}{xs:Array Q2}(x:SA b h a xs):a<h.objs.size:=by
 cases b with
 |true=>obtain⟨o,e,_⟩:=x;exact QV e
 |false=>obtain⟨o,e,_⟩:=x;exact QV e
variable{s:Q3}
section
variable{prog:Qx}{w:Z7}{A:Z9}{E:Q2->Q3->Prop}
def Ck{I t:Addr}{j:Nat}{ys:Array Q2}{y:Q2}{Q:Q2->Q3->Prop}(hI:s.heap.IsTupleIter I t j)(hT:s.heap.IsTuple t ys)(hy:ys[j]?=some y)
  (k:∀h',h'.IsTupleIter I t (j+1)->Heap.SameBut I s.heap h'->Q y { s with heap:=h' }):wpAny (Qy prog w) A (Builtin.SmallTypes.nextOf (.ref I)) Q E s:=by
 obtain⟨oi,gi,ci,di⟩:=id hI;obtain⟨ot,gt,_,nt,dt⟩:=hT;unfold Builtin.SmallTypes.nextOf;refine Q5 (wpAny_callSpecial?_slot (name:=Str.ofString "__next__") hI.typeIs PySem.F.slot_tuple_iterator_next (wpAny_call_entry PySem.F.slot_tuple_iterator_next hI.typeIs PySem.F.entry_tuple_iterator_next ?_ (PySem.F.args_tuple_iterator_next_1 _)));show wpAny _ _ (field (.ref I) 0 >>= _) _ _ s;refine Q5 (wpAny_field gi di (x:=.ref t) rfl ?_);show wpAny _ _ (ite ((Value.ref t == Value.none)=true) _ _) _ _ s;rw[XQ (by exact QZ)];show wpAny _ _ (field (.ref I) 1 >>= _) _ _ s;refine Q5 (wpAny_field gi di (x:=.int j 0) rfl ?_);show wpAny _ _ (seqItems? (.ref t) >>= _) _ _ s;refine Q5 (wpAny_seqItems gt dt ?_);simp only[hy,Int.toNat_natCast];refine Q5 (wpAny_setField gi di (by simp) (Qq ⟨y,rfl,Qq (k _ ⟨_,Heap.get?_update_self _ gi (Obj.isFreed_of_fields (Obj.data_mapFields di _)),(Obj.cls_mapFields ..).trans ci,?_⟩ (Heap.SameBut.update ..))⟩));rw[Obj.data_mapFields di];simp[rawInt]
def rZ{I t:Addr}{j:Nat}{ys:Array Q2}{Q:Q2->Q3->Prop}(hh:A.handled=none)(hI:s.heap.IsTupleIter I t j)(hT:s.heap.IsTuple t ys)(hy:ys[j]?=none)
  (k:∀h' e,Heap.ExtBut I s.heap h'->(∃o,h'.get? e=some o/\o.cls=.type "StopIteration")->E (.ref e) { s with heap:=h' }):wpAny (Qy prog w) A (Builtin.SmallTypes.nextOf (.ref I)) Q E s:=by
 obtain⟨oi,gi,ci,di⟩:=id hI;obtain⟨ot,gt,_,nt,dt⟩:=hT;unfold Builtin.SmallTypes.nextOf;refine Q5 (wpAny_callSpecial?_slot (name:=Str.ofString "__next__") hI.typeIs PySem.F.slot_tuple_iterator_next (wpAny_call_entry PySem.F.slot_tuple_iterator_next hI.typeIs PySem.F.entry_tuple_iterator_next ?_ (PySem.F.args_tuple_iterator_next_1 _)));show wpAny _ _ (field (.ref I) 0 >>= _) _ _ s;refine Q5 (wpAny_field gi di (x:=.ref t) rfl ?_);show wpAny _ _ (ite ((Value.ref t == Value.none)=true) _ _) _ _ s;rw[XQ (by exact QZ)];show wpAny _ _ (field (.ref I) 1 >>= _) _ _ s;refine Q5 (wpAny_field gi di (x:=.int j 0) rfl ?_);show wpAny _ _ (seqItems? (.ref t) >>= _) _ _ s;refine Q5 (wpAny_seqItems gt dt ?_);simp only[hy,Int.toNat_natCast];refine Q5 (wpAny_rule (Q5 (wpAny_setField gi di (by simp) ?_)));show wpAny _ _ (newExc (.type "StopIteration") [] >>= _) _ _ _;simp only[newExc,newTuple];refine Q5 ?_;refine Q5 (wpAny_newObj_type ?_ (by(size_fits)));refine Q5 (m:=firstArgMember _ _) (wpAny_of_eq (a:=Value.none) (by simp only[firstArgMember]<;>rfl) ?_);refine wpAny_newObj_type ?_ (by(size_fits));simp only[raiseNew];refine Q5 (wpAny_handled ?_);rw[show A.in1.handled=none from hh];exact Q5 (Qq (wpAny_throw (k _ _ (((Heap.SameBut.update ..).extBut.push _).push _) ⟨_,Qv _ rfl,rfl⟩)))
def GA{b:Bool}{I t:Addr}{j:Nat}{ys:Array Q2}{y:Q2}{Q:Q2->Q3->Prop}(hI:SI b s.heap I t j)(hT:SA b s.heap t ys)(hy:ys[j]?=some y)
  (k:∀h',SI b h' I t (j+1)->Heap.SameBut I s.heap h'->Q y { s with heap:=h' }):wpAny (Qy prog w) A (Builtin.SmallTypes.nextOf (.ref I)) Q E s:=by
 cases b with
 |true=>exact wpAny_nextOf_list_item hI hT hy k
 |false=>exact Ck hI hT hy k
def mO{b:Bool}{I t:Addr}{j:Nat}{ys:Array Q2}{Q:Q2->Q3->Prop}(hh:A.handled=none)(hI:SI b s.heap I t j)(hT:SA b s.heap t ys)(hy:ys[j]?=none)
  (k:∀h' e,Heap.ExtBut I s.heap h'->(∃o,h'.get? e=some o/\o.cls=.type "StopIteration")->E (.ref e) { s with heap:=h' }):wpAny (Qy prog w) A (Builtin.SmallTypes.nextOf (.ref I)) Q E s:=by
 cases b with
 |true=>exact wpAny_nextOf_list_end hh hI hT hy k
 |false=>exact rZ hh hI hT hy k
def itO(b:Bool)(a:Addr):Obj:={ cls:=.type (if b then "list_iterator" else "tuple_iterator"),data:=.fields #[.ref a,.int 0 0] }
def Lz{b:Bool}{a i:Addr}{h:Heap}(e:h.get? i=some (itO b a)):SI b h i a 0:=by
 cases b with
 |true=>exact⟨_,e,rfl,rfl⟩
 |false=>exact⟨_,e,rfl,rfl⟩
end
def Sq(K:Q1):Bool->Hp->Addr->List V->Prop
 |true,H,a,xs=>SqL K H a xs
 |false,H,a,xs=>SqT K H a xs
section
variable{pins:List (Addr×Obj)}{h':Heap}
def _root_.L2.Inv.turnedL{t':Nat}{ch:List Addr}(I:Inv X pins σ H s)(k:∀b o,b∉ch->s.heap.get? b=some o->h'.get? b=some o)(hf:∀b∈ch,yq X pins H b):Inv X pins σ H { s with heap:=h',toks:=t' }:=by
 have nit:∀b u,H b=some u->b∉ch:=fun b u e z=>by rw[(hf b z).1]at e;cases e
 refine I.step (g':=s.gens) (d':=s.drawn) (ch:=ch) (fun b hb=>⟨(hf b hb).2.2.2.1,(hf b hb).2.1,(hf b hb).2.2.2.2.1,(hf b hb).2.2.2.2.2⟩) (fun b o _ _ hc e _=>k b o hc e) (fun b o _ _ hc e _=>⟨o.slots,k b o hc e⟩) (fun _ _ _ _ n=>n)
  (fun b o hc e=>⟨o,k b o hc e⟩) (fun _ _ e=>e) (fun _ _ _ e=>e) (fun b ps e=>⟨#[],by rw[e];simp⟩) (fun m hm=>?_) (fun b u e=>?_) I.bare
 obtain⟨o,es,ep,ho,r⟩:=hm;exact⟨o,es,ep,k _ o (fun z=>(hf _ z).2.1 rfl) ho,r⟩;refine(I.hok b u e).stay (fun c v hc q=>k c v ?_ q) (fun _ q=>q) fun _ _ q=>q;rcases hc with z|z;rw[z];exact nit b u e;exact nit c _ z
def _root_.L2.Inv.sq{b:Bool}{a:Addr}{xs:List V}(I:Inv X pins σ H s)(h:Sq X.K b H a xs):∃its:List Q2,bX xs its/\SA b s.heap a its.toArray:=by
 cases b with
 |true=>obtain⟨its,r,p,_⟩:=I.list h;exact⟨its,r,p.isList⟩
 |false=>obtain⟨its,r,p,_⟩:=I.tuple h;exact⟨its,r,p⟩
def _root_.L2.Inv.sq_inj{b:Bool}{a:Addr}{xs ys:List V}(I:Inv X pins σ H s)(h:Sq X.K b H a xs)(h2:Sq X.K b H a ys):xs=ys:=by
 cases b with
 |true=>exact I.list_inj h h2
 |false=>exact I.tuple_inj h h2
end
def CN{h:Heap}{ob o:Obj}{e:Addr}(q:(h.push ob).get? e=some o)(ne:e≠h.objs.size):h.get? e=some o:=(Heap.get?_push_ne h e ob ne).symm.trans q
def C7{P:Qx}{w:Z7}{H:Hp}{h:Heap}{a:Addr}{x y:V}{u v:Q2}(e:h.get? a=some { cls:=.type "tuple",data:=.seq #[u,v] })(rx:cI x u)(ry:cI y v):eF P w H h a (.tup [x,y]):=
 ⟨by show 2<=QD;decide,[u,v],.cons rx (.cons ry .nil),⟨_,e,rfl,_,rfl⟩⟩
def IE:U->Sto->Option (List U×(Sto->Prop))
 |.tup us,_=>some (us,fun _=>True)
 |.ref l,S=>match S[l]? with
  |some (.lst us)=>some (us,fun S=>S[l]?=some (.lst us))
  |_=>none
 |_,_=>none
def J0{K:Q1}{m:List Addr}{S:Sto}{H:Hp}{u:U}{v:V}{us:List U}{ok:Sto->Prop}(sr:Sr K m S H)(iu:Is K m H v u)(h:IE u S=some (us,ok)) :
  ∃b a,v=.ref a/\(∃xs,Sq K b H a xs)/\∀m2 S2 H2,Ext K m H m2 H2->Sr K m2 S2 H2->ok S2->∃xs,Sq K b H2 a xs/\IsL K m2 H2 xs us:=by
 cases u with
 |tup ws=>
  cases h;obtain⟨a,xs,rfl,sq,il⟩:=iu.of_tup;exact⟨false,a,rfl,⟨xs,sq⟩,fun m2 S2 H2 e _ _=>⟨xs,e.keep.t _ _ sq,il.mono e⟩⟩
 |ref l=>
  simp only[IE]at h;split at h<;>try cases h
  rename_i us hS;obtain⟨a,ha,rfl⟩:=iu.of_ref;obtain⟨a',ha',xs,hx,il⟩:=sr.get hS;rw[ha]at ha';cases ha';refine⟨true,a,rfl,⟨xs,SqL.of hx⟩,fun m2 S2 H2 e sr2 hok=>?_⟩;obtain⟨a',ha',xs,hx,il⟩:=sr2.get hok;rw[e.get ha]at ha';cases ha';exact⟨xs,SqL.of hx,il⟩
 |_=>simp[IE]at h
def Ih{b:Bool}{prog:Qx}{w:Z7}{A:Z9}(hh:A.handled=none)(it a:Addr)(hne:a≠it)(ys:Array Q2) :
  Draws prog w A it [it,a] ys.size (fun i v=>ys[i]?=some v) (fun i h=>SI b h it a i/\SA b h a ys) where
 live:=fun _ _ st=>let ⟨o,ho,_⟩:=st.1.obj;⟨o,ho⟩
 frame:=fun _ _ _ st hk=>⟨st.1.at_ fun o e=>hk it (by simp) o e,st.2.at_ fun o e=>hk a (by simp) o e⟩
 item:=fun i s Q E hi st hQ=>GA st.1 st.2 (y:=ys[i]) (by simp[hi]) fun h' it' s'=>hQ _ h' s.toks (by simp[hi]) ⟨it',st.2.at_ fun o e=>s'.extBut _ _ hne e⟩ s'
 done:=fun s Q E st hE=>mO hh st.1 st.2 (by simp) hE
structure ESt(b:Bool)(h:Heap)(e it a:Addr)(n:Nat):Prop where
 he:∃old,IsEnum h e it n old
 hi:SI b h it a n
def AV(l:Addr)(ys:Array Q2)(n:Nat)(dct:Option Addr)(sl:Array (Option Q2)) :
  Meets (Builtin.«enumerate.__new__» ⟨[.type "enumerate",.ref l],[]⟩) (fun _ R s=>s.heap.get? l=some { cls:=.type "tuple",dict:=dct,data:=.seq ys n,slots:=sl }/\
   R (.ok (.ret (.ref (s.heap.push (itO false l)).objs.size))) { s with heap:=(s.heap.push (itO false l)).push { cls:=.type "enumerate",data:=.fields #[.none,.bool false,.ref s.heap.objs.size,rawInt 0,.none,.none] } }):=
 .of_wp fun prog w A R s q=>by
  obtain⟨hp,g,d,tk,os⟩:=s;obtain⟨gl,q⟩:=q;have sb:=sub_enumerate;have tl:Heap.IsTuple (Shared.heap ⟨hp,g,d,tk,os⟩) l ys:=⟨_,gl,rfl,n,rfl⟩
  wp_walk using wpAny_loadPart' gl
  refine wpAny_stack_any (fun st=>Qq ?_);split
  ·rename_i c _ _ _ _ _;cases (c == Value.type "enumerate")<;>(wp_walk using wpAny_loadPart' gl,wpAny_pyIter_tuple tl;exact⟨_,rfl,q⟩)
  wp_walk using wpAny_loadPart' gl,wpAny_pyIter_tuple tl
  exact⟨_,rfl,q⟩
def AW{b:Bool}{prog:Qx}{w:Z7}{A:Z9}{E:Q2->Q3->Prop}{s:Q3}{a:Addr}{ys:Array Q2}{Q:Q2->Q3->Prop}(ha:SA b s.heap a ys)
  (k:∀h' e it,e≠it->s.heap.objs.size<=e->s.heap.objs.size<=it->ESt b h' e it a 0->(∀c o,s.heap.get? c=some o->h'.get? c=some o)->Q (.ref e) { s with heap:=h' }) :
  wpAny (Qy prog w) A (call (.type "enumerate") [.ref a]) Q E s:=by
 cases b with
 |true=>exact call_enumerate_list ha fun h' e1 e2 sz up=>k h' _ _ (by omega) (Nat.le_add_right _ _) (Q7 _) ⟨⟨_,e1⟩,e2⟩ up
 |false=>
  obtain⟨⟨c,dct,dt,sl⟩,gl,hc,n,hd⟩:=ha;simp only at hc hd;subst hc hd;refine callType_new PySem.F.called_enumerate (by decide) (PySem.F.typeCall_enumerate_1 _) (PySem.F.newCall_enumerate_1 _) (fun obj=>PySem.F.args_object_init_2 obj _) PySem.F.entry_enumerate_new (AV a ys n dct sl) ⟨gl,?_⟩;have n1:(s.heap.push (itO false a)).objs.size=s.heap.objs.size+1:=Heap.size_push ..;have p2:=Qv (s.heap.push (itO false a)) (o:={ cls:=.type "enumerate",data:=.fields #[.none,.bool false,.ref s.heap.objs.size,rawInt 0,.none,.none] }) rfl;have p1:((s.heap.push (itO false a)).push { cls:=.type "enumerate",data:=.fields #[.none,.bool false,.ref s.heap.objs.size,rawInt 0,.none,.none] }).get? s.heap.objs.size=some (itO false a):=Q6 _ (Qv _ rfl);rw[n1]at p2;show _/\_;rw[n1];exact⟨⟨_,p2,rfl⟩,k _ (s.heap.objs.size+1) s.heap.objs.size (Nat.ne_of_gt (Nat.lt_succ_self _)) (Nat.le_add_right _ _) (Q7 _) ⟨⟨_,p2⟩,Lz p1⟩ fun c o x=>Q6 _ (Q6 _ x)⟩
def DW{b:Bool}{prog:Qx}{w:Z7}{A:Z9}{E:Q2->Q3->Prop}{s:Q3}{e it a:Addr}{i:Int}{j:Nat}{ys:Array Q2}{old:Q2}{Q:Option Q2->Q3->Prop}(hh:A.in1.handled=none)(he:IsEnum s.heap e it i old)(hi:SI b s.heap it a j)(ha:SA b s.heap a ys)(hx:ys[j]?=none)
  (k:∀h',Heap.ExtBut it s.heap h'->Q none { s with heap:=h' }):wpAny (Qy prog w) A (pyNext (.ref e)) Q E s:=by
 have ty:s.TypeIs (.ref e) "enumerate":=⟨_,he,rfl⟩;unfold pyNext;refine Q5 (wpAny_attempt (wpAny_callSpecial?_slot (name:=Str.ofString "__next__") ty PySem.F.slot_enumerate_next (wpAny_call_entry PySem.F.slot_enumerate_next ty PySem.F.entry_enumerate_next ?_ (PySem.F.args_enumerate_next_1 _))));show wpAny _ _ (field (.ref e) 2 >>= fun _=>_) _ _ _;refine Q5 (wpAny_field he rfl (x:=.ref it) rfl (Q5 (mO hh hi ha hx fun h' x he' hx'=>?_)));obtain⟨o,ho,co⟩:=hx';exact Q5 (wpAny_isInstance (T:="StopIteration") (b:=true) ⟨o,ho,co⟩ isSubtype_stop (Qq (k _ he')))
def Ite(K:Q1)(b:Bool)(a:Addr):It:=
  ⟨fun i H=>∃xs x,Sq K b H a xs/\xs[i]?=some x,
   fun i H v H'=>∃p x,v=.ref p/\H p=none/\H'=upd H p (.tup [.int i,x])/\∀xs,Sq K b H a xs->xs[i]?=some x,
   fun i H=>∃xs,Sq K b H a xs/\xs.length<=i⟩
def zb{P:Qx}{w:Z7}{K:Q1}{es:List QB}{k:Nat}{pos:Pos}{b:Bool}{e it a:Addr}(ne:e≠it)(nae:a≠e)(nai:a≠it) :
  IQ P w K (.Tuple es k pos) (Ite K b a) [e,it] e (fun n h=>ESt b h e it a n) where
 mem:=by simp
 obj:=fun n h st c hc=>by
  obtain⟨⟨old,he⟩,hi⟩:=st;simp only[Qz,Zp,or_false]at hc;rcases hc with rfl|rfl;exact⟨_,he,fun v q=>by cases q⟩;exact hi.obj
 keep:=fun n h h' st kp=>let ⟨old,he⟩:=st.he;⟨⟨old,kp e (by simp) _ he⟩,st.hi.at_ fun o q=>kp it (by simp) o q⟩
 item:=by
  intro X hP hw hK hc n pins s σ H E Iv hf st hg;subst hP hw hK;obtain⟨xs,x,qa,hx⟩:=hg;obtain⟨ia,ra,sa⟩:=Iv.sq qa;obtain⟨u,hu,ru⟩:=ra.get hx;obtain⟨⟨old,he⟩,hi⟩:=st;have hlt:n<ia.toArray.size:=by simpa using (Q4.mp hu).1
  refine wpAny_pyNext_enum_itemD (Ih (b:=b) (show X.A.in1.handled=none from Iv.ok.hd hc) it a nai ia.toArray) he ⟨hi,sa⟩ hlt ne (by simp[ne,Ne.symm nae]) fun y h1 tk py out1 st1 T1 sz1 up1=>⟨_,rfl,wpAny_letOwnedTupleGo_enum out1 fun h2 e2 s2=>?_⟩;have ey:y=u:=by
   have p':ia.toArray[n]?=some y:=py;rw[List.getElem?_toArray,hu]at p';cases p';rfl
  subst ey;have hfr:H s.heap.objs.size=none:=Iv.hok.fresh (Q7 _);have elt:e<s.heap.objs.size:=QV he;have ilt:it<s.heap.objs.size:=by obtain⟨o,q,_⟩:=hi.obj;exact QV q
  have sz:∀c∈[e,it],c<s.heap.objs.size:=fun c hc=>by
   simp only[Qz,Zp,or_false]at hc;rcases hc with rfl|rfl;exact elt;exact ilt
  have T2:h2.get? s.heap.objs.size=some { cls:=.type "tuple",data:=.seq #[.int n tk,y] }:=s2.extBut _ _ (Nat.ne_of_gt elt) T1;have I1:Inv X pins σ (upd H s.heap.objs.size (.tup [.int n,x])) { s with heap:=s.heap.push { cls:=.type "tuple",data:=.seq #[.int n tk,y] },toks:=s.toks }:=
   Iv.laid (fun b o e=>Q6 _ e) (Q7 _) (C7 (Qv _ rfl) ⟨tk,rfl⟩ ru)
  have fr2:∀c∈[e,it],(upd H s.heap.objs.size (.tup [.int n,x])) c=none:=fun c hc=>by rw[aI (Qr (sz c hc))];exact(hf c hc).1
  have I2:Inv X pins σ (upd H s.heap.objs.size (.tup [.int n,x])) { s with heap:=h2,toks:=tk+1 }:=
   Inv.turnedL (s:={ s with heap:=s.heap.push { cls:=.type "tuple",data:=.seq #[.int n tk,y] },toks:=s.toks }) (h':=h2) (t':=tk+1) (ch:=[e,it]) I1 (fun c o hn q=>by
    by_cases ce:c=s.heap.objs.size;subst ce;have q':(s.heap.push { cls:=.type "tuple",data:=.seq #[.int n tk,y] }).get? s.heap.objs.size=some o:=q;rw[Qv _ rfl]at q';cases q';exact T2;have q':s.heap.get? c=some o:=CN q ce;simp only[Qz,Zp,or_false,not_or]at hn;exact s2.extBut _ _ hn.1 (up1 c o hn.1 hn.2 q')) fun c hc=>⟨fr2 c hc,(hf c hc).2⟩
  refine⟨.ref s.heap.objs.size,_,I2,rfl,⟨_,x,rfl,hfr,rfl,fun xs' q=>by rw[Iv.sq_inj q qa];exact hx⟩,⟨⟨_,by simpa using e2⟩,st1.1.at_ fun o q=>s2.extBut _ _ (Ne.symm ne) q⟩,fr2⟩
 done:=by
  intro X hP hw hK hc n pins s σ H E Iv hf st hg;subst hP hw hK;obtain⟨xs,qa,hx⟩:=hg;obtain⟨ia,ra,sa⟩:=Iv.sq qa;have la:=ra.length;obtain⟨⟨old,he⟩,hi⟩:=st;refine DW (show X.A.in1.handled=none from Iv.ok.hd hc) he hi sa (by simp;omega) fun h1 up1=>⟨rfl,?_⟩;exact Iv.turnedL (t':=s.toks) (ch:=[e,it]) (fun c o hn q=>by
   simp only[Qz,Zp,or_false,not_or]at hn;exact up1 c o hn.2 q) hf
 self:=fun _ _ _ _ _ st h=>let ⟨old,he⟩:=st.he;wpAny_pyIter_enum he h
def LD(K:Q1)(ta:TA):TI:=fun σ H R=>ta σ H fun vs H2=>∃b a,vs=[.ref a]/\(∃xs,Sq K b H2 a xs)/\R (Ite K b a) H2
def Bp:ZE "enumerate"=some (.type "enumerate"):=rfl
def Gp{es:List QB}{k:Nat}{tp p:Pos}{a:QB}{ta:TA}(hg:Gl X "enumerate")(hm:X.mg "enumerate"=none)(ha:WA X [a] ta)
  (hs:QJ [a] X.env=(false,eval a X.env)::QJ [] X.env:=by rfl) (hpl:(ZD pos (QJ [] X.env)).any (·.1)=false:=by rfl):WI X (.Tuple es k tp) (.Call (.Name "enumerate" p) [a] [] pos) (LD X.K ta):=by
 constructor;intro pins s σ H R I h;refine wpAny_Call_Name_kw (sZ I hg hm OP.Bp ?_);refine PyProof.Rows.callWith_type1 (thn (ha.h pos pins s σ H _ I h) fun us s1 hz=>?_) hs hpl;obtain⟨vs,H1,I1,r1,q1⟩:=hz;obtain⟨b,aa,rfl,⟨xs,qa⟩,q⟩:=q1;obtain⟨u,rfl,ru⟩:=mL r1;cases ru;obtain⟨ia,ra,sa⟩:=I1.sq qa;refine AW sa fun h1 e it ne he hi st up=>?_;obtain⟨old,hE⟩:=st.he;refine wpAny_pyIter_enum hE ⟨e,[e,it],_,_,H1,rfl,I1.kept (t':=s1.toks) up,zb ne (Qr (QM sa.lt he)) (Qr (QM sa.lt hi)),st,fun c hc=>?_,q⟩;simp only[Qz,Zp,or_false]at hc;rcases hc with rfl|rfl;exact I1.fpOk he (I1.hok.fresh he);exact I1.fpOk hi (I1.hok.fresh hi)
def x8(us:List U):List U:=us.zipIdx.map fun p=>.tup [.int p.2,p.1]
def ve(ca:CE):CI:=fun ρ S=>(ca ρ S).bind fun p=>(IE p.1 p.2).bind fun x=>some (x8 x.1,x.2,p.2)
def zy{es:List QB}{k:Nat}{tp p:Pos}{a:QB}{ca:CE}(hg:Gl X "enumerate")(hm:X.mg "enumerate"=none)(ha:QE X a ca)
  (hs:QJ [a] X.env=(false,eval a X.env)::QJ [] X.env:=by rfl) (hpl:(ZD pos (QJ [] X.env)).any (·.1)=false:=by rfl) :
  QI X (.Tuple es k tp) (.Call (.Name "enumerate" p) [a] [] pos) (ve ca):=(Gp hg hm (vU ha yR hs) hs hpl).imp fun σ H R hz=>wU hz fun m ρ S us ok S' sr lr hf post=>by
 obtain⟨⟨x,S1⟩,h1,h⟩:=Q0.mp hf;obtain⟨⟨xs,okx⟩,h3,h⟩:=Q0.mp h;cases h;refine⟨m,ρ,S,x,_,sr,lr,h1,fun m1 v1 H1 e1 sr1 i1=>?_⟩;obtain⟨b,aa,rfl,q1,k1⟩:=J0 sr1 i1 h3;refine⟨b,aa,rfl,q1,post m1 H1 _ e1 sr1 fun m3 S3 H3 i e3 sr3 hok=>?_⟩;obtain⟨vs,sq1,l1⟩:=k1 m3 S3 H3 e3 sr3 hok;have n1:=l1.length;refine⟨fun u hu=>?_,fun hi=>⟨vs,sq1,?_⟩⟩;simp only[x8,QL,Zz,List.getElem?_zipIdx]at hu;obtain⟨⟨p,q⟩,⟨y,hp,e⟩,rfl⟩:=hu;cases e;obtain⟨vp,ep,ip⟩:=l1.getD hp;refine⟨⟨vs,vp,sq1,ep⟩,fun v H4 hy=>?_⟩;obtain⟨r,x',rfl,hr,rfl,f1⟩:=hy;have:=f1 vs sq1;rw[ep]at this;cases this;have ee:Ext X.K m3 H3 m3 (upd H3 r (.tup [.int i,vp])):=.of (bO hr _);exact⟨ee,sr3.same (f9 hr _),.tup_ (SqT.of aH) (.cons_ (by simp only[Nat.zero_add];exact .int_) (.cons_ (ip.mono ee) .nil_))⟩;simp only[x8,Q9,List.length_zipIdx]at hi;omega
def tw:∀{vs:List Q2} {ns:List Int},IntsAre vs ns->bX (ns.map V.int) vs
 |_,_,.nil=>.nil
 |_,_,.cons n t r=>.cons ⟨t,rfl⟩ (tw r)
def iP:∀{ns:List Int} {vs:List Q2},bX (ns.map V.int) vs->IntsAre vs ns
 |[],_,h=>by cases h;exact .nil
 |n::ns,_,.cons r t=>by
  obtain⟨k,rfl⟩:=r;exact .cons n k (iP t)
def zv(K:Q1):List V->Hp->VK->Prop:=fun xs H Q=>∃(p:Addr) (ns:List Int),xs=[.ref p]/\(SqL K H p (ns.map V.int)\/∃kvs,H p=some (.dK kvs)/\kvs.map (·.1)=ns.map Sum.inl)/\ns.length<64/\
 ∀(l:Addr) (ms:List Int),H l=none->ms.Perm ns->ms.Pairwise (·<=·)->Q (.ref l) (upd H l (.lst (ms.map V.int)))
def u6{κ:Type}:∀{kvs:List (κ×V)} {vs:List (κ×Q2)},KV kvs vs->vs.map (·.1)=kvs.map (·.1)
 |_,_,.nil=>rfl
 |_,_,.cons r t=>by rw[QU,QU,u6 t,r.1]
def Aa{P:Qx}{w:Z7}{H:Hp}{h:Heap}{a:Addr}{ms:List Int}{out:Array Q2}{e:Nat}(g:h.get? a=some (seqObj "list" out e))(hI:IntsAre out.toList ms)(hl:ms.length<64):eF P w H h a (.lst (ms.map V.int)):=
 ⟨by rw[Q9];exact Nat.le_of_lt (QM hl (by unfold QD;decide)),out.toList,e,tw hI,by rw[Array.toArray_toList];exact g⟩
def wm{X:Cx}(hc:X.calm=true):gU X (.builtin "sorted") (zv X.K):=by
 rintro pins s σ H xs us Q I r ⟨p,ns,rfl,src,h64,q⟩;obtain⟨u,rfl,ru⟩:=mL r;cases ru;rcases src with hL|⟨kvs,hD,hk⟩;obtain⟨its,rv,pl,hz⟩:=I.list hL;have hI:=iP rv;have hlen:=rv.length;rw[Q9]at hlen;refine sorted_ints pl.isList hI (by omega) fun out ms a1 a2 a3=>?_;obtain⟨e,ge⟩:=sortedAll_at s.heap its out;have hf:=I.hok.fresh (X7 s.heap.objs.size);exact⟨.ref (s.heap.objs.size+1),_,I.laid (t':=s.toks) (fun b o e=>sortedAll_old e) (X7 _) (Aa ge a1 (by rw[a2.length_eq];exact h64)),rfl,q _ ms hf a2 a3⟩;obtain⟨z,hd,vs,rel,dd⟩:=A8 I.hok hD;obtain⟨ep,da⟩:=dd.dictAt;have lkv:kvs.length=ns.length:=by have:=congrArg List.length hk;simpa using this
 have lv:vs.length=ns.length:=by rw[<-Paired.length rel];exact lkv
 have ks:vs.map (·.1)=ns.map Sum.inl:=by
  rw[<-hk];exact u6 rel
 refine Calls.call_function_entry kind_sorted plain_sorted entry_sorted (args_sorted1 _) ?_;unfold Builtin.«sorted»;refine Q5 (m:=checkCount "sorted" 1 1 _) (Qq (Q5 (PySem.W.kdu_collect (PySem.W.kdl_dict (kvs:=vs) (ep:=ep) hd) (show X.A.in1.handled=none from I.ok.hd hc) da (by rw[lv,<-lkv];exact z) fun h1 tk acc up hac=>?_)));have hla:acc.toList.length=ns.length:=by rw[ZH,hac.1,lv]
 have hI:IntsAre acc.toList ns:=by
  have key:∀(i:Nat) (v:Q2),acc.toList[i]?=some v->∃(n:Int) (t:Tok),ns[i]?=some n/\v=Value.int n t:=fun i v e=>by
   obtain⟨k,x,e1,e2⟩:=hac.2 i v (by rw[<-Array.getElem?_toList];exact e);have e3:(vs.map (·.1))[i]?=some k:=by rw[QL,e1];rfl
   rw[ks,QL]at e3;obtain⟨n,e4,e5⟩:=Zz.mp e3;subst e5;rcases bH (k:=Sum.inl n) e2 with⟨j,t,e6,e7⟩|⟨j,t,e6,e7⟩;cases e6;exact⟨n,t,e4,e7⟩;cases e6
  clear hac;generalize acc.toList=L at key hla;clear ks lv lkv h64 q hk;induction L generalizing ns with
  |nil=>cases ns with
   |nil=>exact .nil
   |cons a b=>simp at hla
  |cons a b ih=>cases ns with
   |nil=>simp at hla
   |cons c d=>
    obtain⟨n,t,e1,e2⟩:=key 0 a (by simp);simp at e1;subst e1;subst e2;exact .cons _ t (ih _ (fun i v e=>by have:=key (i+1) v (by simpa using e);simpa using this) (by simpa using hla))
 refine Q5 (wpAny_newList ?_ (by rw[hla,<-lkv];exact z));have gL:(h1.push { cls:=.type "list",data:=.seq acc.toList.toArray }).get? h1.objs.size=some (seqObj "list" acc.toList.toArray 0):=Qv _ rfl;refine Q5 (wpAny_holding (wpAny_call_entry slot_list_sort ⟨_,gL,rfl⟩ entry_list_sort (list_sort_tree (s:={ s with heap:=h1.push { cls:=.type "list",data:=.seq acc.toList.toArray },toks:=tk }) gL hI (by omega) fun out ms a1 a2 a3=>⟨_,rfl,?_⟩) (args_list_sort _)));obtain⟨e,ge⟩:=sortedHeap_at (out:=out) gL;have I1:Inv X pins σ H { s with heap:=h1,toks:=tk }:=I.kept up;have hf:=I1.hok.fresh (Q7 h1.objs.size);refine Qq ⟨_,rfl,.ref h1.objs.size,_,Inv.laid (s:={ s with heap:=h1,toks:=tk }) (h':=sortedHeap (h1.push { cls:=.type "list",data:=.seq acc.toList.toArray }) h1.objs.size acc.toList out) (t':=tk) I1 (fun b o g1=>?_) (Q7 _) (Aa ge a1 (by rw[a2.length_eq];exact h64)),rfl,q _ ms hf a2 a3⟩;have g1:h1.get? b=some o:=g1;have lt1:=QV g1;rw[sortedHeap_old (Qr lt1) (by rw[Heap.size_push];exact Nat.lt_succ_of_lt lt1)];exact Q6 _ g1
def bI(ns:List Int):List Int:=ns.mergeSort (fun a b=>decide (a<=b))
def gX(ns:List Int):(bI ns).Perm ns:=List.mergeSort_perm ..
def sC(ns:List Int):(bI ns).Pairwise (·<=·):=by
 have:=List.pairwise_mergeSort (le:=fun(a b:Int)=>decide (a<=b)) (fun a b c h1 h2=>by simp at h1 h2 ⊢;omega) (fun a b=>by simp;omega) ns;exact this.imp fun h=>by simpa using h
def qh{ns ms:List Int}(p:ms.Perm ns)(s:ms.Pairwise (·<=·)):ms=bI ns:=PySem.W.lks_uniq (p.trans (gX ns).symm) s (sC ns)
def nU:List (Key×U)->Option (List Int)
 |[]=>some []
 |(.inl n,_)::r=>(nU r).map (n::·)
 |_=>none
def qy:∀{kus:List (Key×U)} {ns:List Int},nU kus=some ns->kus.map (·.1)=ns.map Sum.inl
 |[],ns,h=>by cases h;rfl
 |(k,u)::r,ns,h=>by
  cases k<;>simp only[nU]at h<;>try cases h
  obtain⟨ms,e,h⟩:=Zz.mp h;subst h;simp[qy e]
def iW:Fn
 |[.ref l],S=>match S[l]? with
  |some (.lst us)=>(DP us).bind fun ns=>if ns.length<64 then some (.ref S.length,S++[.lst ((bI ns).map U.int)])else none
  |some (.dic kus)=>(nU kus).bind fun ns=>if ns.length<64 then some (.ref S.length,S++[.lst ((bI ns).map U.int)])else none
  |_=>none
 |_,_=>none
def wj{K:Q1}:mv K (zv K) iW:=by
 intro m S H us vs u S' Q sr i hf post;match us,hf with
 |[.ref l],hf=>
  obtain⟨v,rfl,iv⟩:=i.one;obtain⟨a,ha,rfl⟩:=iv.of_ref;simp only[iW]at hf;split at hf<;>try cases hf
  ·rename_i ws hS;obtain⟨ns,hn,h⟩:=Q0.mp hf;split at h<;>try cases h
   have hc:ns.length<64:=by assumption
   obtain⟨a',ha',xs,hx,la⟩:=sr.get hS;rw[ha]at ha';cases ha';rw[wO hn]at la;rw[la.ints]at hx;refine⟨a,ns,rfl,.inl (SqL.of hx),hc,fun p ms hp pm sm=>?_⟩;rw[qh pm sm];exact ft sr (mG _) post hp
  ·rename_i ws hS;obtain⟨ns,hn,h⟩:=Q0.mp hf;split at h<;>try cases h
   have hc:ns.length<64:=by assumption
   obtain⟨a',ha',kvs,hx,ip⟩:=sr.get hS;rw[ha]at ha';cases ha';refine⟨a,ns,rfl,.inr ⟨kvs,hx,by rw[ip.1,qy hn]⟩,hc,fun p ms hp pm sm=>?_⟩;rw[qh pm sm];exact ft sr (mG _) post hp
variable{t:CT}{cc:CE}{x:U}
section
variable{u y:U}{f g:U->U->Sto->Option (U×Sto)}{b:Bool}
def Pk(S:Sto):Option (Option U)->Option (U×Sto)
 |some (some u)=>some (u,S)
 |_=>none
def uE:ah i ρ S=Pk S (ρ[i]?):=rfl
def mK:Pk S (some (some u))=some (u,S):=rfl
def x_c:cC u ρ S=some (u,S):=rfl
def Ov(f:U->U->Sto->Option (U×Sto))(x:U)(q:U×Sto):=f x q.1 q.2
def Pr(f:U->U->Sto->Option (U×Sto))(cb:CE)(ρ:Rho)(p:U×Sto):=(cb ρ p.2).bind (Ov f p.1)
def Jd:cOp f ca cb ρ S=(ca ρ S).bind (Pr f cb ρ):=rfl
def yu:Pr f cb ρ (x,S)=(cb ρ S).bind (Ov f x):=rfl
def yt:Ov f x (y,S)=f x y S:=rfl
def Ln:U×Sto->Option (Bool×Sto)
 |(.bl b,S)=>some (b,S)
 |_=>none
def vL:aR ca ρ S=(ca ρ S).bind Ln:=by
 unfold aR;congr 1;funext p;obtain⟨u,S⟩:=p;cases u<;>rfl
def qd:Ln (.bl b,S)=some (b,S):=rfl
def OE(tb:CT)(ρ:Rho)(p:Bool×Sto):=if p.1=true then tb ρ p.2 else some (false,p.2)
def kOr(tb:CT)(ρ:Rho)(p:Bool×Sto):=if p.1=true then some (true,p.2)else tb ρ p.2
def Pt(p:Bool×Sto):Option (Bool×Sto):=some (!p.1,p.2)
def Jt:yf ta tb ρ S=(ta ρ S).bind (OE tb ρ):=rfl
def EB:OE tb ρ (true,S)=tb ρ S:=rfl
def EA:OE tb ρ (false,S)=some (false,S):=rfl
def PX:cOr ta tb ρ S=(ta ρ S).bind (kOr tb ρ):=rfl
def MR:kOr tb ρ (true,S)=some (true,S):=rfl
def MQ:kOr tb ρ (false,S)=tb ρ S:=rfl
def MS:IL ta ρ S=(ta ρ S).bind Pt:=rfl
def Jf:Pt (b,S)=some (!b,S):=rfl
def HK(cb:CE)(ρ:Rho):U×Sto->Option (U×Sto)
 |(.bl true,S)=>cb ρ S
 |(.bl false,S)=>some (.bl false,S)
 |_=>none
def Ou(cb:CE)(ρ:Rho):U×Sto->Option (U×Sto)
 |(.bl false,S)=>cb ρ S
 |(.bl true,S)=>some (.bl true,S)
 |_=>none
def Lp:U×Sto->Option (U×Sto)
 |(.bl b,S)=>some (.bl (!b),S)
 |_=>none
def Js:ye ca cb ρ S=(ca ρ S).bind (HK cb ρ):=by
 unfold ye;congr 1;funext p;obtain⟨u,S⟩:=p;cases u with
 |bl b=>cases b<;>rfl
 |_=>rfl
def FP:HK cb ρ (.bl true,S)=cb ρ S:=rfl
def FO:HK cb ρ (.bl false,S)=some (.bl false,S):=rfl
def MP:LX ca cb ρ S=(ca ρ S).bind (Ou cb ρ):=by
 unfold LX;congr 1;funext p;obtain⟨u,S⟩:=p;cases u with
 |bl b=>cases b<;>rfl
 |_=>rfl
def Jc:Ou cb ρ (.bl false,S)=cb ρ S:=rfl
def Jb:Ou cb ρ (.bl true,S)=some (.bl true,S):=rfl
def Je:Ec ca ρ S=(ca ρ S).bind Lp:=by
 unfold Ec;congr 1;funext p;obtain⟨u,S⟩:=p;cases u<;>rfl
def FE:Lp (.bl b,S)=some (.bl (!b),S):=rfl
def Av(u:U)(q:List U×Sto):Option (List U×Sto):=some (u::q.1,q.2)
def EZ(cr:CA)(ρ:Rho)(p:U×Sto):=(cr ρ p.2).bind (Av p.1)
def uF:ay ρ S=some ([],S):=rfl
def lu:ag ca cr ρ S=(ca ρ S).bind (EZ cr ρ):=rfl
def jA:EZ cr ρ (u,S)=(cr ρ S).bind (Av u):=rfl
def jy:Av u (us,S)=some (u::us,S):=rfl
def Pn(p:List U×Sto):Option (U×Sto):=some (.tup p.1,p.2)
def Pu(p:List U×Sto):Option (U×Sto):=some (.ref p.2.length,p.2++[.lst p.1])
def MF:iN cr ρ S=(cr ρ S).bind Pn:=rfl
def IW:Pn (us,S)=some (.tup us,S):=rfl
def Jg:mH cr ρ S=(cr ρ S).bind Pu:=rfl
def Ex:Pu (us,S)=some (.ref S.length,S++[.lst us]):=rfl
def kCB(f:Fn)(p:List U×Sto):=f p.1 p.2
def FN{f:Fn}:cCB f cr ρ S=(cr ρ S).bind (kCB f):=rfl
def xw{f:Fn}:kCB f (us,S)=f us S:=rfl
def Mr(c2:CS):Out×Rho×Sto->Option (Out×Rho×Sto)
 |(.nx,ρ,S)=>c2 ρ S
 |(o,ρ,S)=>some (o,ρ,S)
def Eu:bP ρ S=some (.nx,ρ,S):=rfl
def xq:aV c1 c2 ρ S=(c1 ρ S).bind (Mr c2):=by
 unfold aV;congr 1;funext p;obtain⟨o,ρ,S⟩:=p;cases o<;>rfl
def vM:Mr c2 (.nx,ρ,S)=c2 ρ S:=rfl
def I0:Mr c2 (.rt u,ρ,S)=some (.rt u,ρ,S):=rfl
def IZ:Mr c2 (.bk,ρ,S)=some (.bk,ρ,S):=rfl
def Ls(ρ:Rho)(p:U×Sto):Option (Out×Rho×Sto):=some (.nx,ρ,p.2)
def Pq(ρ:Rho)(p:U×Sto):Option (Out×Rho×Sto):=some (.rt p.1,ρ,p.2)
def Jn:b8 ca ρ S=(ca ρ S).bind (Ls ρ):=rfl
def FK:Ls ρ (u,S)=some (.nx,ρ,S):=rfl
def FC:bT ca ρ S=(ca ρ S).bind (Pq ρ):=rfl
def Ja:Pq ρ (u,S)=some (.rt u,ρ,S):=rfl
def Ow(c1 c2:CS)(ρ:Rho)(p:Bool×Sto):=if p.1=true then c1 ρ p.2 else c2 ρ p.2
def xv:dQ t c1 c2 ρ S=(t ρ S).bind (Ow c1 c2 ρ):=rfl
def vO:Ow c1 c2 ρ (true,S)=c1 ρ S:=rfl
def vN:Ow c1 c2 ρ (false,S)=c2 ρ S:=rfl
def Po(i:Nat)(ρ:Rho)(p:U×Sto):Option (Out×Rho×Sto):=some (.nx,ρ.set i (some p.1),p.2)
def FA:dF i ca ρ S=(ca ρ S).bind (Po i ρ):=rfl
def yr:Po i ρ (u,S)=some (.nx,ρ.set i (some u),S):=rfl
def HJ(q:Rho×Sto):Option (Out×Rho×Sto):=some (.nx,q.1,q.2)
def Pw(g:CG)(ρ:Rho)(p:U×Sto):=(g p.1 ρ p.2).bind HJ
def NA{g:CG}:LY ca g ρ S=(ca ρ S).bind (Pw g ρ):=rfl
def Jr{g:CG}:Pw g ρ (u,S)=(g u ρ S).bind HJ:=rfl
def Jq:HJ (ρ,S)=some (.nx,ρ,S):=rfl
def Nj:gNm i u ρ S=some (ρ.set i (some u),S):=rfl
def Nh{is:List Nat}:gTp is (.tup us) ρ S=(iJ is us ρ).bind fun ρ'=>some (ρ',S):=rfl
def Jv:iJ [] [] ρ=some ρ:=rfl
def Ju{is:List Nat}:iJ (i::is) (u::us) ρ=iJ is us (ρ.set i (some u)):=rfl
def Lo(ρ:Rho)(S':Sto):Option (Out×Rho×Sto):=some (.nx,ρ,S')
def Oq(o v:U)(ρ:Rho)(r:U×Sto):=(n5 o r.1 v r.2).bind (Lo ρ)
def Ot(ci:CE)(v:U)(ρ:Rho)(q:U×Sto):=(ci ρ q.2).bind (Oq q.1 v ρ)
def kSI(co ci:CE)(ρ:Rho)(p:U×Sto):=(co ρ p.2).bind (Ot ci p.1 ρ)
def PU:i8 ca cb cc ρ S=(cc ρ S).bind (kSI ca cb ρ):=rfl
def ML:kSI ca cb ρ (u,S)=(ca ρ S).bind (Ot cb u ρ):=rfl
def MK:Ot cb y ρ (u,S)=(cb ρ S).bind (Oq u y ρ):=rfl
def MJ:Oq x y ρ (u,S)=(n5 x u y S).bind (Lo ρ):=rfl
def MI:Lo ρ S=some (.nx,ρ,S):=rfl
def kIx(y:U)(S:Sto):Option O->Option (U×Sto)
 | some (.lst us)=>(match y with
   |.int i=>(atI us i).bind fun u=>some (u,S)
   |_=>none)
 |some (.dic kus)=>(oG y).bind fun k=>(bC kus k).bind fun u=>some (u,S)
 |some (.fdc _ kus)=>(oG y).bind fun k=>(bC kus k).bind fun u=>some (u,S)
 |_=>none
def MY{j:Int}:fIx (.tup us) (.int j) S=(atI us j).bind fun u=>some (u,S):=rfl
def MZ:fIx (.ref l) y S=kIx y S S[l]?:=by
 unfold fIx kIx;dsimp only<;>(generalize S[l]?=q;rcases q with _|o<;>first|rfl|(cases o<;>rfl))
def M9{j:Int}:kIx (.int j) S (some (.lst us))=(atI us j).bind fun u=>some (u,S):=rfl
def Nd{kus:List (Key×U)}:kIx y S (some (.dic kus))=(oG y).bind fun k=>(bC kus k).bind fun u=>some (u,S):=rfl
def Ms(l:Nat)(i v:U)(S:Sto):Option O->Option Sto
 | some (.lst us)=>(match i with
   |.int k=>(ixN us.length k).bind fun j=>some (S.set l (.lst (us.set j v)))
   |_=>none)
 |some (.dic kus)=>(oG i).bind fun k=>if kus.length<LIM then some (S.set l (.dic (fZ kus k v)))else none
 |_=>none
def MH:n5 (.ref l) x y S=Ms l x y S S[l]?:=by
 unfold n5 Ms;dsimp only<;>(generalize S[l]?=q;rcases q with _|o<;>first|rfl|(cases o<;>rfl))
def IX{j:Int}:Ms l (.int j) y S (some (.lst us))=(ixN us.length j).bind fun j=>some (S.set l (.lst (us.set j y))):=rfl
def IY{kus:List (Key×U)}:Ms l x y S (some (.dic kus))=(oG x).bind fun k=>if kus.length<LIM then some (S.set l (.dic (fZ kus k y)))else none:=rfl
def at0{α:Type}{a:α}{r:List α}:atI (a::r) 0=some a:=by show atI _ ((0:Nat):Int)=_;exact i9 rfl
def at1{α:Type}{a b:α}{r:List α}:atI (a::b::r) 1=some b:=by show atI _ ((1:Nat):Int)=_;exact i9 rfl
def at2{α:Type}{a b c:α}{r:List α}:atI (a::b::c::r) 2=some c:=by show atI _ ((2:Nat):Int)=_;exact i9 rfl
def at3{α:Type}{a b c d:α}{r:List α}:atI (a::b::c::d::r) 3=some d:=by show atI _ ((3:Nat):Int)=_;exact i9 rfl
def ix0{n:Nat}:ixN (n+1) 0=some 0:=by simp[ixN]
def ix1{n:Nat}:ixN (n+1+1) 1=some 1:=by simp[ixN];omega
def ix2{n:Nat}:ixN (n+1+1+1) 2=some 2:=by simp[ixN];omega
def Mv(S:Sto):Option O->Option (U×Sto)
 |some (.lst us)=>some (.int us.length,S)
 |some (.dic us)=>some (.int us.length,S)
 |_=>none
def Ji:jI [.ref l] S=Mv S S[l]?:=by
 unfold jI Mv;dsimp only<;>(generalize S[l]?=q;rcases q with _|o<;>first|rfl|(cases o<;>rfl))
def Jj:Mv S (some (.lst us))=some (.int us.length,S):=rfl
def Jk{kus:List (Key×U)}:Mv S (some (.dic kus))=some (.int kus.length,S):=rfl
def Jh:jI [.tup us] S=some (.int us.length,S):=rfl
variable{j k:Int}
def FQ:iM (.int j) (.int k) S=some (.int (j+k),S):=rfl
def MG:HZ (.int j) (.int k) S=some (.int (j-k),S):=rfl
def rQ(h:BO j k):oR (.int j) (.int k) S=some (.int (j*k),S):=by simp[oR,fI,h]
def Jp(h:yk j k):E9 (.int j) (.int k) S=some (.int (j / k),S):=by simp[E9,fI,h]
def xt(h:0<k):tX (.int j) (.int k) S=some (.int (j % k),S):=by simp[tX,fI,h]
def MW:fLt (.int j) (.int k) S=some (.bl (decide (j<k)),S):=rfl
def PY:fLe (.int j) (.int k) S=some (.bl (decide (j<=k)),S):=rfl
def Ni:fGt (.int j) (.int k) S=some (.bl (decide (k<j)),S):=rfl
def PZ:fGe (.int j) (.int k) S=some (.bl (decide (k<=j)),S):=rfl
def Nn:fEq (.int j) (.int k) S=some (.bl (decide (j=k)),S):=rfl
def MU:fNe (.int j) (.int k) S=some (.bl (!decide (j=k)),S):=rfl
def Nm{a c:Str}:fEq (.str a) (.str c) S=some (.bl (decide (a=c)),S):=rfl
def MT{a c:Str}:fNe (.str a) (.str c) S=some (.bl (!decide (a=c)),S):=rfl
def Np{a c:Bool}:fEq (.bl a) (.bl c) S=some (.bl (decide (a=c)),S):=rfl
def MV{a c:Bool}:fNe (.bl a) (.bl c) S=some (.bl (!decide (a=c)),S):=rfl
def kFn:Out×Rho×Sto->Option (U×Sto)
 |(.rt u,_,S)=>some (u,S)
 |(.nx,_,S)=>some (.non,S)
 |_=>none
def uG{n k:Nat}(h:us.length=k):fnU n k c1 us S=(c1 (sj n us) S).bind kFn:=by
 unfold fnU;rw[X9 h];congr 1;funext p;obtain⟨o,ρ,S⟩:=p;cases o<;>rfl
def oS{c:CS}{a0:U}{S:Sto}:fnU 1 1 c [a0] S=(c [some a0] S).bind kFn:=uG rfl
def AZ{c:CS}{a0:U}{S:Sto}:fnU 2 1 c [a0] S=(c [some a0,none] S).bind kFn:=uG rfl
def kq{c:CS}{a0 a1:U}{S:Sto}:fnU 2 2 c [a0,a1] S=(c [some a0,some a1] S).bind kFn:=uG rfl
def oe{c:CS}{a0 a1:U}{S:Sto}:fnU 3 2 c [a0,a1] S=(c [some a0,some a1,none] S).bind kFn:=uG rfl
def t7{c:CS}{a0 a1 a2:U}{S:Sto}:fnU 3 3 c [a0,a1,a2] S=(c [some a0,some a1,some a2] S).bind kFn:=uG rfl
def D0{c:CS}{a0:U}{S:Sto}:fnU 4 1 c [a0] S=(c [some a0,none,none,none] S).bind kFn:=uG rfl
def OO{c:CS}{a0 a1:U}{S:Sto}:fnU 4 2 c [a0,a1] S=(c [some a0,some a1,none,none] S).bind kFn:=uG rfl
def LQ{c:CS}{a0 a1 a2:U}{S:Sto}:fnU 4 3 c [a0,a1,a2] S=(c [some a0,some a1,some a2,none] S).bind kFn:=uG rfl
def LP{c:CS}{a0 a1:U}{S:Sto}:fnU 5 2 c [a0,a1] S=(c [some a0,some a1,none,none,none] S).bind kFn:=uG rfl
def LO{c:CS}{a0 a1 a2:U}{S:Sto}:fnU 5 3 c [a0,a1,a2] S=(c [some a0,some a1,some a2,none,none] S).bind kFn:=uG rfl
def ON{c:CS}{a0 a1 a2 a3:U}{S:Sto}:fnU 5 4 c [a0,a1,a2,a3] S=(c [some a0,some a1,some a2,some a3,none] S).bind kFn:=uG rfl
def OM{c:CS}{a0 a1 a2 a3 a4:U}{S:Sto}:fnU 5 5 c [a0,a1,a2,a3,a4] S=(c [some a0,some a1,some a2,some a3,some a4] S).bind kFn:=uG rfl
def LN{c:CS}{a0 a1:U}{S:Sto}:fnU 6 2 c [a0,a1] S=(c [some a0,some a1,none,none,none,none] S).bind kFn:=uG rfl
def OK{c:CS}{a0 a1:U}{S:Sto}:fnU 7 2 c [a0,a1] S=(c [some a0,some a1,none,none,none,none,none] S).bind kFn:=uG rfl
def LR{c:CS}{a0 a1 a2 a3 a4:U}{S:Sto}:fnU 11 5 c [a0,a1,a2,a3,a4] S=(c [some a0,some a1,some a2,some a3,some a4,none,none,none,none,none,none] S).bind kFn:=uG rfl
def Nl:kFn (.rt u,ρ,S)=some (u,S):=rfl
def Nk:kFn (.nx,ρ,S)=some (.non,S):=rfl
end
section
variable{u:U}{b:Bool}{c:Cl}{g:Fn}
open Classical in
def DL(c:Cl)(i:Nat)(S:Sto):Option O->Option (U×Sto)
 |some (.ins c' fus)=>if c'=c then(fus[i]?).join.bind fun u=>some (u,S)else none
 |_=>none
def IG(c:Cl)(i:Nat)(p:U×Sto):=LG c i p.1 p.2
def FJ:aS c i ca ρ S=(ca ρ S).bind (IG c i):=rfl
def vQ:IG c i (.ref l,S)=DL c i S S[l]?:=by
 unfold IG LG DL;dsimp only<;>(generalize S[l]?=q;rcases q with _|o<;>first|rfl|(cases o<;>rfl))
def vP:DL c i S (some (.ins c fus))=((fus[i]?).join).bind fun u=>some (u,S):=by
 unfold DL;dsimp only;rw[X9 rfl]
open Classical in
def Mt(c:Cl)(i l:Nat)(v:U)(S:Sto):Option O->Option Sto
 |some (.ins c' fus)=>if c'=c then some (S.set l (.ins c (fus.set i (some v))))else none
 |_=>none
def Mu(c:Cl)(i:Nat)(v:U)(ρ:Rho)(q:U×Sto):=(AR c i q.1 v q.2).bind (Lo ρ)
def Pp(c:Cl)(i:Nat)(ca:CE)(ρ:Rho)(p:U×Sto):=(ca ρ p.2).bind (Mu c i p.1 ρ)
def PV:bz c i ca cb ρ S=(cb ρ S).bind (Pp c i ca ρ):=rfl
def MO:Pp c i ca ρ (u,S)=(ca ρ S).bind (Mu c i u ρ):=rfl
def MN:Mu c i u ρ (.ref l,S)=(Mt c i l u S S[l]?).bind (Lo ρ):=by
 unfold Mu AR Mt;dsimp only<;>(generalize S[l]?=q;rcases q with _|o<;>first|rfl|(cases o<;>rfl))
def MM:Mt c i l u S (some (.ins c fus))=some (S.set l (.ins c (fus.set i (some u)))):=by
 unfold Mt;dsimp only;rw[X9 rfl]
def Au(g:Fn)(l:Nat)(q:List U×Sto):=g (.ref l::q.1) q.2
open Classical in
def wJ(c:Cl)(g:Fn)(cr:CA)(ρ:Rho)(l:Nat)(S:Sto):Option O->Option (U×Sto)
 |some (.ins c' _)=>if c'=c then(cr ρ S).bind (Au g l)else none
 |_=>none
def HH(c:Cl)(g:Fn)(cr:CA)(ρ:Rho)(p:U×Sto):=AS c g p.1 p.2 (cr ρ)
def Ew:aM c g ca cr ρ S=(ca ρ S).bind (HH c g cr ρ):=rfl
def yy:HH c g cr ρ (.ref l,S)=wJ c g cr ρ l S S[l]?:=by
 unfold HH AS wJ;dsimp only<;>(generalize S[l]?=q;rcases q with _|o<;>first|rfl|(cases o<;>rfl))
def yx:wJ c g cr ρ l S (some (.ins c fus))=(cr ρ S).bind (Au g l):=by
 unfold wJ;dsimp only;rw[X9 rfl]
def yw:Au g l (us,S)=g (.ref l::us) S:=rfl
def Lq(n:Nat):U×Sto->Option (U×Sto)
 |(.non,S)=>some (.ref n,S)
 |_=>none
def rR:fU c g us S=(g (.ref S.length::us) (S++[.ins c (QX c.ns.length none)])).bind (Lq S.length):=by
 unfold fU;congr 1;funext p;obtain⟨u,S⟩:=p;cases u<;>rfl
def FF:Lq i (.non,S)=some (.ref i,S):=rfl
def kIn(neg:Bool)(x:U)(S:Sto):Option O->Option (U×Sto)
 |some (.lst us)=>if kn x=true/\us.all kn=true then some (.bl (if neg then !inU x us else inU x us),S)else none
 |some (.dic kus)=>(oG x).bind fun k=>some (.bl (if neg then !(bC kus k).isSome else(bC kus k).isSome),S)
 |some (.fdc _ kus)=>(oG x).bind fun k=>some (.bl (if neg then !(bC kus k).isSome else(bC kus k).isSome),S)
 |_=>none
def Jm{neg:Bool}:fIn neg x (.ref l) S=kIn neg x S S[l]?:=by
 unfold fIn kIn;dsimp only<;>(generalize S[l]?=q;rcases q with _|o<;>first|rfl|(cases o<;>rfl))
def Ng{neg:Bool}{kus:List (Key×U)}:kIn neg x S (some (.dic kus))=(oG x).bind fun k=>some (.bl (if neg then !(bC kus k).isSome else(bC kus k).isSome),S):=rfl
def Nf{neg:Bool}(h:kn x=true/\us.all kn=true):kIn neg x S (some (.lst us))=some (.bl (if neg then !inU x us else inU x us),S):=by
 unfold kIn;dsimp only;rw[X9 h]
def MX{j:Int}:oG (.int j)=some (.inl j):=rfl
def OC(f:U->List U->Sto->Option (U×Sto))(x:U)(q:List U×Sto):=f x q.1 q.2
def OD(f:U->List U->Sto->Option (U×Sto))(cr:CA)(ρ:Rho)(x:U)(S:Sto):Option O->Option (U×Sto)
 |some (.lst _)=>(cr ρ S).bind (OC f x)
 |_=>none
def kBM(f:U->List U->Sto->Option (U×Sto))(cr:CA)(ρ:Rho):U×Sto->Option (U×Sto)
 |(.ref l,S)=>OD f cr ρ (.ref l) S S[l]?
 |_=>none
variable{fm:U->List U->Sto->Option (U×Sto)}
def P5:cBM fm ca cr ρ S=(ca ρ S).bind (kBM fm cr ρ):=by
 unfold cBM;congr 1;funext p;obtain⟨u,S⟩:=p;cases u<;>try rfl
def Nz:kBM fm cr ρ (.ref l,S)=OD fm cr ρ (.ref l) S S[l]?:=rfl
def Ny:OD fm cr ρ x S (some (.lst us))=(cr ρ S).bind (OC fm x):=rfl
def Nw:OC fm x (us,S)=fm x us S:=rfl
def Mw(l:Nat)(u:U)(S:Sto):Option O->Option (U×Sto)
 |some (.lst us)=>if us.length<LIM then some (.non,S.set l (.lst (us++[u])))else none
 |_=>none
def NB:b7 (.ref l) [u] S=Mw l u S S[l]?:=by
 unfold b7 Mw;dsimp only<;>(generalize S[l]?=q;rcases q with _|o<;>first|rfl|(cases o<;>rfl))
def fO(h:us.length<LIM):Mw l u S (some (.lst us))=some (.non,S.set l (.lst (us++[u]))):=by
 unfold Mw;dsimp only;rw[X9 h]
def Ox(ku xu:U)(S:Sto):Option O->Option (U×Sto)
 |some (.dic kus)=>(oG ku).bind fun k=>some ((bC kus k).getD xu,S)
 |_=>none
def Oy(l:Nat)(ku:U)(r:U×Sto):=Ox ku r.1 r.2 r.2[l]?
def OA(l:Nat)(cx:CE)(ρ:Rho)(q:U×Sto):=(cx ρ q.2).bind (Oy l q.1)
def OB(l:Nat)(ck cx:CE)(ρ:Rho)(S:Sto):Option O->Option (U×Sto)
 |some (.dic _)=>(ck ρ S).bind (OA l cx ρ)
 |_=>none
def kDG(ck cx:CE)(ρ:Rho):U×Sto->Option (U×Sto)
 |(.ref l,S)=>OB l ck cx ρ S S[l]?
 |_=>none
def P4:yd ca cb cc ρ S=(ca ρ S).bind (kDG cb cc ρ):=by
 unfold yd;congr 1;funext p;obtain⟨u,S⟩:=p;cases u<;>try rfl
def Nv:kDG cb cc ρ (.ref l,S)=OB l cb cc ρ S S[l]?:=rfl
def Nu{kus:List (Key×U)}:OB l cb cc ρ S (some (.dic kus))=(cb ρ S).bind (OA l cc ρ):=rfl
def Nt:OA l cc ρ (u,S)=(cc ρ S).bind (Oy l u):=rfl
def Nr:Oy l u (x,S)=Ox u x S S[l]?:=rfl
def Nq{kus:List (Key×U)}:Ox u x S (some (.dic kus))=(oG u).bind fun k=>some ((bC kus k).getD x,S):=rfl
def Jo:vx ρ S=some (.ref S.length,S++[.dic []]):=rfl
def IT:lZ [.tup us] S=some (.tup us,S):=rfl
def Oo(S:Sto):Option O->Option (U×Sto)
 |some (.lst us)=>some (.tup us,S)
 |_=>none
def IU:lZ [.ref l] S=Oo S S[l]?:=by
 unfold lZ Oo;dsimp only<;>(generalize S[l]?=q;rcases q with _|o<;>first|rfl|(cases o<;>rfl))
def IV:Oo S (some (.lst us))=some (.tup us,S):=rfl
def FG:vn [.tup us] S=some (.ref S.length,S++[.lst us]):=rfl
def kLs(S:Sto):Option O->Option (U×Sto)
 |some (.lst us)=>some (.ref S.length,S++[.lst us])
 |_=>none
def FH:vn [.ref l] S=kLs S S[l]?:=by
 unfold vn kLs;dsimp only<;>(generalize S[l]?=q;rcases q with _|o<;>first|rfl|(cases o<;>rfl))
def FI:kLs S (some (.lst us))=some (.ref S.length,S++[.lst us]):=rfl
def Jl:OJ [.bl b] S=some (.int (if b then 1 else 0),S):=rfl
def ga{X:Sto}{n:Nat}:(S++X)[S.length+n]?=X[n]?:=by rw[ZZ (Nat.le_add_right _ _),Nat.add_sub_cancel_left]
def ga0{X:Sto}:(S++X)[S.length]?=X[0]?:=ga (n:=0)
def gs{X:Sto}{n:Nat}{o:O}:(S++X).set (S.length+n) o=S++X.set n o:=by rw[List.set_append_right _ _ (Nat.le_add_right _ _),Nat.add_sub_cancel_left]
def gs0{X:Sto}{o:O}:(S++X).set S.length o=S++X.set 0 o:=gs (n:=0)
section
variable{ok:Sto->Prop}{gg:CG}{cbd:CS}{ρ0 ρ1:Rho}{S0 S1:Sto}
def jd(h:ok S):eY ok gg cbd [] ρ S=some (.nx,ρ,S):=by unfold eY;rw[X9 h]
def kF(h:ok S)(hg:gg u ρ S=some (ρ0,S0))(hb:cbd ρ0 S0=some (.nx,ρ1,S1)):eY ok gg cbd (u::us) ρ S=eY ok gg cbd us ρ1 S1:=by
 rw[eY];dsimp only;rw[X9 h,hg,Q8];dsimp only;rw[hb,Q8]
def Hu(h:ok S)(hg:gg u ρ S=some (ρ0,S0))(hb:cbd ρ0 S0=some (.rt x,ρ1,S1)):eY ok gg cbd (u::us) ρ S=some (.rt x,ρ1,S1):=by
 rw[eY];dsimp only;rw[X9 h,hg,Q8];dsimp only;rw[hb,Q8]
def Cd{n:Nat}(ht:t ρ S=some (true,S0))(hb:cbd ρ S0=some (.nx,ρ1,S1)):f7 t cbd (n+1) ρ S=f7 t cbd n ρ1 S1:=by
 rw[f7];dsimp only;rw[ht,Q8];dsimp only;rw[X9 rfl,hb,Q8]
def rV{n:Nat}(ht:t ρ S=some (false,S0)):f7 t cbd (n+1) ρ S=some (.nx,ρ,S0):=by
 rw[f7];dsimp only;rw[ht,Q8];dsimp only;rw[XQ (by decide)]
def ib{ce:CE}{ys:List U}(h:ok S)(hg:gg u ρ S=some (ρ0,S0))(he:ce ρ0 S0=some (x,S1))(hl:S1[l]?=some (.lst ys))(hn:ys.length<LIM):ic ok gg ce l (u::us) ρ S=ic ok gg ce l us ρ0 (S1.set l (.lst (ys++[x]))):=by
 rw[ic,X9 h,hg,Q8];dsimp only;rw[he,Q8];dsimp only;rw[hl];dsimp only;rw[X9 hn]
def je{ce:CE}(h:ok S):ic ok gg ce l [] ρ S=some S:=by rw[ic,X9 h]
end
end
def IM{p:List Q2->Prop}(h:p [])(us:List Q2)(e:us.length=0):p us:=by rw[List.length_eq_zero_iff.mp e];exact h
def OX{n:Nat}{p:List Q2->Prop}(h:∀a us,us.length=n->p (a::us))(us:List Q2)(e:us.length=n+1):p us:=by
 cases us with
 |nil=>cases e
 |cons a us=>exact h a us (Nat.succ.inj e)
def O3(H:Hp)(a:Addr)(ep:Nat)(ks:List Key):Prop:=∃ob es kvs,H a=some (.frz ob (.dK kvs))/\ob.data=.dict es ep/\kvs.map (·.1)=ks
def Itd(a:Addr)(ep:Nat)(ks:List Key):It:=
 ⟨fun i H=>i<ks.length/\O3 H a ep ks,fun i H x H'=>H'=H/\∃k,ks[i]?=some k/\x=kV k,fun i H=>ks.length<=i/\O3 H a ep ks⟩
def E6{P:Qx}{w:Z7}{H:Hp}{h:Heap}{a:Addr}{ob:Obj}{kvs:List (Key×V)}{es:Array DictEntry}{ep:Nat}(ok:HOk P w H h)(e:H a=some (.frz ob (.dK kvs)))(d:ob.data=.dict es ep):∃vs,KV kvs vs/\h.DictAt (cH P w) a vs ep:=by
 obtain⟨e1,_,_,vs,r,o,es',ep',e2,e3,e4,rest⟩:=(show eF P w H h a (.frz ob (.dK kvs))from ok a _ e);rw[e1]at e2;cases e2;rw[d]at e4;cases e4;exact⟨vs,r,ob,es,e1,e3,d,rest⟩
def EY{κ:Type}:∀{kvs:List (κ×V)} {vs:List (κ×Q2)} {i:Nat} {k:κ} {v:V},KV kvs vs->kvs[i]?=some (k,v)->∃u,vs[i]?=some (k,u)
 |_,_,i,k,v,.nil,h=>by simp at h
 |_,_,0,k,v,.cons (b:=(k',u)) r t,h=>by
  simp at h;subst h;have:k=k':=r.1;subst this;exact⟨u,by simp⟩
 |_,_,i+1,k,v,.cons r t,h=>by
  obtain⟨u,e⟩:=EY (i:=i) t (by simpa using h);exact⟨u,by simpa using e⟩
def HD{k:Key}{u:Q2}(h:tj k u=true):cI (kV k) u:=by
 rcases bH h with⟨i,t,rfl,rfl⟩|⟨i,t,rfl,rfl⟩;exact⟨t,rfl⟩;exact⟨t,rfl⟩
def zc{P:Qx}{w:Z7}{K:Q1}{tg:QB}(a it:Addr){ks:List Key}{ep:Nat} :
  IQ P w K tg (Itd a ep ks) [it] it (fun n h=>h.IsKeyIter it a n ks.length ep) where
 mem:=by simp
 obj:=fun n h st c hc=>by
  simp only[Qz,Zp,or_false]at hc;subst hc;obtain⟨o,e,_,q⟩:=st;exact⟨o,e,fun v z=>by rw[q]at z;cases z⟩
 keep:=fun n h h' st kp=>Heap.IsKeyIter.at st fun o q=>kp it (by simp) o q
 item:=by
  intro X hP hw hK hc n pins s σ H E Iv hf st hg;subst hP hw hK;obtain⟨hi,ob,es,kvs,hq,d,ek⟩:=hg;obtain⟨vs,rv,da⟩:=E6 Iv.hok hq d;have hl:ks.length=vs.length:=by rw[<-ek,Q9];exact Paired.length rv
  have hi':n<kvs.length:=by rw[<-ek,Q9]at hi;exact hi
  have hx:kvs[n]?=some ((kvs[n]).1,(kvs[n]).2):=QQ hi';obtain⟨u,hu⟩:=EY rv hx;obtain⟨f0,f1,f2,f3⟩:=hf it (by simp);have st':s.heap.IsKeyIter it a n vs.length ep:=by rw[<-hl];exact st
  refine wpAny_pyNext_dict_item st' da hu fun key h1 hk st1 sb=>⟨key,rfl,?_⟩;have I1:Inv X pins σ H { s with heap:=h1 }:=Iv.turned (t':=s.toks) (fun b o hb e=>(sb.2 b hb).trans e) f0 f1 f3.1 f3.2.1 f3.2.2;have st2:h1.IsKeyIter it a (n+1) ks.length ep:=by rw[hl];exact st1
  obtain⟨o,e,c,q⟩:=id st2;exact DR (s:={ s with heap:=h1 }) e c q (by decide) ⟨kV (kvs[n]).1,H,I1,HD hk,⟨rfl,_,by rw[<-ek,QL,hx];rfl,rfl⟩,st2,fun b hb=>(hf b hb).1⟩
 done:=by
  intro X hP hw hK hc n pins s σ H E Iv hf st hg;subst hP hw hK;obtain⟨hi,ob,es,kvs,hq,d,ek⟩:=hg;obtain⟨vs,rv,da⟩:=E6 Iv.hok hq d;have hl:ks.length=vs.length:=by rw[<-ek,Q9];exact Paired.length rv
  obtain⟨f0,f1,f2,f3⟩:=hf it (by simp);have st':s.heap.IsKeyIter it a n vs.length ep:=by rw[<-hl];exact st
  exact wpAny_pyNext_dict_end (Iv.ok.hd hc) st' da (by rw[List.getElem?_eq_none_iff];omega) fun h1 eb=>⟨rfl,Iv.turned (t':=s.toks) (fun b o hb e=>eb b o hb e) f0 f1 f3.1 f3.2.1 f3.2.2⟩
 self:=fun _ _ _ _ _ st h=>wpAny_pyIter_keyiter st h
def wN{X:Cx}{pins:List (Addr×Obj)}{σ:L2.St}{H:Hp}{s:Q3}{a:Addr}{o u:HO}(I:Inv X pins σ H s)(e:H a=some o)(nt:∀xs,o≠.tup xs)(no:∀x,o≠.own x)(nb:∀ps,o≠.tbl ps)
  (nf:∀ob u,X.H₀ a≠some (.frz ob u)) (new:eF X.prog X.w (upd H a u) s.heap a u):Inv X pins σ (upd H a u) s:=by
 have nn:∀b,H b=none->upd H a u b=none:=fun b q=>by rw[aI (Ne.symm (dM e q))];exact q
 have ho:∀b x,H b=some (.own x)->upd H a u b=some (.own x):=fun b x q=>by
  rw[aI];exact q;intro z;subst z;rw[e]at q;cases q;exact no _ rfl
 have ht:∀b xs,H b=some (.tup xs)->upd H a u b=some (.tup xs):=fun b x q=>by
  rw[aI];exact q;intro z;subst z;rw[e]at q;cases q;exact nt _ rfl
 refine⟨I.ok,I.os,I.bare,⟨I.base.keep,I.base.slot,fun b ob q1 q2 q3=>nn _ (I.base.free b ob q1 q2 q3),I.base.there,fun b xs q=>ht _ _ (I.base.tups b xs q),fun b ob v q=>?_,fun b ps q=>?_⟩,I.loc,I.cell,nn _ I.free,fun x c q=>nn _ (I.freeC x c q),fun p hp=>?_,fun b v q=>?_,I.len⟩;rw[aI];exact I.base.frzs b ob v q;intro z;subst z;exact nf _ _ q;obtain⟨more,q'⟩:=I.base.tbls b ps q;refine⟨more,?_⟩;rw[aI];exact q';intro z;subst z;rw[e]at q';cases q';exact nb _ rfl;obtain⟨p1,p2,p3⟩:=I.pin p hp;exact⟨p1,nn _ p2,p3⟩;by_cases hb:b=a;subst hb;rw[aH]at q;cases q;exact new;rw[aI hb]at q;exact(I.hok b v q).stay (fun _ _ _ g=>g) (fun c g=>ho c b g) fun c xs g=>ht c xs g
def BU(X:Cx)(a:Addr):Prop:=∀ob u,X.H₀ a≠some (.frz ob u)
def HR(X:Cx)(tl:TE):TI:=fun σ H R=>tl σ H fun x H1=>∃a kvs,x=.ref a/\H1 a=some (.dK kvs)/\∀ob es ep,BU X a->ob.data=.dict es ep->R (Itd a ep (kvs.map (·.1))) (upd H1 a (.frz ob (.dK kvs)))
def yU{X:Cx}{tg l:QB}{tl:TE}(hl:WE X l tl):WI X tg l (HR X tl):=by
 constructor;intro pins s σ H R I h;refine thn (hl.h pins s σ H _ I h) fun v s1 hz=>?_;obtain⟨x,H1,I1,r1,q1⟩:=hz;obtain⟨a,kvs,rfl,hq,q⟩:=q1;cases r1;obtain⟨hz,hs,vs,rv,ob,es,ep,e1,e2,e3,rest⟩:=A8 I1.hok hq;have da:s1.heap.DictAt (cH X.prog X.w) a vs ep:=⟨ob,es,e1,e2,e3,rest⟩;have hl:kvs.length=vs.length:=Paired.length rv;have nf:BU X a:=fun ob' u' z=>by have:=I1.base.frzs a ob' u' z;rw[hq]at this;cases this
 have I2:Inv X pins σ (upd H1 a (.frz ob (.dK kvs))) s1:=wN I1 hq (by simp) (by simp) (by simp) nf ⟨e1,hz,hs,vs,rv,ob,es,ep,e1,e2,e3,rest⟩;refine wpAny_pyIter_dict hs da ?_;refine⟨s1.heap.objs.size,[s1.heap.objs.size],_,_,_,rfl,I2.kept (t':=s1.toks) fun b o g=>Q6 _ g,zc a _,⟨_,Qv _ rfl,rfl,by rw[Q9,hl];rfl⟩,fun b hb=>?_,q ob es ep nf e3⟩;simp only[Qz,Zp,or_false]at hb;subst hb;exact I2.fpOk (Q7 _) (I2.hok.fresh (Q7 _))
def L9(X:Cx)(D:BW):BW where
 nx:=fun σ H=>∃a ob kvs,BU X a/\H a=some (.frz ob (.dK kvs))/\D.nx σ (upd H a (.dK kvs))
 rt:=fun v H=>∃a ob kvs,BU X a/\H a=some (.frz ob (.dK kvs))/\D.rt v (upd H a (.dK kvs))
 bk:=fun σ H=>∃a ob kvs,BU X a/\H a=some (.frz ob (.dK kvs))/\D.bk σ (upd H a (.dK kvs))
 ct:=fun σ H=>∃a ob kvs,BU X a/\H a=some (.frz ob (.dK kvs))/\D.ct σ (upd H a (.dK kvs))
def ke{X:Cx}{pins:List (Addr×Obj)}{σ:L2.St}{H:Hp}{s:Q3}{a:Addr}{ob:Obj}{kvs:List (Key×V)}(I:Inv X pins σ H s)(nf:BU X a)(e:H a=some (.frz ob (.dK kvs))):Inv X pins σ (upd H a (.dK kvs)) s:=
 wN I e (by simp) (by simp) (by simp) nf (show eF X.prog X.w H s.heap a (.frz ob (.dK kvs))from I.hok a _ e).2
def FR{X:Cx}{st:Z0}{t:TS}(h:WS X st t):WS X st (fun D σ H=>t (L9 X D) σ H):=by
 constructor;intro pins s σ H D I k;refine thn (h.h pins s σ H _ I k) fun f s1 q=>?_;cases f with
 |next=>obtain⟨σ1,H1,I1,a,ob,kvs,nf,e,r⟩:=q;exact⟨σ1,_,ke I1 nf e,r⟩
 |brk=>obtain⟨σ1,H1,I1,a,ob,kvs,nf,e,r⟩:=q;exact⟨σ1,_,ke I1 nf e,r⟩
 |cont=>obtain⟨σ1,H1,I1,a,ob,kvs,nf,e,r⟩:=q;exact⟨σ1,_,ke I1 nf e,r⟩
 |ret u=>obtain⟨v,σ1,H1,I1,rv,a,ob,kvs,nf,e,r⟩:=q;exact⟨v,σ1,_,ke I1 nf e,rv,r⟩
def kU:Key->U
 |.inl i=>.int i
 |.inr x=>.str x
def LA{K:Q1}{m:List Addr}{H:Hp}(k:Key):Is K m H (kV k) (kU k):=by
 cases k with
 |inl i=>exact .int_
 |inr x=>exact .str_
open Classical in
def uni{α:Type}(F:Nat->Option α):Option α:=if h:∃r,∀n,F n=some r then some h.choose else none
def EE{α:Type}{F:Nat->Option α}{r:α}(h:∀n,F n=some r):uni F=some r:=by
 have hx:∃r,∀n,F n=some r:=⟨r,h⟩;unfold uni;rw[dif_pos hx];have:=hx.choose_spec 0;rw[h 0]at this;exact this.symm
def vX{α:Type}{F:Nat->Option α}{r:α}(h:uni F=some r)(n:Nat):F n=some r:=by
 unfold uni at h;split at h;rename_i hx;cases h;exact hx.choose_spec n;cases h
def Bn(ce:CE)(g:CG)(cb:CS):CS:=fun ρ S=>(ce ρ S).bind fun p=>match p.1 with
 |.ref l=>match p.2[l]? with
  |some (.dic kus)=>uni fun ep=>(eY (fun S'=>S'[l]?=some (.fdc ep kus)) g cb (kus.map fun q=>kU q.1) ρ (p.2.set l (.fdc ep kus))).bind fun r=>match r.2.2[l]? with
   |some (.fdc _ kus')=>some (r.1,r.2.1,r.2.2.set l (.dic kus'))
   |_=>none
  |_=>none
 |_=>none
def Ax{K:Q1}{m:List Addr}{H:Hp}{a:Addr}{l ep:Nat}{kus:List (Key×U)}(ha:m[l]?=some a):Et K (Itd a ep (kus.map (·.1))) m H (kus.map fun q=>kU q.1) (fun S'=>S'[l]?=some (.fdc ep kus)):=by
 intro m2 S2 H2 i e sr hok;obtain⟨a',ha',ob,es,kvs,hx,hd,ip⟩:=sr.get hok;have ha2:=e.get ha;rw[ha2]at ha';cases ha';have hz:O3 H2 a ep (kus.map (·.1)):=⟨ob,es,kvs,hx,hd,ip.1⟩;refine⟨fun u hu=>?_,fun hu=>⟨by simpa using hu,hz⟩⟩;have hi:i<kus.length:=by have:=(Q4.mp hu).1;simpa using this
 refine⟨⟨by simpa using hi,hz⟩,?_⟩;rintro x H3 ⟨rfl,k,hk,rfl⟩;refine⟨.refl,sr,?_⟩;rw[QL]at hk hu;rw[QQ hi]at hk hu;cases hk;cases hu;exact LA _
def DT{X:Cx}{ce:CE}{g:CG}{cb:CS}:∀D σ H,tS X.K (Bn ce g cb) D σ H->Mi (HR X (tE X.K ce)) (tG X.K g) (tS X.K cb) (L9 X D) σ H:=by
 rintro D σ H ⟨m,ρ,S,o,ρ',S',sr,lr,hc,post⟩;obtain⟨⟨x,S1⟩,h1,h⟩:=Q0.mp hc;refine⟨m,ρ,S,x,S1,sr,lr,h1,fun m1 v1 H1 e1 sr1 i1=>?_⟩;cases x with
 |ref l=>
  simp only at h;split at h<;>try cases h
  rename_i kus hS;obtain⟨a,ha,rfl⟩:=i1.of_ref;obtain⟨a',ha',kvs,hx,ip⟩:=sr1.get hS;rw[ha]at ha';cases ha';refine⟨a,kvs,rfl,hx,fun ob es ep nf hd=>?_⟩;obtain⟨⟨o1,ρ1,S2⟩,h2,h3⟩:=Q0.mp (vX h ep);simp only at h3;split at h3<;>try cases h3
  rename_i ep' kus' hS2;have kp:BM X.K H1 (upd H1 a (.frz ob (.dK kvs))):=sr1.keep ha _;have ee:Ext X.K m1 H1 m1 (upd H1 a (.frz ob (.dK kvs))):=.of kp;have sr2:Sr X.K m1 (S1.set l (.fdc ep kus)) (upd H1 a (.frz ob (.dK kvs))):=sr1.put ha ⟨ob,es,kvs,aH,hd,ip.mono ee⟩;rw[ip.1];refine wz sr2 (lr.mono (e1.trans ee)) (Ax ha) h2 ?_;have back:∀m3 H3,Ext X.K m1 (upd H1 a (.frz ob (.dK kvs))) m3 H3->Sr X.K m3 S2 H3->∃ob' kvs',H3 a=some (.frz ob' (.dK kvs'))/\Ext X.K m3 H3 m3 (upd H3 a (.dK kvs'))/\Sr X.K m3 (S2.set l (.dic kus')) (upd H3 a (.dK kvs')):=fun m3 H3 e3 sr3=>by
   obtain⟨a3,ha3,ob3,es3,kvs3,hx3,hd3,ip3⟩:=sr3.get hS2;rw[e3.get ha]at ha3;cases ha3;have e4:Ext X.K m3 H3 m3 (upd H3 a (.dK kvs3)):=.of (sr3.keep (e3.get ha) _);exact⟨ob3,kvs3,hx3,e4,sr3.put (e3.get ha) ⟨kvs3,aH,ip3.mono e4⟩⟩
  have nxt:∀(R:L2.St->Hp->Prop),iO X.K m H R ρ' (S2.set l (.dic kus'))->iO X.K m1 (upd H1 a (.frz ob (.dK kvs))) (fun σ H=>∃a ob kvs,BU X a/\H a=some (.frz ob (.dK kvs))/\R σ (upd H a (.dK kvs))) ρ' S2:=fun R p m3 σ3 H3 e3 sr3 lr3=>by
   obtain⟨ob3,kvs3,hx3,e4,sr4⟩:=back m3 H3 e3 sr3;exact⟨a,ob3,kvs3,nf,hx3,p m3 σ3 _ (((e1.trans ee).trans e3).trans e4) sr4 (lr3.mono e4)⟩
  cases o with
  |nx=>exact nxt _ post
  |bk=>exact nxt _ post
  |ct=>exact nxt _ post
  | rt v=>
    intro m3 v3 H3 e3 sr3 i3;obtain⟨ob3,kvs3,hx3,e4,sr4⟩:=back m3 H3 e3 sr3;exact⟨a,ob3,kvs3,nf,hx3,post m3 v3 _ (((e1.trans ee).trans e3).trans e4) sr4 (i3.mono e4)⟩
 |_=>cases h
def GK{X:Cx}{tg iter:QB}{body:List Z0}{ce:CE}{g:CG}{cb:CS}{pos:Pos}(hp:PassesOwn (Qy X.prog X.w) X.A X.env X.xe)(hc:X.calm=true)(hi:QE X iter ce)(hg:QG X tg g)(hb:QSs X body cb)(hs:∀x,foldedSetIterable iter X.env x=pure x:=by intro _;rfl):QS X (.For tg iter body [] pos) (Bn ce g cb):=
 (FR (yE hp hc (yU hi) hg hb hs)).imp DT
end OP
namespace OG
open PySem PySem.Spec PyProof.Rows L2
def uO(wi:TI)(g:TG)(tt:TT)(te:TE)(n:Nat)(caps:List Nat):TE:=fun σ H Q=>wi σ H fun J H1=>∀l,H1 l=none->∃W:Nat->Nat->L2.St->Hp->Prop,(∃m,W 0 m (stC n caps σ) (upd H1 l (.lst [])))/\
 ∀i m σ' H2,W i m σ' H2->(J.stop i H2/\Q (.ref l) H2)\/(J.go i H2/\∃N:L2.St->Hp->Prop,(∀σ'' H',N σ'' H'->∃m',m'<m/\W (i+1) m' σ'' H')/\
  ∀x H3,J.yld i H2 x H3->g x σ' H3 fun σ2 H4=>tt σ2 H4 fun b H5=>match b with
   |true=>te σ2 H5 fun v H6=>∃ys,H6 l=some (.lst ys)/\ys.length<QD/\N σ2 (upd H6 l (.lst (ys++[v])))
   |false=>N σ2 H5)
def oU{prog:Qx}{w:Z7}{A:Z9}{R:Result->Q3->Prop}{s:Q3}{elt target iter c:QB}{scope:Zl}{pos:Pos}{it acc:Q2}{env:Env}(I:Nat->Q3->Prop)
  (turn:∀n s,I n s->wpAny (Qy prog w) A (pyNext it) (fun r s₁=>match r with
   |none=>R (.ok .next) s₁
   |some v=>wpAny (Qy prog w) A (letOwnedTupleGo target it v) (fun _ s₁'=>wpAny (Qy prog w) A (assign target env v) (fun _ s₂=>wpAny (Qy prog w) A (PySem.isTrue c env (eval c env)) (fun b s₂'=>match b with
    |true=>wpAny (Qy prog w) A (eval elt env) (fun x s₃=>
     wpAny (Qy prog w) A (call (.builtin "list.append") [acc,x]) (fun _ s₄=>∃m,m<n/\I m s₄) (fun _ _=>False) s₃)
     (fun _ _=>False) s₂'
    |false=>∃m,m<n/\I m s₂') (fun _ _=>False) s₂) (fun _ _=>False) s₁') (fun _ _=>False) s₁) (fun _ _=>False) s)
  (n:Nat) (h:I n s) :
  codeAny (Qy prog w) A (.compLoop (.ListComp elt [⟨target,iter,[c],0⟩] scope pos) 0 it acc env) R s:=by
 refine codeAny_loop rfl I (fun n s hI=>?_) n h;show wpAny _ _ ((compTurn (.ListComp elt [⟨target,iter,[c],0⟩] scope pos) 0 it acc env).onRaise (fun x=>do noteFrame x env;theTreesLotGoes x)) _ _ s;refine wpAny_noted ?_;rw[compTurn_list];refine Q5 (wpAny_standAt (Q5 (ZT (turn n s hI) (fun r s₁ h₁=>?_) fun _ _ h'=>h'.elim)));cases r with
 |none=>exact Qq h₁
 |some v=>
  refine Q5 (ZT h₁ (fun _ s₁' h₁'=>?_) fun _ _ h'=>h'.elim);refine Q5 (ZT h₁' (fun _ s₂ h₂=>?_) fun _ _ h'=>h'.elim);dsimp only;simp only[List.forIn_cons,List.forIn_nil,if_true,bind_assoc,pure_bind];refine Q5 (ZT h₂ (fun b s₂' h₂'=>?_) fun _ _ h'=>h'.elim);cases b with
  |true=>
   rw[X9 rfl];exact Q5 (ZT h₂' (fun x s₃ h₃=>Q5 (ZT h₃
    (fun _ s₄ h₄=>Qq ⟨rfl,h₄⟩) fun _ _ h'=>h'.elim)) fun _ _ h'=>h'.elim)
  |false=>
   rw[XQ QZ];exact Qq ⟨rfl,h₂'⟩
def yc{X:Cx}{Nc capN tn:List Str}{scope:Zl}{cl:List (Str×Addr)}{n:Nat}{caps:List Nat}{tg iter elt:QB}{pos:Pos}{wi:TI}{g:TG}{te:TE}{tt:TT}{c:QB}
  (hc:X.calm=true) (hi:WI X tg iter wi) (hg:∀s3 H3 fp,WG (cxC X Nc scope cl s3 H3 fp) tg g) (he:∀s3 H3 fp,WE (cxC X Nc scope cl s3 H3 fp) elt te)
  (ht:∀s3 H3 fp,WT (cxC X Nc scope cl s3 H3 fp) c tt)
  (hclos:closureFor scope X.env=pure cl) (hkind:scope.kind=.function) (hnl:∀x∈scope.names,x.2=.local->scope.names.lookup x.1=some .local) (hcell:∀x∈scope.names,x.2≠.cell)
  (hcl:xp X.env cl) (hhas:((relabel scope X.env).names.all fun p=>!(p.2 == .cell||p.2 == .free)||(cl.lookup p.1).isSome)=true)
  (hcap:Paired (Cap X scope cl) caps capN) (hN:Nc=tn++capN) (hn:tn.length=n)
  {use:Option (Q2->Sem Unit)} {pins:List (Addr×Obj)} {σ:L2.St} {H:Hp} {s:Q3} {Q:VK} {Qf:Q2->Q3->Prop} (I:Inv X pins σ H s) (h:uO wi g tt te n caps σ H Q)
  (hend:∀(D C:Addr) (s6:Q3) (H5:Hp) (m:Str->Option Q2),Inv X pins σ H5 s6->s6.heap.Ns C m->H5 C=none->C≠X.env.locals->X.s₀.heap.objs.size<=C->(∀x c,X.env.cells.lookup x=some c->c≠C)->(∀p∈X.pn++pins,p.1≠C)->Q (.ref D) H5->compPost (Qy X.prog X.w) X.A X.xe use Qf (.ref D) C (.ok .next) s6)
  (hs:∀x,foldedSetIterable iter X.env x=pure x) :
  wpAny (Qy X.prog X.w) X.A (comprehension (.ListComp elt [⟨tg,iter,[c],0⟩] scope pos) scope X.env (firstIterPos [⟨tg,iter,[c],0⟩] pos) (newList []) (firstAsync [⟨tg,iter,[c],0⟩]) (firstIter [⟨tg,iter,[c],0⟩] X.env) use) Qf X.xe s:=by
 refine wpAny_comprehension_free (use:=use) (g:=⟨tg,iter,[c],0⟩) (gs:=[]) rfl hs hclos hkind hnl (thn (hi.h pins s σ H _ I h) fun v s1 h1=>thn h1 fun itv s2 h2=>?_);obtain⟨it,fp,tnn,J,H2,rfl,I2,T,st2,f2,hW⟩:=h2;have hD:=I2.fresh;obtain⟨W,⟨m0,w0⟩,turn⟩:=hW _ hD;refine wpAny_newObj_type (wpAny_newFunctionEnv hcell (by intro y hy;simp at hy) (fun h₁ hns₁ hsb₁=>?_) hkind);dsimp only at hns₁ hsb₁ ⊢;have I3:Inv X pins σ (upd H2 s2.heap.objs.size (.lst [])) { s2 with heap:=s2.heap.push { cls:=.type "list",dict:=none,data:=.seq ([]:List Q2).toArray },toks:=s2.toks }:=I2.lnew (its:=[]) .nil (ZC _);generalize hs3:({ s2 with heap:=s2.heap.push { cls:=.type "list",dict:=none,data:=.seq ([]:List Q2).toArray },toks:=s2.toks }:Q3)=s3 at I3;have es3:s3.heap=s2.heap.push { cls:=.type "list",dict:=none,data:=.seq ([]:List Q2).toArray }:=by rw[<-hs3]
 generalize hDD:s2.heap.objs.size=D at *;have kept:∀b o,s3.heap.get? b=some o->h₁.get? b=some o:=fun b o e=>by
  have lt:=QV e;rw[es3]at lt e;exact hsb₁.extBut b o (Qr lt) (Q6 _ e)
 have old:∀b o,s2.heap.get? b=some o->s3.heap.get? b=some o:=fun b o e=>by rw[es3];exact Q6 _ e
 have ltD:∀b∈fp,b<D:=fun b hb=>by
  obtain⟨o,e,_⟩:=T.obj 0 _ st2 b hb;rw[<-hDD];exact QV e
 have fo:∀b∈fp,b<s3.heap.objs.size:=fun b hb=>by
  obtain⟨o,e,_⟩:=T.obj 0 _ st2 b hb;exact QV (old _ _ e)
 have f3:∀b∈fp,yq X pins (upd H2 D (.lst [])) b:=fun b hb=>by
  refine⟨?_,(f2 b hb).2⟩;rw[aI (Qr (ltD b hb))];exact(f2 b hb).1
 rw[<-es3]at hns₁ hsb₁ ⊢;have Ic:=fun t'=>Inv.comp (h1:=h₁) (t':=t') (Nc:=Nc) (n:=n) I3 hc f3 fo hkind hcl hhas hcap tn hN hn hns₁ kept;have stat:∀{H':Hp},(∀b∈fp,H' b=none)->∀b∈fp,yq (cxC X Nc scope cl s3 (upd H2 D (.lst [])) fp) [] H' b:=fun hn' b hb=>by
  refine⟨hn' b hb,Qr (fo b hb),fun z=>?_,.inl hb,fun x c e=>(f2 b hb).2.2.2.2.1 x c (hcl.look e),fun p hp=>(by simp at hp)⟩;rcases Qz.mp (I3.stkSub b z)with q|q;exact(f2 b hb).2.1 q;exact(f2 b hb).2.2.1 q
 have loop:∀s4:Q3,(∃t',s4={ s3 with heap:=h₁,toks:=t' })->codeAny (Qy X.prog X.w) X.A (.compLoop (.ListComp elt [⟨tg,iter,[c],0⟩] scope pos) 0 (.ref it) (.ref D) (compEnvC scope cl s3.heap.objs.size X.env))
   (compPost (Qy X.prog X.w) X.A X.xe use Qf (.ref D) s3.heap.objs.size) s4:=by
  rintro s4 ⟨t',rfl⟩;refine oU (fun n' s'=>∃i σ' H',Inv (cxC X Nc scope cl s3 (upd H2 D (.lst [])) fp) [] σ' H' s'/\tnn i s'.heap/\(∀b∈fp,H' b=none)/\W i n' σ' H') ?_ m0
   ⟨0,_,_,Ic t',T.keep 0 _ _ st2 fun b hb o e=>kept _ _ (old _ _ e),fun b hb=>(f3 b hb).1,w0⟩
  rintro n' s5 ⟨i,σ5,H5,I5,st5,fr5,w5⟩;rcases turn i n' σ5 H5 w5 with⟨stop,qn⟩|⟨go,N,hN',step⟩;refine thn (T.done (cxC X Nc scope cl s3 (upd H2 D (.lst [])) fp) rfl rfl rfl hc i [] s5 σ5 H5 (fun _ _=>False) I5 (stat fr5) st5 stop) fun r s6 ⟨hr,I6⟩=>?_;subst hr;obtain⟨m,hm,_⟩:=I6.loc;have I7:Inv X pins σ H5 s6:=Inv.call' (ch:=fp) I3 I6.os I6.base I6.hok I6.bare fun b hb=>⟨(f2 b hb).2.2.2.1,(f2 b hb).2.1,(f2 b hb).2.2.2.2.1,(f2 b hb).2.2.2.2.2⟩;exact hend D _ s6 H5 m I7 hm I6.free (Ne.symm (Qr I3.lt)) I3.sz (fun x c e=>by
    obtain⟨v',o,ho,_⟩:=I3.cell x c e;exact Qr (QV ho)) (fun p hp=>Qr (QV (I3.pin p hp).1)) qn
  refine thn (T.item (cxC X Nc scope cl s3 (upd H2 D (.lst [])) fp) rfl rfl rfl hc i [] s5 σ5 H5 (fun _ _=>False) I5 (stat fr5) st5 go) fun r s6 ⟨u,hr,h6⟩=>?_;subst hr;refine thn h6 fun _ s7 hz=>?_;obtain⟨x,H7,I7,r7,y7,st7,fr7⟩:=hz;have I7':=I7.pinned (stat fr7) (T.obj _ _ st7);refine thn ((hg s3 (upd H2 D (.lst [])) fp).h _ s7 σ5 H7 x u _ I7' r7 (step x H7 y7)) fun _ s8 hz=>?_;obtain⟨σ8,H8,I8,q8⟩:=hz;have fin:∀{s10:Q3} {H10:Hp},Inv (cxC X Nc scope cl s3 (upd H2 D (.lst [])) fp) _ σ8 H10 s10->N σ8 H10->∃m',m'<n'/\∃i' σ' H',Inv (cxC X Nc scope cl s3 (upd H2 D (.lst [])) fp) [] σ' H' s10/\tnn i' s10.heap/\(∀b∈fp,H' b=none)/\W i' m' σ' H':=fun{s10 H10} I10 q10=>by
   obtain⟨m',hm,w10⟩:=hN' σ8 H10 q10;refine⟨m',hm,i+1,σ8,H10,Inv.unpinned I10,T.keep _ _ _ st7 fun b hb o e=>(Inv.pin I10 (b,o) (QC _ (QC _ (fN hb e)))).1,fun b hb=>?_,w10⟩;obtain⟨o,e,d⟩:=T.obj _ _ st7 b hb;exact(Inv.pin I10 (b,o) (QC _ (QC _ (fN hb e)))).2.1
  refine thn ((ht s3 (upd H2 D (.lst [])) fp).h _ s8 σ8 H8 _ I8 q8) fun b9 s9' h9=>?_;obtain⟨H9',I9',q9'⟩:=h9;cases b9 with
  |false=>exact fin I9' q9'
  |true=>
   refine thn ((he s3 (upd H2 D (.lst [])) fp).h _ s9' σ8 H9' _ I9' q9') fun v9 s9 hz=>?_;obtain⟨x9,H9,I9,r9,ys,hy,hlt,q9⟩:=hz;exact thn (nQ (X:=cxC X Nc scope cl s3 (upd H2 D (.lst [])) fp) _ s9 σ8 H9 (.ref D) [x9] (.ref D) [v9] (fun _ H'=>N σ8 H') I9 rfl (.cons r9 .nil) ⟨D,ys,x9,rfl,rfl,hy,hlt,q9⟩) fun _ s10 ⟨_,H10,I10,_,q10⟩=>fin I10 q10
 have e4:∀t',({ s2 with heap:=h₁,toks:=t' }:Q3)={ s3 with heap:=h₁,toks:=t' }:=fun t'=>by rw[<-hs3]
 refine codeAny_compStart_list (loop _ ⟨_,e4 _⟩) (T.self _ 0 _ _ _ (T.keep 0 _ _ st2 fun b hb o e=>kept _ _ (old _ _ e)) (loop _ ⟨_,e4 _⟩))
def xB{X:Cx}{Nc capN tn:List Str}{scope:Zl}{cl:List (Str×Addr)}{n:Nat}{caps:List Nat}{tg iter elt:QB}{pos:Pos}{wi:TI}{g:TG}{te:TE}{tt:TT}{c:QB}
  (hc:X.calm=true) (hi:WI X tg iter wi) (hg:∀s3 H3 fp,WG (cxC X Nc scope cl s3 H3 fp) tg g) (he:∀s3 H3 fp,WE (cxC X Nc scope cl s3 H3 fp) elt te)
  (ht:∀s3 H3 fp,WT (cxC X Nc scope cl s3 H3 fp) c tt)
  (hclos:closureFor scope X.env=pure cl) (hkind:scope.kind=.function) (hnl:∀x∈scope.names,x.2=.local->scope.names.lookup x.1=some .local) (hcell:∀x∈scope.names,x.2≠.cell)
  (hcl:xp X.env cl) (hhas:((relabel scope X.env).names.all fun p=>!(p.2 == .cell||p.2 == .free)||(cl.lookup p.1).isSome)=true)
  (hcap:Paired (Cap X scope cl) caps capN) (hN:Nc=tn++capN) (hn:tn.length=n)
  (hs:∀x,foldedSetIterable iter X.env x=pure x:=by intro _;rfl) :
  WE X (.ListComp elt [⟨tg,iter,[c],0⟩] scope pos) (uO wi g tt te n caps):=by
 constructor;intro pins s σ H Q I h;rw[eval_ListComp];refine yc hc hi hg he ht hclos hkind hnl hcell hcl hhas hcap hN hn I h (fun D C s6 H5 m I7 hm fr nl sz cn pn qn=>⟨m,hm,fun h' hs'=>?_⟩) hs;exact⟨.ref D,H5,I7.turned (t':=s6.toks) (it:=C) (fun b o hb e=>hs'.extBut b o hb e) fr nl (.inr sz) cn pn,rfl,qn⟩
end OG
namespace OP
open PySem PySem.Spec PyProof.Rows L2 OG
open Classical in
def dg(ok:Sto->Prop)(g:CG)(ct:CT)(ce:CE)(l:Nat):List U->Rho->Sto->Option Sto
 |[],_,S=>if ok S then some S else none
 |u::us,ρ,S=>if ok S then(g u ρ S).bind fun p=>(ct p.1 p.2).bind fun q=>if q.1=true then(ce p.1 q.2).bind fun r=>match r.2[l]? with
  |some (.lst ys)=>if ys.length<LIM then dg ok g ct ce l us p.1 (r.2.set l (.lst (ys++[r.1])))else none
  |_=>none else dg ok g ct ce l us p.1 q.2 else none
def iH(ci:CI)(g:CG)(ct:CT)(ce:CE)(n:Nat)(caps:List Nat):CE:=fun ρ S=>(ci ρ S).bind fun p=>(dg p.2.1 g ct ce p.2.2.length p.1 (qj n caps ρ) (p.2.2++[.lst []])).bind fun S'=>some (.ref p.2.2.length,S')
section
variable{X:Cx}{K:Q1}
def vw{g:CG}{ct:CT}{ce:CE}{n:Nat}{caps:List Nat}{J:It}{us:List U}{ok:Sto->Prop}{Q:VK}{m1:List Addr}{H1:Hp}{S1 S':Sto}{ρ:Rho}{σ:L2.St}{l:Addr}(sr1:Sr K m1 S1 H1)(lr:Lr K m1 H1 ρ σ)(ito:Et K J m1 H1 us ok)(hl:H1 l=none)(h2:dg ok g ct ce S1.length us (qj n caps ρ) (S1++[.lst []])=some S')
  (post:∀m2 H2,Ext K (m1++[l]) (upd H1 l (.lst [])) m2 H2->Sr K m2 S' H2->Q (.ref l) H2) :
  ∃W:Nat->Nat->L2.St->Hp->Prop,(∃m,W 0 m (OG.stC n caps σ) (upd H1 l (.lst [])))/\
 ∀i m σ' H2,W i m σ' H2->(J.stop i H2/\Q (.ref l) H2)\/(J.go i H2/\∃N:L2.St->Hp->Prop,(∀σ'' H',N σ'' H'->∃m',m'<m/\W (i+1) m' σ'' H')/\
  ∀x H3,J.yld i H2 x H3->tG K g x σ' H3 fun σ2 H4=>tT K ct σ2 H4 fun b H5=>match b with
   |true=>tE K ce σ2 H5 fun v H6=>∃ys,H6 l=some (.lst ys)/\ys.length<QD/\N σ2 (upd H6 l (.lst (ys++[v])))
   |false=>N σ2 H5):=by
 have ee:Ext K m1 H1 (m1++[l]) (upd H1 l (.lst [])):=.new (bO hl _);let W:Nat->Nat->L2.St->Hp->Prop:=fun i k σ2 H2=>k=us.length-i/\i<=us.length/\∃m2 ρ2 S2,Ext K (m1++[l]) (upd H1 l (.lst [])) m2 H2/\Sr K m2 S2 H2/\Lr K m2 H2 ρ2 σ2/\dg ok g ct ce S1.length (us.drop i) ρ2 S2=some S'
 refine⟨W,⟨us.length,by simp,ZC _,m1++[l],qj n caps ρ,S1++[.lst []],.refl,sr1.new (o:=.lst []) hl ⟨[],aH,.nil_⟩,Ab (lr.mono ee),by simpa using h2⟩,?_⟩;rintro i k σ2 H2 ⟨rfl,hi,m2,ρ2,S2,e2,sr2,lr2,hl2⟩;by_cases hlt:i<us.length
 ·have hu:=QQ hlt;rw[og hu]at hl2;unfold dg at hl2;split at hl2
  ·rename_i hok;obtain⟨⟨ρ3,S3⟩,h3,hl2⟩:=Q0.mp hl2;obtain⟨⟨b4,S4⟩,h4,hl2⟩:=Q0.mp hl2;obtain⟨hgo,hy⟩:=(ito m2 S2 H2 i (ee.trans e2) sr2 hok).1 _ hu;refine .inr ⟨hgo,W (i+1) (us.length-(i+1)),fun σ' H' w'=>⟨_,by omega,w'⟩,fun x H3 y=>?_⟩;obtain⟨e3,sr3,ix⟩:=hy x H3 y;refine⟨m2,ρ2,S2,_,ρ3,S3,sr3,lr2.mono e3,ix,h3,fun m4 σ4 H4 e4 sr4 lr4=>⟨m4,ρ3,S3,b4,S4,sr4,lr4,h4,fun m4' H4' e4' sr4'=>?_⟩⟩;cases b4 with
   |false=>
    rw[XQ QZ]at hl2;exact⟨rfl,hlt,m4',ρ3,_,(((e2.trans e3).trans e4).trans e4'),sr4',lr4.mono e4',hl2⟩
   |true=>
    rw[X9 rfl]at hl2;obtain⟨⟨u5,S5⟩,h5,hl2⟩:=Q0.mp hl2;simp only at hl2;split at hl2<;>try cases hl2
    rename_i ys hys;split at hl2<;>try cases hl2
    rename_i hlen;refine⟨m4',ρ3,S4,u5,S5,sr4',lr4.mono e4',h5,fun m5 v5 H5 e5 sr5 i5=>?_⟩;obtain⟨a',ha',xs,hx,il⟩:=sr5.get hys;have ha:m5[S1.length]?=some l:=((((e2.trans e3).trans e4).trans e4').trans e5).get (dW sr1.len);rw[ha]at ha';cases ha';have eu:Ext K m5 H5 m5 (upd H5 l (.lst (xs++[v5]))):=.of (sr5.keep ha _);exact⟨xs,hx,Mq (by rw[il.length];exact hlen),rfl,hlt,m5,ρ3,_,(((((e2.trans e3).trans e4).trans e4').trans e5).trans eu),sr5.put (o:=.lst (ys++[u5])) ha ⟨_,aH,(il.append (.cons_ i5 .nil_)).mono eu⟩,(lr4.mono ((e4'.trans e5).trans eu)),hl2⟩
  cases hl2
 have e:i=us.length:=by omega
 subst e;rw[List.drop_length]at hl2;unfold dg at hl2;split at hl2;rename_i hok;cases hl2;exact .inl ⟨(ito m2 _ H2 _ (ee.trans e2) sr2 hok).2 (Q7 _),post m2 H2 e2 sr2⟩;cases hl2
def yb{ci:CI}{g:CG}{ct:CT}{ce:CE}{n:Nat}{caps:List Nat}:∀σ H Q,tE K (iH ci g ct ce n caps) σ H Q->uO (tI K ci) (tG K g) (tT K ct) (tE K ce) n caps σ H Q:=by
 rintro σ H Q ⟨m,ρ,S,u,S',sr,lr,hc,post⟩;obtain⟨⟨us,ok,S1⟩,h1,h2⟩:=Q0.mp hc;obtain⟨S2,h2,h3⟩:=Q0.mp h2;cases h3;refine⟨m,ρ,S,us,ok,S1,sr,lr,h1,fun m1 H1 J e1 sr1 ito l hl=>?_⟩;have ee:Ext K m1 H1 (m1++[l]) (upd H1 l (.lst [])):=.new (bO hl _);exact vw sr1 (lr.mono e1) ito hl h2 fun m2 H2 e2 sr2=>post m2 _ H2 ((e1.trans ee).trans e2) sr2 (.ref_ (e2.get (dW sr1.len)))
def qp{Nc capN tn:List Str}{scope:Zl}{cl:List (Str×Addr)}{n:Nat}{caps:List Nat}{tg iter elt:QB}{pos:Pos}{ci:CI}{g:CG}{ct:CT}{ce:CE}{c:QB}
  (hc:X.calm=true) (hi:QI X tg iter ci) (hg:∀s3 H3 fp,WG (cxC X Nc scope cl s3 H3 fp) tg (tG X.K g)) (ht:∀s3 H3 fp,WT (cxC X Nc scope cl s3 H3 fp) c (tT X.K ct)) (he:∀s3 H3 fp,WE (cxC X Nc scope cl s3 H3 fp) elt (tE X.K ce))
  (hclos:closureFor scope X.env=pure cl) (hkind:scope.kind=.function) (hnl:∀x∈scope.names,x.2=.local->scope.names.lookup x.1=some .local) (hcell:∀x∈scope.names,x.2≠.cell)
  (hcl:xp X.env cl) (hhas:((relabel scope X.env).names.all fun p=>!(p.2 == .cell||p.2 == .free)||(cl.lookup p.1).isSome)=true)
  (hcap:Paired (Cap X scope cl) caps capN) (hN:Nc=tn++capN) (hn:tn.length=n)
  (hs:∀x,foldedSetIterable iter X.env x=pure x:=by intro _;rfl) :
  QE X (.ListComp elt [⟨tg,iter,[c],0⟩] scope pos) (iH ci g ct ce n caps):=(xB hc hi hg he ht hclos hkind hnl hcell hcl hhas hcap hN hn hs).imp yb
end
end OP
namespace OP
open PySem PySem.Spec PyProof PyProof.Rows L2 OG
mutual
inductive RdV(K:Q1)(H:Hp):V->PyData->Prop
 |non:RdV K H .non .none
 |bl (b:Bool):RdV K H (.bl b) (.bool b)
 |int (i:Int):RdV K H (.int i) (.int i)
 |str (x:Str):RdV K H (.str x) (.str x)
 |lst {a:Addr} {xs:List V} {ds:List PyData}:SqL K H a xs->BB K H xs ds->RdV K H (.ref a) (.list ds)
 |tup {a:Addr} {xs:List V} {ds:List PyData}:SqT K H a xs->BB K H xs ds->RdV K H (.ref a) (.tuple ds)
inductive BB(K:Q1)(H:Hp):List V->List PyData->Prop
 |nil:BB K H [] []
 |cons {x:V} {xs:List V} {d:PyData} {ds:List PyData}:RdV K H x d->BB K H xs ds->BB K H (x::xs) (d::ds)
end
mutual
inductive Dt(S:Sto):U->PyData->Prop
 |non:Dt S .non .none
 |bl (b:Bool):Dt S (.bl b) (.bool b)
 |int (i:Int):Dt S (.int i) (.int i)
 |str (x:Str):Dt S (.str x) (.str x)
 |lst {l:Nat} {us:List U} {ds:List PyData}:S[l]?=some (.lst us)->DtL S us ds->Dt S (.ref l) (.list ds)
 |tup {us:List U} {ds:List PyData}:DtL S us ds->Dt S (.tup us) (.tuple ds)
inductive DtL(S:Sto):List U->List PyData->Prop
 |nil:DtL S [] []
 |cons {x:U} {xs:List U} {d:PyData} {ds:List PyData}:Dt S x d->DtL S xs ds->DtL S (x::xs) (d::ds)
end
variable{X:Cx}{K:Q1}
section
variable{pins:List (Addr×Obj)}{σ:L2.St}{H:Hp}{s:Q3}
mutual
theorem RdV.reads(I:Inv X pins σ H s):∀{x:V} {d:PyData} {v:Q2},RdV X.K H x d->cI x v->∃as,Reads s.heap v d as
 |_,_,_,.non,r=>by cases r;exact⟨_,.none⟩
 |_,_,_,.bl b,r=>by cases r;exact⟨_,.bool b⟩
 |_,_,_,.int i,r=>by obtain⟨t,rfl⟩:=r;exact⟨_,.int i t⟩
 |_,_,_,.str i,r=>by obtain⟨t,rfl⟩:=r;exact⟨_,.str i t⟩
 |_,_,_,.lst (a:=a) h t,r=>by
  cases r;obtain⟨its,rv,pl,_⟩:=I.list h;obtain⟨as,k⟩:=BB.reads I t rv;obtain⟨o,h1,h2,n,h3⟩:=pl.isList;exact⟨_,.list h1 h2 h3 (by simpa using k)⟩
 |_,_,_,.tup (a:=a) h t,r=>by
  cases r;obtain⟨its,rv,pl,_⟩:=I.tuple h;obtain⟨as,k⟩:=BB.reads I t rv;obtain⟨o,h1,h2,n,h3⟩:=pl;exact⟨_,.tuple h1 h2 h3 (by simpa using k)⟩
theorem BB.reads(I:Inv X pins σ H s):∀{xs:List V} {ds:List PyData} {vs:List Q2},BB X.K H xs ds->bX xs vs->∃as,ReadsAll s.heap vs ds as
 |_,_,_,.nil,r=>by cases r;exact⟨_,.nil⟩
 |_,_,_,.cons h t,.cons r rs=>by
  obtain⟨as,a⟩:=RdV.reads I h r;obtain⟨bs,b⟩:=BB.reads I t rs;exact⟨_,.cons a b⟩
end
mutual
theorem Dt.rd{m:List Addr}{S:Sto}(sr:Sr K m S H):∀{u:U} {d:PyData} {v:V},Dt S u d->Is K m H v u->RdV K H v d
 |_,_,_,.non,i=>by rw[i.of_non];exact .non
 |_,_,_,.bl b,i=>by rw[i.of_bl];exact .bl b
 |_,_,_,.int b,i=>by rw[i.of_int];exact .int b
 |_,_,_,.str b,i=>by rw[i.of_str];exact .str b
 |_,_,_,.lst h t,i=>by
  obtain⟨a,ha,rfl⟩:=i.of_ref;obtain⟨a',ha',xs,hx,il⟩:=sr.get h;rw[ha]at ha';cases ha';exact .lst (SqL.of hx) (DtL.rd sr t il)
 |_,_,_,.tup t,i=>by
  obtain⟨a,xs,rfl,sa,la⟩:=i.of_tup;exact .tup sa (DtL.rd sr t la)
theorem DtL.rd{m:List Addr}{S:Sto}(sr:Sr K m S H):∀{us:List U} {ds:List PyData} {vs:List V},DtL S us ds->IsL K m H vs us->BB K H vs ds
 |_,_,_,.nil,i=>by rw[i.of_nil];exact .nil
 |_,_,_,.cons h t,i=>by
  obtain⟨x,r,rfl,i1,i2⟩:=i.of_cons;exact .cons (Dt.rd sr h i1) (DtL.rd sr t i2)
end
mutual
theorem Dt.uniq{S:Sto}:∀{u:U} {d e:PyData},Dt S u d->Dt S u e->d=e
 |_,_,_,.non,.non=>rfl
 |_,_,_,.bl _,.bl _=>rfl
 |_,_,_,.int _,.int _=>rfl
 |_,_,_,.str _,.str _=>rfl
 |_,_,_,.lst h t,.lst h' t'=>by
  rw[h]at h';cases h';rw[DtL.uniq t t']
 |_,_,_,.tup t,.tup t'=>by rw[DtL.uniq t t']
theorem DtL.uniq{S:Sto}:∀{us:List U} {ds es:List PyData},DtL S us ds->DtL S us es->ds=es
 |_,_,_,.nil,.nil=>rfl
 |_,_,_,.cons h t,.cons h' t'=>by rw[Dt.uniq h h',DtL.uniq t t']
end
def BL(d:PyData):Prop:=d.canLay0=true/\d.depth<=60
def NO(K:Q1)(neg:Bool):R2:=fun x y H Q=>(∃dx dy,RdV K H x dx/\RdV K H y dy/\BL dx/\BL dy/\Q (.bl (if neg then !dx.eqv dy else dx.eqv dy)) H)\/
 ∃a b xs ys,x=.ref a/\y=.ref b/\SqL K H a xs/\SqL K H b ys/\xs.length≠ys.length/\Q (.bl neg) H
def K0(hu:X.A.units+64<cLine):OpR X (compareOp .Eq) (NO X.K false):=by
 rintro pins s σ H x y v u Q I rx ry (⟨dx,dy,hx,hy,lx,ly,q⟩|⟨a,b,xs,ys,rfl,rfl,ha,hb,ne,q⟩);obtain⟨as,hx⟩:=hx.reads I rx;obtain⟨bs,hy⟩:=hy.reads I ry;exact SeqAt.compareEq_reads hx hy lx.1 ly.1 (by have:=lx.2;omega) ⟨.bl _,H,I,rfl,q⟩;cases rx;cases ry;obtain⟨i1,r1,p1,_⟩:=I.list ha;obtain⟨i2,r2,p2,_⟩:=I.list hb;have l1:=r1.length;have l2:=r2.length;exact SeqAt.RcAt.lists_lengths p1.isList p2.isList (by simp;omega) (by omega) X.prog X.w X.xe _ ⟨.bl false,H,I,rfl,q⟩
def zU(hu:X.A.units+64<cLine):OpR X (compareOp .NotEq) (NO X.K true):=by
 rintro pins s σ H x y v u Q I rx ry (⟨dx,dy,hx,hy,lx,ly,q⟩|⟨a,b,xs,ys,rfl,rfl,ha,hb,ne,q⟩);obtain⟨as,hx⟩:=hx.reads I rx;obtain⟨bs,hy⟩:=hy.reads I ry;exact SeqAt.compareNe_reads hx hy lx.1 ly.1 (by have:=lx.2;omega) ⟨.bl _,H,I,rfl,q⟩;cases rx;cases ry;obtain⟨i1,r1,p1,_⟩:=I.list ha;obtain⟨i2,r2,p2,_⟩:=I.list hb;have l1:=r1.length;have l2:=r2.length;exact SeqAt.RcNeAt.lists_lengths p1.isList p2.isList (by simp;omega) (by omega) X.prog X.w X.xe _ ⟨.bl true,H,I,rfl,q⟩
def BV(x y:U)(S:Sto)(b:Bool):Prop:=(∃dx dy,Dt S x dx/\Dt S y dy/\BL dx/\BL dy/\b=dx.eqv dy)\/∃l l' us vs,x=.ref l/\y=.ref l'/\S[l]?=some (.lst us)/\S[l']?=some (.lst vs)/\us.length≠vs.length/\b=false
def DtL.length{S:Sto}:∀{us:List U} {ds:List PyData},DtL S us ds->us.length=ds.length
 |_,_,.nil=>rfl
 |_,_,.cons _ t=>by rw[QK,QK,DtL.length t]
def BV.mix{l l':Nat}{us vs:List U}{S:Sto}{dx dy:PyData}(h1:Dt S (.ref l) dx)(h2:Dt S (.ref l') dy)(k1:S[l]?=some (.lst us))(k2:S[l']?=some (.lst vs))(ne:us.length≠vs.length):dx.eqv dy=false:=by
 cases h1 with
 |lst a1 t1=>
  cases h2 with
  |lst a2 t2=>
   rw[k1]at a1;cases a1;rw[k2]at a2;cases a2;show PyData.eqvAll _ _=false;exact SeqAt.eqvAll_other_length (by rw[<-t1.length,<-t2.length];exact ne)
def BV.uniq{x y:U}{S:Sto}{b c:Bool}(h:BV x y S b)(k:BV x y S c):b=c:=by
 rcases h with⟨dx,dy,h1,h2,_,_,rfl⟩|⟨l,l',us,vs,rfl,rfl,h1,h2,ne,rfl⟩;rcases k with⟨ex,ey,k1,k2,_,_,rfl⟩|⟨l,l',us,vs,rfl,rfl,k1,k2,ne,rfl⟩;rw[h1.uniq k1,h2.uniq k2];exact BV.mix h1 h2 k1 k2 ne;rcases k with⟨ex,ey,k1,k2,_,_,rfl⟩|⟨_,_,_,_,_,_,_,_,_,rfl⟩;exact(BV.mix k1 k2 h1 h2 ne).symm;rfl
open Classical in
def tZ(neg:Bool):U->U->Sto->Option (U×Sto):=fun x y S=>if h:∃b,BV x y S b then some (.bl (if neg then !h.choose else h.choose),S)else none
def AU{x y:U}{S:Sto}{b:Bool}(neg:Bool)(h:BV x y S b):tZ neg x y S=some (.bl (if neg then !b else b),S):=by
 unfold tZ;rw[dif_pos ⟨b,h⟩];have e:(⟨b,h⟩:∃b,BV x y S b).choose=b:=(Exists.choose_spec (⟨b,h⟩:∃b,BV x y S b)).uniq h;rw[e]
def Df{neg:Bool}:OpP K (NO K neg) (tZ neg):=by
 intro m S H x y v w u S' Q sr ix iy hf post;unfold tZ at hf;split at hf<;>try cases hf
 rename_i h;have hb:=h.choose_spec;generalize h.choose=b at hb post;rcases hb with⟨dx,dy,h1,h2,l1,l2,rfl⟩|⟨l,l',us,vs,rfl,rfl,h1,h2,ne,rfl⟩;exact .inl ⟨dx,dy,h1.rd sr ix,h2.rd sr iy,l1,l2,post m _ H .refl sr .bl_⟩
 ·obtain⟨a,ha,rfl⟩:=ix.of_ref;obtain⟨a',ha',xs,hx,la⟩:=sr.get h1;rw[ha]at ha';cases ha';obtain⟨c,hc,rfl⟩:=iy.of_ref;obtain⟨c',hc',ys,hy,lc⟩:=sr.get h2;rw[hc]at hc';cases hc';refine .inr ⟨a,c,xs,ys,rfl,rfl,SqL.of hx,SqL.of hy,by rw[la.length,lc.length];exact ne,?_⟩;have e:(if neg=true then !false else false)=neg:=by cases neg<;>rfl
  have:=post m _ H .refl sr (Is.bl_ (b:=if neg=true then !false else false));rw[e]at this;exact this
def Fp(us:List U)(lo hi:Option Int):List U:=(us.drop (HT.sIx us.length 0 lo)).take (HT.sIx us.length us.length hi-HT.sIx us.length 0 lo)
def Fj{m:List Addr}{xs:List V}{us:List U}{lo hi:Option Int}(i:IsL K m H xs us):IsL K m H (Fl xs lo hi) (Fp us lo hi):=by
 unfold Fl Fp;rw[i.length];exact(i.drop _).take _
def fSl(x:U)(lo hi:Option Int)(S:Sto):Option (U×Sto):=match x with
 |.tup us=>if HT.sIx us.length 0 lo=0/\HT.sIx us.length us.length hi=us.length then none else some (.tup (Fp us lo hi),S)
 |.ref l=>match S[l]? with
  |some (.lst us)=>some (.ref S.length,S++[.lst (Fp us lo hi)])
  |_=>none
 |_=>none
def ug:Option CE->Rho->Sto->Option (Option Int×Sto)
 |none,_,S=>some (none,S)
 |some c,ρ,S=>(c ρ S).bind fun p=>match p.1 with
  |.int i=>some (some i,p.2)
  |_=>none
def cSl(ca:CE)(cl ch:Option CE):CE:=fun ρ S=>(ca ρ S).bind fun p=>(ug cl ρ p.2).bind fun q=>(ug ch ρ q.2).bind fun r=>fSl p.1 q.1 r.1 r.2
def OZ(K:Q1)(m:List Addr)(H:Hp)(Q:Option Int->Hp->Prop)(o:Option Int)(S':Sto):Prop:=∀m' H',Ext K m H m' H'->Sr K m' S' H'->Q o H'
def tO(K:Q1)(c:Option CE):TO:=fun σ H Q=>∃m ρ S o S',Sr K m S H/\Lr K m H ρ σ/\ug c ρ S=some (o,S')/\OZ K m H Q o S'
abbrev QO(X:Cx)(e:Option QB)(c:Option CE):Prop:=WO X e (tO X.K c)
def ql:QO X none none:=⟨fun pins s σ H Q I hz=>oa hz fun m ρ S o S' sr lr hc post=>B8.h pins s σ H Q I (by cases hc;exact post m H .refl sr)⟩
def qk{e:QB}{ca:CE}(h:QE X e ca):QO X (some e) (some ca):=⟨fun pins s σ H Q I hz=>oa hz fun m ρ S o S' sr lr hc post=>(B7 h).h pins s σ H Q I (by
 obtain⟨⟨x,S1⟩,h1,h2⟩:=Q0.mp hc;refine⟨m,ρ,S,x,S1,sr,lr,h1,fun m1 v1 H1 e1 sr1 i1=>?_⟩;cases x<;>simp at h2;obtain⟨rfl,rfl⟩:=h2;exact⟨_,i1.of_int,post m1 H1 e1 sr1⟩)⟩
def Mn{e:QB}{lo hi:Option QB}{ca:CE}{cl ch:Option CE}{pos p2:Pos}(ha:QE X e ca)(hl:QO X lo cl)(hh:QO X hi ch):QE X (.Subscript e (.Slice lo hi none p2) pos) (cSl ca cl ch):=(yI (GD.or JZ) ha hl hh).imp fun σ H Q hz=>oa hz fun m ρ S u S' sr lr hc post=>by
 obtain⟨⟨x,S1⟩,h1,ha⟩:=Q0.mp hc;obtain⟨⟨l,S2⟩,h2,hb⟩:=Q0.mp ha;obtain⟨⟨k,S3⟩,h3,h⟩:=Q0.mp hb;clear ha hb hc;refine⟨m,ρ,S,x,S1,sr,lr,h1,fun m1 v1 H1 e1 sr1 i1=>⟨m1,ρ,S1,l,S2,sr1,lr.mono e1,h2,fun m2 H2 e2 sr2=>⟨m2,ρ,S2,k,S3,sr2,lr.mono (e1.trans e2),h3,fun m3 H3 e3 sr3=>?_⟩⟩⟩;have i3:=i1.mono (e2.trans e3);have e03:=(e1.trans e2).trans e3;cases x with
 |tup us=>
  simp only[fSl]at h;split at h<;>try cases h
  rename_i hw;obtain⟨a,xs,rfl,sa,la⟩:=i3.of_tup;exact .inr ⟨a,xs,rfl,sa,by rw[la.length];exact hw,fun p hp=>qu sr3 (Fj la) (post.mono e03) hp⟩
 |ref r=>
  simp only[fSl]at h;split at h<;>try cases h
  rename_i us hS;obtain⟨a,ha,rfl⟩:=i3.of_ref;obtain⟨a',ha',xs,hx,la⟩:=sr3.get hS;rw[ha]at ha';cases ha';exact .inl ⟨a,xs,rfl,SqL.of hx,fun p hp=>ft sr3 (Fj la) (post.mono e03) hp⟩
 |_=>simp[fSl]at h
end
def GI(K:Q1):R2:=fun x y H Q=>∃a k xs,x=.ref a/\y=.int k/\SqT K H a xs/\xs≠[]/\1<=k/\xs.length*k.toNat<=1000/\∀q H',Ep H H'->SqT K H' q (QX k.toNat xs).flatten->Q (.ref q) H'
def Hl:OpR X (binaryOp .Mult) (GI X.K):=by
 intro pins s σ H x y v u Q I rx ry h;obtain⟨a,k,xs,rfl,rfl,ha,hne,hk,hz,q⟩:=h;cases rx;obtain⟨t,rfl⟩:=ry;obtain⟨its,r1,p1,hzz⟩:=I.tuple ha;have hlen:=r1.length;obtain⟨⟨cls,dd,data,sl⟩,ho,hc,n,hd⟩:=id p1;simp only at hc hd;subst hc hd;have hne':its≠[]:=fun z=>hne (r1.nil_iff.mp z);refine wpAny_binaryOp_repeat_ref (T:="tuple") (U:="int") (by decide) ⟨_,ho,rfl⟩ (fun s'=>typeIs_int s' k t) mi F.fills_int_mul F.slot_int_rmul sI F.slot_int_index.lookup
  (call_meets F.slot_int_rmul (typeIs_int s k t) F.entry_int_rmul (F.args_int_rmul_2 _ _) (oI k t a its.toArray n dd sl) ⟨ho,rfl,⟨_,ho,rfl⟩,?_⟩)
 by_cases k1:k=1;subst k1;refine call_meets F.slot_tuple_mul ⟨_,ho,rfl⟩ F.entry_tuple_mul (F.args_tuple_mul_2 _ _) (uK a its.toArray n dd sl t) ⟨ho,⟨.ref a,H,I,rfl,q a H (.refl _) ?_⟩⟩;simpa using ha;have hfold:List.foldl (fun x1 x2=>x1++x2) #[] (QX k.toNat its.toArray)=(QX k.toNat its).flatten.toArray:=by
  have:=n4 its k.toNat [];rw[Zq]at this;exact this
 have hfl:(QX k.toNat its).flatten.length<=1000:=by rw[uZ,<-hlen,Nat.mul_comm];exact hz
 have hlp:0<its.length:=List.length_pos_iff.mpr hne';have hk2:k.toNat<=1000:=ZQ (Nat.le_mul_of_pos_left _ (by rw[hlen];exact hlp)) hz;have hsz:(its.toArray.size:Int)*k<=1000:=by
  rw[QR,<-hlen];have e:k=((k.toNat:Nat):Int):=by omega
  rw[e,<-Int.natCast_mul];omega
 refine call_meets F.slot_tuple_mul ⟨_,ho,rfl⟩ F.entry_tuple_mul (F.args_tuple_mul_2 _ _) (uJ a its.toArray n dd sl k t ?_ ?_ ?_ ?_ ?_ ?_) ⟨ho,?_⟩;simp;omega;simp[hne',k1];simp[hne'];omega;omega;unfold Builtin.Tuple.tupleTooMany;have:¬(its.toArray.size:Int)*k>(QD:Int):=by
  have:(1000:Nat)<=QD:=sE (Q7 _);omega
 simpa using this;rw[hfold,QR];exact sE hfl;rw[hfold];refine⟨.ref s.heap.objs.size,_,I.laid (t':=s.toks) (o:=.tup (QX k.toNat xs).flatten) (fun b ob q=>Q6 _ q) (Q7 _) ?_,rfl,q _ _ (f9 (I.hok.fresh (Q7 _)) _) (SqT.of aH)⟩;exact⟨sE (by rw[uZ,Nat.mul_comm];exact hz),_,r1.rep k.toNat,IsTup.new _ _⟩
def n6:U->U->Sto->Option (U×Sto)
 |.int i,.int j,S=>if BO i j then some (.int (i*j),S)else none
 |.tup us,.int k,S=>if us≠[]/\1<=k/\us.length*k.toNat<=1000 then some (.tup (QX k.toNat us).flatten,S)else none
 |.ref l,.int k,S=>match S[l]? with
  |some (.lst us)=>if 0<=k/\k<=100000/\us.length*k.toNat<=LIM then some (.ref S.length,S++[.lst (QX k.toNat us).flatten])else none
  |_=>none
 |_,_,_=>none
def zY:OpR X (binaryOp .Mult) (fun x y H Q=>rI BO (fun i j=>.int (i*j)) x y H Q\/(GI X.K x y H Q\/NN x y H Q)):=j7.or (Hl.or KW)
instance {us:List U}:Decidable (us≠[]):=match us with
 |[]=>.isFalse fun h=>h rfl
 |_::_=>.isTrue fun h=>by cases h
def zS:OpP K (fun x y H Q=>rI BO (fun i j=>.int (i*j)) x y H Q\/(GI K x y H Q\/NN x y H Q)) n6:=by
 intro m S H x y v w u S' Q sr ix iy hf post;cases x<;>cases y<;>simp only[n6]at hf<;>try cases hf
 ·split at hf<;>try cases hf
  rename_i hc;exact .inl ⟨_,_,ix.of_int,iy.of_int,hc,post m _ H .refl sr .int_⟩
 ·rename_i us k;split at hf<;>try cases hf
  rename_i hc;obtain⟨a,xs,rfl,sa,la⟩:=ix.of_tup;refine .inr (.inl ⟨a,k,xs,rfl,iy.of_int,sa,fun z=>hc.1 ?_,hc.2.1,by rw[la.length];exact hc.2.2,fun q H' s sq=>?_⟩);subst z;have:=la.length;exact List.length_eq_zero_iff.mp this.symm;exact post m _ H' (.of (bY s)) (sr.same s) (.tup_ sq ((la.rep k.toNat).mono (.of (bY s))))
 ·rename_i l k;split at hf<;>try cases hf
  rename_i us hS;split at hf<;>try cases hf
  rename_i hc;obtain⟨a,ha,rfl⟩:=ix.of_ref;obtain⟨a',ha',xs,hx,la⟩:=sr.get hS;rw[ha]at ha';cases ha';exact .inr (.inr ⟨a,k,xs,rfl,iy.of_int,hx,by omega,by omega,lim (by rw[la.length];exact hc.2.2),fun p hp=>ft sr (la.rep k.toNat) post hp⟩)
end OP
namespace OG
open PySem PySem.Spec PyProof.Rows L2
def K5{C a:Addr}{m:Str->Option Q2}{h h':Heap}(n:h.Ns C m)(s:Heap.SameBut a h h')(ne:C≠a):h'.Ns C m:=by
 obtain⟨o,es,ep,e,r⟩:=n;exact⟨o,es,ep,(s.2 C ne).trans e,r⟩
def xy{X:Cx}{Nc capN tn:List Str}{scope:Zl}{cl:List (Str×Addr)}{n:Nat}{caps:List Nat}{tg iter elt:QB}{pos:Pos}{wi:TI}{g:TG}{te:TE}
  (hc:X.calm=true) (hi:WI X tg iter wi) (hg:∀s3 H3 fp,WG (cxC X Nc scope cl s3 H3 fp) tg g) (he:∀s3 H3 fp,WE (cxC X Nc scope cl s3 H3 fp) elt te)
  (hclos:closureFor scope X.env=pure cl) (hkind:scope.kind=.function) (hnl:∀x∈scope.names,x.2=.local->scope.names.lookup x.1=some .local) (hcell:∀x∈scope.names,x.2≠.cell)
  (hcl:xp X.env cl) (hhas:((relabel scope X.env).names.all fun p=>!(p.2 == .cell||p.2 == .free)||(cl.lookup p.1).isSome)=true)
  (hcap:Paired (Cap X scope cl) caps capN) (hN:Nc=tn++capN) (hn:tn.length=n)
  {i₀:Nat} {x₀:Str} {pos₀ pos':Pos} (hN0:X.N.Nodup) (hi0:X.N[i₀]?=some x₀) (hx0:X.env.scope.names.lookup x₀=some .local)
  (hsw:Za (.ListComp elt [⟨tg,iter,[],0⟩] scope pos) (some (.Name x₀ pos')) pos₀.line X.env=pure true)
  (hs:∀x,foldedSetIterable iter X.env x=pure x:=by intro _;rfl) :
  WS X (.Assign [.Name x₀ pos'] (.ListComp elt [⟨tg,iter,[],0⟩] scope pos) pos₀) (fun D σ H=>Cp wi g te n caps σ H fun v H'=>D.nx (σ.set i₀ (some v)) H'):=by
 constructor;intro pins s σ H Dn I h;rw[exec_Assign_arm];refine Q5 (wpAny_standAt ?_);have hsw':swapsWithSole [.Name x₀ pos'] (.ListComp elt [⟨tg,iter,[],0⟩] scope pos) pos₀.line X.env=pure true:=hsw;rw[hsw'];refine Q5 (Qq ?_);rw[X9 rfl,arm_evalThenUse_ListComp];refine Q5 (Q5 (w8 (Qf:=fun _ s'=>wpAny (Qy X.prog X.w) X.A (pure ()) (fun _ s'=>wpAny (Qy X.prog X.w) X.A (pure Flow.next) (SP X pins Dn) X.xe s') X.xe s') hc hi hg he hclos hkind hnl hcell hcl hhas hcap hN hn I h (fun D C s6 H5 m I7 hm fr nl sz cn pn qn=>?_) hs));show wpAny _ _ (assign (.Name x₀ pos') X.env (.ref D)) _ _ s6;rw[arm_assign_Name];refine Q5 (wpAny_standAt (wpAny_bindName (si (v:=.ref D) I7 hN0 hi0 (.inl hx0) rfl (fun s7 I7' hsb=>?_) (.inr hx0))));obtain⟨a7,hsb,ha7⟩:=hsb;have cNe:C≠a7:=by
  rcases ha7 with z|z;rw[z];exact nl;exact Ne.symm (cn _ _ z)
 refine⟨m,K5 hm hsb cNe,fun h' hs'=>Qq (Qq ⟨_,H5,?_,qn⟩)⟩;exact I7'.turned (t':=s7.toks) (it:=C) (fun b o hb e=>hs'.extBut b o hb e) fr nl (.inr sz) cn pn
end OG
namespace OP
open PySem PySem.Spec PyProof.Rows L2 OG
section
variable{X:Cx}{K:Q1}
def pI{i₀:Nat}{x₀:Str}{pos₀ pos':Pos}{Nc capN tn:List Str}{scope:Zl}{cl:List (Str×Addr)}{n:Nat}{caps:List Nat}{tg iter elt:QB}{pos:Pos}{ci:CI}{g:CG}{ce:CE}
  (hc:X.calm=true) (hi:QI X tg iter ci) (hg:∀s3 H3 fp,WG (cxC X Nc scope cl s3 H3 fp) tg (tG X.K g)) (he:∀s3 H3 fp,WE (cxC X Nc scope cl s3 H3 fp) elt (tE X.K ce))
  (hclos:closureFor scope X.env=pure cl) (hkind:scope.kind=.function) (hnl:∀x∈scope.names,x.2=.local->scope.names.lookup x.1=some .local) (hcell:∀x∈scope.names,x.2≠.cell)
  (hcl:xp X.env cl) (hhas:((relabel scope X.env).names.all fun p=>!(p.2 == .cell||p.2 == .free)||(cl.lookup p.1).isSome)=true)
  (hcap:Paired (Cap X scope cl) caps capN) (hN:Nc=tn++capN) (hn:tn.length=n)
  (hN0:X.N.Nodup) (hi0:X.N[i₀]?=some x₀) (hx0:X.env.scope.names.lookup x₀=some .local)
  (hsw:Za (.ListComp elt [⟨tg,iter,[],0⟩] scope pos) (some (.Name x₀ pos')) pos₀.line X.env=pure true)
  (hs:∀x,foldedSetIterable iter X.env x=pure x:=by intro _;rfl) :
  QS X (.Assign [.Name x₀ pos'] (.ListComp elt [⟨tg,iter,[],0⟩] scope pos) pos₀) (dF i₀ (dG ci g ce n caps)):=(xy hc hi hg he hclos hkind hnl hcell hcl hhas hcap hN hn hN0 hi0 hx0 hsw hs).imp fun D σ H hz=>wU hz fun m ρ S o ρ' S' sr lr hc post=>by
 obtain⟨⟨u,S1⟩,h1,h2⟩:=Q0.mp hc;cases h2;exact w6 _ _ _ ⟨m,ρ,S,u,_,sr,lr,h1,fun m1 v1 H1 e1 sr1 i1=>post m1 _ H1 e1 sr1 ((lr.mono e1).set i₀ i1)⟩
end
end OP
namespace OP
open PySem PySem.Spec PyProof PyProof.Rows L2 OG
variable{X:Cx}{K:Q1}
section
def kW:U->List U->Sto->Option (U×Sto)
 |.ref l,[.ref b],S=>match S[l]?,S[b]? with
  |some (.lst us),some (.lst vs)=>if us.length+vs.length<=LIM then some (.non,S.set l (.lst (us++vs)))else none
  |_,_=>none
 |_,_,_=>none
def De:MtP K zw kW:=by
 intro m S H x v us vs u S' Q sr ix i hf post;match x,us,hf with
 |.ref l,[.ref b],hf=>
  simp only[kW]at hf;split at hf<;>try cases hf
  rename_i xs0 ys0 hS hB;split at hf<;>try cases hf
  rename_i hl;obtain⟨a,ha,rfl⟩:=ix.of_ref;obtain⟨a',ha',xs,hx,la⟩:=sr.get hS;rw[ha]at ha';cases ha';obtain⟨y,rfl,iy⟩:=i.one;obtain⟨c,hc,rfl⟩:=iy.of_ref;obtain⟨c',hc',ys,hy,lb⟩:=sr.get hB;rw[hc]at hc';cases hc';have eu:Ext K m H m (upd H a (.lst (xs++ys))):=.of (sr.keep ha _);exact⟨a,c,xs,ys,rfl,rfl,hx,hy,lim (by rw[la.length,lb.length];exact hl),post m _ _ eu (sr.put ha ⟨_,aH,(la.append lb).mono eu⟩) .non_⟩
def pY:U->List U->Sto->Option (U×Sto)
 |.ref l,[.int i],S=>match S[l]? with
  |some (.lst us)=>if 0<=i/\i<us.length/\us.length<=LIM then(us[i.toNat]?).bind fun u=>some (u,S.set l (.lst (us.eraseIdx i.toNat)))else none
  |_=>none
 |_,_,_=>none
def Hi:MtP K EO pY:=by
 intro m S H x v us vs u S' Q sr ix i hf post;match x,us,hf with
 |.ref l,[.int k],hf=>
  simp only[pY]at hf;split at hf<;>try cases hf
  rename_i ws hS;split at hf<;>try cases hf
  rename_i hk;obtain⟨w,hw,h⟩:=Q0.mp hf;cases h;obtain⟨a,ha,rfl⟩:=ix.of_ref;obtain⟨a',ha',xs,hx,la⟩:=sr.get hS;rw[ha]at ha';cases ha';obtain⟨y,hy,iy⟩:=la.getD hw;obtain⟨z,rfl,iz⟩:=i.one;have eu:Ext K m H m (upd H a (.lst (xs.eraseIdx k.toNat))):=.of (sr.keep ha _);have hL:ws.length<=100000:=hk.2.2;exact⟨a,xs,k,k.toNat,y,rfl,by rw[iz.of_int],hx,by omega,by omega,seqIndex_of hk.1 (by rw[la.length];exact hk.2.1),hy,post m _ _ eu (sr.put ha ⟨_,aH,(la.erase _).mono eu⟩) (iy.mono eu)⟩
variable{e:QB}{es:List QB}{co:CE}{cr:CA}{o:QB}{apos cpos:Pos}
def CF (ho : QE X o co) (ha : QA X (e :: es) cr) (hbase : attributeBase o "extend" X.env (eval o X.env) = eval o X.env := by rfl) (hfew : ((ZD cpos (QJ (e :: es) X.env)).all (fun x => !x.1) && (backToKw cpos (keywordEach [] X.env)).all (fun x => x.1.isSome)
   && decide ((e::es).length+([]:List Keyword).length+(if ([]:List Keyword).isEmpty then 0 else 1)<30))=true:=by rfl) (hline:(apos.endLine == cpos.line)=true:=by rfl) (hs:QJ (e::es) X.env=(false,eval e X.env)::QJ es X.env:=by rfl) (hplain:(ZD cpos (QJ es X.env)).any (·.1)=false:=by rfl) :
  QE X (.Call (.Attribute o "extend" apos) (e::es) [] cpos) (cBM kW co cr):=(yP PySem.F.plainAttrs_list PySem.F.slot_list_extend PySem.F.type_list_extend z8 ho ha.h hbase hfew hline hs hplain).imp (Bq De)
def GN (ho : QE X o co) (ha : QA X (e :: es) cr) (hbase : attributeBase o "pop" X.env (eval o X.env) = eval o X.env := by rfl) (hfew : ((ZD cpos (QJ (e :: es) X.env)).all (fun x => !x.1) && (backToKw cpos (keywordEach [] X.env)).all (fun x => x.1.isSome)
   && decide ((e::es).length+([]:List Keyword).length+(if ([]:List Keyword).isEmpty then 0 else 1)<30))=true:=by rfl) (hline:(apos.endLine == cpos.line)=true:=by rfl) (hs:QJ (e::es) X.env=(false,eval e X.env)::QJ es X.env:=by rfl) (hplain:(ZD cpos (QJ es X.env)).any (·.1)=false:=by rfl) :
  QE X (.Call (.Attribute o "pop" apos) (e::es) [] cpos) (cBM pY co cr):=(yP PySem.F.plainAttrs_list PySem.F.slot_list_pop PySem.F.type_list_pop Dk ho ha.h hbase hfew hline hs hplain).imp (Bq Hi)
def Ek(bs:List Bool):(QF bs.length).any (fun i=>(bs[i]?).getD false)=bs.any id:=by
 rw[Zc,List.any_eq_true,List.any_eq_true];constructor;rintro⟨i,hi,h⟩;have hi':=ZN.mp hi;rw[QQ hi',ZP]at h;exact⟨_,List.getElem_mem hi',h⟩;rintro⟨b,hb,h⟩;obtain⟨i,hi,e⟩:=List.mem_iff_getElem.mp hb;refine⟨i,ZN.mpr hi,?_⟩;rw[QQ hi,ZP,e];exact h
def xf(hc:X.calm=true):gU X (.builtin "any") (fun xs H Q=>∃(p:Addr) (bs:List Bool),xs=[.ref p]/\SqL X.K H p (bs.map V.bl)/\Q (.bl (bs.any id)) H):=by
 intro pins s σ H xs us Q I r h;obtain⟨p,bs,rfl,hq,q⟩:=h;obtain⟨u,rfl,rx⟩:=mL r;cases rx;obtain⟨its,rv,pl,hz⟩:=I.list hq;have hlen:=rv.length;rw[Q9]at hlen;refine call_any_walk (wpAny_pyIter_list pl.isList ?_);have lt:p<s.heap.objs.size:=by obtain⟨o,e,_⟩:=pl.isList;exact QV e
 refine⟨s.heap.objs.size,_,_,_,_,_,fun i=>(bs[i]?).getD false,rfl,Walks.list (show X.A.in1.handled=none from I.ok.hd hc) s.heap.objs.size p (Qr lt) its.toArray,⟨⟨_,Qv _ rfl,rfl,rfl⟩,pl.isList.at fun o e=>Q6 _ e⟩,?_,fun h' tk hk=>?_⟩;intro i v s' Q' E' hP hQ;have hP':its.toArray[i]?=some v:=hP;obtain⟨b,e1,e2⟩:=uH rv (by simpa using hP');subst e2;dsimp only at hQ;rw[e1,ZP]at hQ;exact wpAny_truthy_bool hQ;have e:(QF its.toArray.size).any (fun i=>(bs[i]?).getD false)=bs.any id:=by
  rw[QR,<-hlen];exact Ek bs
 rw[e];exact⟨.bl (bs.any id),H,I.kept fun b o e=>hk b o (zZ e) (Q6 _ e),rfl,q⟩
def DV:Fn
 |[.ref l],S=>match S[l]? with
  |some (.lst us)=>(Io us).bind fun bs=>some (.bl (bs.any id),S)
  |_=>none
 |_,_=>none
def KU:mv K (fun xs H Q=>∃(p:Addr) (bs:List Bool),xs=[.ref p]/\SqL K H p (bs.map V.bl)/\Q (.bl (bs.any id)) H) DV:=by
 intro m S H us vs u S' Q sr i hf post;match us,hf with
 |[.ref l],hf=>
  obtain⟨v,rfl,iv⟩:=i.one;obtain⟨a,ha,rfl⟩:=iv.of_ref;simp only[DV]at hf;split at hf<;>try cases hf
  rename_i ws hS;obtain⟨bs,hb,h⟩:=Q0.mp hf;cases h;obtain⟨a',ha',xs,hx,la⟩:=sr.get hS;rw[ha]at ha';cases ha';rw[vz hb]at la;rw[la.bls]at hx;exact⟨a,bs,rfl,SqL.of hx,post m _ H .refl sr .bl_⟩
end
section
def Gr{e:QB}{t:TE}(h:WE X e t):WE X e (fun σ H Q=>t σ H fun v H'=>∃a ob kvs,BU X a/\H' a=some (.frz ob (.dK kvs))/\Q v (upd H' a (.dK kvs))):=
 ⟨fun pins s σ H Q I k=>thn (h.h pins s σ H _ I k) fun u s1 ⟨v,H1,I1,r1,a,ob,kvs,nf,e,q⟩=>⟨v,_,ke I1 nf e,r1,q⟩⟩
def Bm(ce:CE)(f:(Sto->Prop)->Nat->List U->Rho->Sto->Option Sto)(n:Nat)(caps:List Nat):CE:=fun ρ S=>(ce ρ S).bind fun p=>match p.1 with
 |.ref l=>match p.2[l]? with
  |some (.dic kus)=>uni fun ep=>(f (fun S'=>S'[l]?=some (.fdc ep kus)) p.2.length (kus.map fun q=>kU q.1) (qj n caps ρ) (p.2.set l (.fdc ep kus)++[.lst []])).bind fun S'=>match S'[l]? with
   |some (.fdc _ kus')=>some (.ref p.2.length,S'.set l (.dic kus'))
   |_=>none
  |_=>none
 |_=>none
def ju(ce:CE)(g:CG)(el:CE)(n:Nat)(caps:List Nat):CE:=Bm ce (fun ok l=>ic ok g el l) n caps
def yW{ce:CE}{f:(Sto->Prop)->Nat->List U->Rho->Sto->Option Sto}{n:Nat}{caps:List Nat}{G:It->Hp->L2.St->VK->Prop}
  (core:∀{J:It} {us:List U} {ok:Sto->Prop} {Q:VK} {m1:List Addr} {H1:Hp} {S1 S':Sto} {ρ:Rho} {σ:L2.St},Sr X.K m1 S1 H1->Lr X.K m1 H1 ρ σ->Et X.K J m1 H1 us ok->f ok S1.length us (qj n caps ρ) (S1++[.lst []])=some S'->
   (∀l,H1 l=none->∀m2 H2,Ext X.K (m1++[l]) (upd H1 l (.lst [])) m2 H2->Sr X.K m2 S' H2->Q (.ref l) H2)->G J H1 σ Q) :
  ∀σ H Q,tE X.K (Bm ce f n caps) σ H Q->HR X (tE X.K ce) σ H fun J H1=>G J H1 σ fun v H'=>∃a ob kvs,BU X a/\H' a=some (.frz ob (.dK kvs))/\Q v (upd H' a (.dK kvs)):=by
 rintro σ H Q ⟨m,ρ,S,u,S',sr,lr,hc,post⟩;obtain⟨⟨x,S1⟩,h1,h⟩:=Q0.mp hc;refine⟨m,ρ,S,x,S1,sr,lr,h1,fun m1 v1 H1 e1 sr1 i1=>?_⟩;cases x with
 |ref l=>
  simp only at h;split at h<;>try cases h
  rename_i kus hS;obtain⟨a,ha,rfl⟩:=i1.of_ref;obtain⟨a',ha',kvs,hx,ip⟩:=sr1.get hS;rw[ha]at ha';cases ha';refine⟨a,kvs,rfl,hx,fun ob es ep nf hd=>?_⟩;obtain⟨S2,h2,h3⟩:=Q0.mp (vX h ep);try simp only at h3
  split at h3<;>try cases h3
  rename_i ep' kus' hS2;have kp:BM X.K H1 (upd H1 a (.frz ob (.dK kvs))):=sr1.keep ha _;have ee:Ext X.K m1 H1 m1 (upd H1 a (.frz ob (.dK kvs))):=.of kp;have sr2:Sr X.K m1 (S1.set l (.fdc ep kus)) (upd H1 a (.frz ob (.dK kvs))):=sr1.put ha ⟨ob,es,kvs,aH,hd,ip.mono ee⟩;rw[ip.1];have hln:(S1.set l (.fdc ep kus)).length=S1.length:=by simp
  refine core sr2 (lr.mono (e1.trans ee)) (Ax ha) (by rw[hln];exact h2) fun p hp m3 H3 e3 sr3=>?_;have en:Ext X.K m1 (upd H1 a (.frz ob (.dK kvs))) (m1++[p]) (upd (upd H1 a (.frz ob (.dK kvs))) p (.lst [])):=.new (bO hp _);have e03:=en.trans e3;obtain⟨a3,ha3,ob3,es3,kvs3,hx3,hd3,ip3⟩:=sr3.get hS2;rw[e03.get ha]at ha3;cases ha3;have e4:Ext X.K m3 H3 m3 (upd H3 a (.dK kvs3)):=.of (sr3.keep (e03.get ha) _);refine⟨a,ob3,kvs3,nf,hx3,post m3 _ _ (((e1.trans ee).trans e03).trans e4) (sr3.put (e03.get ha) ⟨kvs3,aH,ip3.mono e4⟩) ?_⟩;have lg:(m1++[p])[S1.length]?=some p:=dW sr1.len;exact .ref_ (e3.get lg)
 |_=>cases h
variable{Nc capN tn:List Str}{scope:Zl}{cl:List (Str×Addr)}{n:Nat}{caps:List Nat}{tg iter elt:QB}{pos:Pos}{ci:CE}{g:CG}{ce:CE}
def zD(hc:X.calm=true)(hi:QE X iter ci)(hg:∀s3 H3 fp,WG (cxC X Nc scope cl s3 H3 fp) tg (tG X.K g))(he:∀s3 H3 fp,WE (cxC X Nc scope cl s3 H3 fp) elt (tE X.K ce))
  (hclos:closureFor scope X.env=pure cl) (hkind:scope.kind=.function) (hnl:∀x∈scope.names,x.2=.local->scope.names.lookup x.1=some .local) (hcell:∀x∈scope.names,x.2≠.cell)
  (hcl:xp X.env cl) (hhas:((relabel scope X.env).names.all fun p=>!(p.2 == .cell||p.2 == .free)||(cl.lookup p.1).isSome)=true)
  (hcap:Paired (Cap X scope cl) caps capN) (hN:Nc=tn++capN) (hn:tn.length=n)
  (hs:∀x,foldedSetIterable iter X.env x=pure x:=by intro _;rfl) :
  QE X (.ListComp elt [⟨tg,iter,[],0⟩] scope pos) (ju ci g ce n caps):=
 (Gr (vS hc (yU hi) hg he hclos hkind hnl hcell hcl hhas hcap hN hn hs)).imp (yW (G:=fun J H1 σ Q=>∀l,H1 l=none->∃W:Nat->Nat->L2.St->Hp->Prop,(∃m,W 0 m (OG.stC n caps σ) (upd H1 l (.lst [])))/\
  ∀i m σ' H2,W i m σ' H2->(J.stop i H2/\Q (.ref l) H2)\/(J.go i H2/\∃N:L2.St->Hp->Prop,(∀σ'' H',N σ'' H'->∃m',m'<m/\W (i+1) m' σ'' H')/\
  ∀x H3,J.yld i H2 x H3->tG X.K g x σ' H3 fun σ2 H4=>tE X.K ce σ2 H4 fun v H5=>∃ys,H5 l=some (.lst ys)/\ys.length<QD/\N σ2 (upd H5 l (.lst (ys++[v]))))) fun sr lr ito h2 post l hl=>uc sr lr ito hl h2 (post l hl))
end
end OP
namespace OP
open PySem PySem.Spec PyProof PyProof.Rows L2 OG PySem.W
section
variable{cmp:Nat->Nat->(Bool->Q3->Prop)->Q3->Prop}{s:Q3}{n:Nat}{lt:Nat->Nat->Bool}
structure PN(n:Nat)(lt:Nat->Nat->Bool):Prop where
 tr:∀{i j k},i<n->j<n->k<n->lt i j=true->lt j k=true->lt i k=true
 tot:∀{i j},i<n->j<n->i≠j->lt i j=false->lt j i=true
 asym:∀{i j},i<n->j<n->lt i j=true->lt j i=false
def Fz(cmp:Nat->Nat->(Bool->Q3->Prop)->Q3->Prop)(n:Nat)(lt:Nat->Nat->Bool)(s:Q3):Prop:=∀i j C,i<n->j<n->C (lt i j) s->cmp i j C s
structure Pm(n:Nat)(p:Array Nat):Prop where
 sz:p.size=n
 bd:∀i,i<n->p.getD i 0<n
 ne:∀i j,i<j->j<n->p.getD i 0≠p.getD j 0
def Asc(lt:Nat->Nat->Bool)(p:Array Nat)(k:Nat):Prop:=∀i j,i<j->j<k->lt (p.getD i 0) (p.getD j 0)=true
def Dsc(lt:Nat->Nat->Bool)(p:Array Nat)(k:Nat):Prop:=∀i j,i<j->j<k->lt (p.getD j 0) (p.getD i 0)=true
variable{p:Array Nat}
def Pm.ne'(P:Pm n p){i j:Nat}(hi:i<n)(hj:j<n)(h:i≠j):p.getD i 0≠p.getD j 0:=by
 rcases Nat.lt_or_gt_of_ne h with z|z;exact P.ne i j z hj;exact Ne.symm (P.ne j i z hi)
def Asc.snoc(O:PN n lt)(P:Pm n p){m:Nat}(h1:1<=m)(hm:m<n)(h:Asc lt p m)(h2:lt (p.getD (m-1) 0) (p.getD m 0)=true):Asc lt p (m+1):=fun i j hij hj=>by
 by_cases e:j=m;subst e;by_cases e2:i=j-1;subst e2;exact h2;exact O.tr (P.bd _ (by omega)) (P.bd _ (by omega)) (P.bd _ (by omega)) (h i (j-1) (by omega) (by omega)) h2;exact h i j hij (by omega)
def jH{p q:Array Nat}{i j:Nat}(h:p[i]?=q[j]?):p.getD i 0=q.getD j 0:=by
 rw[X6,X6,h]
def zu{m k:Nat}(hm:m<=p.size):(kas_rev p 0 m).getD k 0=if k<m then p.getD (m-1-k) 0 else p.getD k 0:=by
 unfold kas_rev;have h:=getElem?_mirror_all (i:=0) hm k;split;rename_i c;rw[X9 ⟨ZC _,c⟩]at h;exact jH (by rw[h];congr 1;omega);rename_i c;rw[XQ (by omega)]at h;exact jH h
def Dsc.rev{m:Nat}(P:Pm n p)(hm:m<=n)(h:Dsc lt p m):Asc lt (kas_rev p 0 m) m:=fun i j hij hj=>by
 rw[zu (by rw[P.sz];exact hm),zu (by rw[P.sz];exact hm),X9 (by omega),X9 hj];exact h _ _ (by omega) (by omega)
def k7{k l i:Nat}(hk:k<p.size)(hl:l<=k):(bubble p k (k-l)).getD i 0=if i=l then p.getD k 0 else if l<i/\i<=k then p.getD (i-1) 0 else p.getD i 0:=by
 have h:=getElem?_bubble hk (k-l) (by omega) i;rw[show k-(k-l)=l by omega]at h;by_cases c:i=l;rw[X9 c]at h ⊢;exact jH h;rw[XQ c]at h ⊢;by_cases d:l<i/\i<=k;rw[X9 d]at h ⊢;exact jH h;rw[XQ d]at h ⊢;exact jH h
def Pm.bub(P:Pm n p){k l:Nat}(hk:k<n)(hl:l<=k):Pm n (bubble p k (k-l)) where
 sz:=by rw[bubble_size];exact P.sz
 bd:=fun i hi=>by
  rw[k7 (by rw[P.sz];exact hk) hl];repeat' split
  all_goals exact P.bd _ (by omega)
 ne:=fun i j hij hj=>by
  rw[k7 (by rw[P.sz];exact hk) hl,k7 (by rw[P.sz];exact hk) hl];repeat' split
  all_goals first|(exfalso;omega)|exact P.ne' (by omega) (by omega) (by omega)
def Asc.bub(P:Pm n p){k l:Nat}(hk:k<n)(hl:l<=k)(h:Asc lt p k)(h1:∀i,i<l->lt (p.getD i 0) (p.getD k 0)=true)(h2:∀i,l<=i->i<k->lt (p.getD k 0) (p.getD i 0)=true):Asc lt (bubble p k (k-l)) (k+1):=fun i j hij hj=>by
 rw[k7 (by rw[P.sz];exact hk) hl,k7 (by rw[P.sz];exact hk) hl];repeat' split
 all_goals first|(exfalso;omega)|exact h1 _ (by omega)|exact h2 _ (by omega) (by omega)|exact h _ _ (by omega) (by omega)
def CY:Pm n (List.toArray (QF n)):=by
 have g:∀i,i<n->(List.toArray (QF n)).getD i 0=i:=fun i hi=>by simp[Array.getD,hi]
 exact⟨by simp,fun i hi=>by rw[g i hi];exact hi,fun i j hij hj=>by rw[g i (by omega),g j hj];omega⟩
end
end OP
namespace OP
open PySem PySem.Spec PyProof PyProof.Rows L2 OG
def FzT(H:Hp)(a:Addr)(ep:Nat)(ks:List (List Key)):Prop:=∃ob es kvs,H a=some (.frz ob (.dT kvs))/\ob.data=.dict es ep/\kvs.map (·.1)=ks
def Itt(a:Addr)(ep:Nat)(ks:List (List Key)):It:=
 ⟨fun i H=>i<ks.length/\FzT H a ep ks,fun i H x H'=>H'=H/\∃k p,ks[i]?=some k/\x=.ref p/\H p=some (.tup (k.map kV)),fun i H=>ks.length<=i/\FzT H a ep ks⟩
end OP
namespace OP
open PySem PySem.Spec PyProof PyProof.Rows L2 OG PySem.W
def uw(h:Heap)(v:Q2)(p:Int×Int):Prop:=∃b o t1 t2 e,v=Value.ref b/\h.get? b=some o/\o.cls=Value.type "tuple"/\o.data=Data.seq #[Value.int p.1 t1,Value.int p.2 t2] e
def ltP(p q:Int×Int):Bool:=decide (p.1<q.1\/p.1=q.1/\p.2<q.2)
section
variable{prog:Qx}{w:Z7}{A:Z9}{E:Q2->Q3->Prop}{s:Q3}
def pL{b:Bool}{x y:Int}{t u:Tok}{Q:Bool->Q3->Prop}(h:Q (decide (x<y)) s):wpAny (Qy prog w) A (oneLt' b (Value.int x t) (Value.int y u)) Q E s:=by
 cases b with
 |true=>exact oneLt_int h
 |false=>
  rw[oneLt'_eq];dsimp only;rw[XQ QZ];exact Q5 (wpAny_lt_int (wpAny_truthy_bool h))
def Hg{v v':Q2}{p p':Int×Int}{C:Bool->Q3->Prop}(h:uw s.heap v p)(h':uw s.heap v' p')(c:C (ltP p p') s):wpAny (Qy prog w) A (keyLt' (tuples' true) v v') C E s:=by
 obtain⟨b,o,t1,t2,e,rfl,g,_,d⟩:=h;obtain⟨b',o',t1',t2',e',rfl,g',_,d'⟩:=h';refine kat_lt g d g' d' (kat_cons (wpAny_eqBool_int ?_));by_cases e1:p.1=p'.1;rw[e1,beq_self_eq_true];refine kat_yes (kat_cons (wpAny_eqBool_int ?_));by_cases e2:p.2=p'.2;rw[e2,beq_self_eq_true];refine kat_yes (kat_nil ?_);have:ltP p p'=false:=by simp[ltP,e1,e2]
 rw[this]at c;exact c;rw[beq_eq_false_iff_ne.mpr e2];refine kat_no (pL ?_);have:ltP p p'=decide (p.2<p'.2):=by simp[ltP,e1]
 rw[this]at c;exact c;rw[beq_eq_false_iff_ne.mpr e1];refine kat_no (pL ?_);have:ltP p p'=decide (p.1<p'.1):=by simp[ltP,e1]
 rw[this]at c;exact c
def jQ(h:Heap):List Q2->List (Int×Int)->Prop
 |[],[]=>True
 |v::vs,p::ps=>uw h v p/\jQ h vs ps
 |_,_=>False
def sP{h:Heap}:∀{vs:List Q2} {ps:List (Int×Int)},jQ h vs ps->vs.length=ps.length
 |[],[],_=>rfl
 |_::_,_::_,k=>by rw[QK,QK,sP k.2]
 |[],_::_,k=>k.elim
 |_::_,[],k=>k.elim
def nM{h:Heap}:∀{vs:List Q2} {ps:List (Int×Int)} {i:Nat},jQ h vs ps->i<ps.length->uw h (vs.getD i Value.none) (ps.getD i (0,0))
 |[],[],_,_,k=>absurd k (Nat.not_lt_zero _)
 |_::_,_::_,0,k,_=>k.1
 |_::vs,_::ps,i+1,k,l=>by
  show uw h (vs.getD i Value.none) (ps.getD i (0,0));exact nM k.2 (by rw[QK]at l;omega)
 |[],_::_,_,k,_=>k.elim
 |_::_,[],_,k,_=>k.elim
def pK{h:Heap}:∀{vs:List Q2} {ps:List (Int×Int)},jQ h vs ps->∃fs,KatTups h vs fs/\fs.length=vs.length/\∀f∈fs,∃i t,f=Value.int i t
 |[],[],_=>⟨[],trivial,rfl,fun f hf=>by cases hf⟩
 |v::vs,p::ps,k=>by
  obtain⟨fs,h1,h2,h3⟩:=pK k.2;obtain⟨b,o,t1,t2,e,hv,g,c,d⟩:=k.1;refine⟨Value.int p.1 t1::fs,⟨⟨b,o,_,e,hv,g,c,d,rfl⟩,h1⟩,by rw[QK,QK,h2],fun f hf=>?_⟩;rcases Qz.mp hf with z|z;exact⟨_,_,z⟩;exact h3 f z
 |[],_::_,k=>k.elim
 |_::_,[],k=>k.elim
def xO{vs:List Q2}{ps:List (Int×Int)}{Q:SortKind->Q3->Prop}(h:jQ s.heap vs ps)(hn:0<vs.length)(q:Q (tuples' true) s):wpAny (Qy prog w) A (keyKind' vs.toArray) Q E s:=by
 obtain⟨fs,h1,h2,h3⟩:=pK h;refine kat_kind (T:=Value.type "int") h1 (by omega) (fun v hv A Q E s' _ q=>?_) (by decide +kernel) (by exact q);obtain⟨i,t,rfl⟩:=h3 v hv;exact wpAny_typeOf (typeIs_int s' i t) q
end
def sO{n:Nat}{q:Array Nat}(P:Pm n q):∀i∈q.toList,i<n:=fun i hi=>by
 obtain⟨j,hj,e⟩:=List.mem_iff_getElem.mp hi;have hj':j<q.size:=by simpa using hj
 have:=P.bd j (by rw[<-P.sz];exact hj');rw[X6,Array.getElem?_eq_getElem hj']at this;rw[Array.getElem_toList]at e;rw[<-e];exact this
def Na{ns:List Int}{i:Int}{S:Sto}:fIx (.kl ns) (.int i) S=(atI (ns.map U.int) i).bind fun u=>some (u,S):=rfl
def Ey{ns:List Int}{S:Sto}:jI [.kl ns] S=some (.int ns.length,S):=rfl
section
variable{X:Cx}{K:Q1}
def jJ{κ α:Type}[DecidableEq κ](kus:List (κ×α))(k:κ):List (κ×α):=kus.filter fun p=>decide (p.1≠k)
def IsP.dropP{m:List Addr}{H:Hp}{kvs:List (Key×V)}{kus:List (Key×U)}{k:Key}(h:IsP K m H kvs kus):IsP K m H (qZ kvs k) (jJ kus k):=by
 refine IsP.ind (P:=fun kvs kus=>IsP K m H (qZ kvs k) (jJ kus k)) .nil_ (fun k' v u kvs kus i _ ih=>?_) h;unfold qZ jJ at ih ⊢;by_cases e:k'=k;rw[List.filter_cons_of_neg (by simp[e]),List.filter_cons_of_neg (by simp[e])];exact ih;rw[List.filter_cons_of_pos (by simp[e]),List.filter_cons_of_pos (by simp[e])];exact .cons_ i ih
def H0:U->U->Sto->Option (U×Sto):=fun x y S=>match x with
 |.ref l=>match S[l]? with
  |some (.dic kus)=>(oG y).bind fun k=>(bC kus k).bind fun u=>some (u,S.set l (.dic (jJ kus k)))
  |_=>none
 |_=>none
def Bo(co ck:CE):CE:=fun ρ S=>(co ρ S).bind fun p=>match p.1 with
 |.ref l=>match p.2[l]? with
  |some (.dic _)=>(ck ρ p.2).bind fun q=>H0 p.1 q.1 q.2
  |_=>none
 |_=>none
def Kd{o e:QB}{co ck:CE}{apos cpos:Pos}(ho:QE X o co)(he:QE X e ck)(m1:M1 X o "pop" apos e cpos):QE X (.Call (.Attribute o "pop" apos) [e] [] cpos) (Bo co ck):=
 (yK ho he m1).imp fun σ H Q hz=>oa hz fun m ρ S u S' sr lr hc post=>by
 obtain⟨⟨x,S1⟩,h1,h⟩:=Q0.mp hc;refine⟨m,ρ,S,_,S1,sr,lr,h1,fun m1 v1 H1 e1 sr1 i1=>?_⟩;cases x with
 |ref l=>
  simp only at h;split at h<;>try cases h
  rename_i kus0 hS0;obtain⟨⟨y,S2⟩,h3,h4⟩:=Q0.mp h;obtain⟨a,ha,rfl⟩:=i1.of_ref;obtain⟨a0,ha0,kvs0,hx0,ip0⟩:=sr1.get hS0;rw[ha]at ha0;cases ha0;refine⟨a,rfl,.inl ⟨kvs0,.inl hx0⟩,m1,ρ,S1,_,S2,sr1,lr.mono e1,h3,fun m2 v2 H2 e2 sr2 i2=>?_⟩;simp only[H0]at h4;split at h4<;>try cases h4
  rename_i kus hS;obtain⟨k,hk,h5⟩:=Q0.mp h4;obtain⟨w,hw,h6⟩:=Q0.mp h5;cases h6;obtain⟨a',ha',kvs,hx,ip⟩:=sr2.get hS;rw[e2.get ha]at ha';cases ha';have ek:=jE i2 hk;have rf:=IsP.val (k:=k) ip;rw[hw]at rf;cases hv:jg kvs k with
  |none=>rw[hv]at rf;exact rf.elim
  |some z=>
   rw[hv]at rf;have ee:Ext X.K m2 H2 m2 (upd H2 a (.dK (qZ kvs k))):=.of (sr2.keep (e2.get ha) _);exact⟨kvs,k,z,hx,ek,hv,post m2 _ _ ((e1.trans e2).trans ee) (sr2.put (e2.get ha) ⟨_,aH,ip.dropP.mono ee⟩) (Is.mono ee rf)⟩
 |_=>cases h
def rk(c1 c2:CE):CE:=fun ρ S=>match c1 ρ S with
 |some r=>some r
 |none=>c2 ρ S
def CH{e:QB}{c1 c2:CE}(h1:QE X e c1)(h2:QE X e c2):QE X e (rk c1 c2):=
 (h1.or h2).imp fun σ H Q hz=>oa hz fun m ρ S u S' sr lr hc post=>by
 unfold rk at hc;split at hc;rename_i r hr;cases hc;exact .inl ⟨m,ρ,S,u,S',sr,lr,hr,post⟩;exact .inr ⟨m,ρ,S,u,S',sr,lr,hc,post⟩
end
end OP
namespace OP
open PySem PySem.Spec PyProof.Rows L2 OG
section
variable{P:Qx}{w:Z7}{K:Q1}{h base:Heap}{mg:Str->Option Q2}{x q:Str}{st:Z0}{f C:Addr}{oc:Q2}{od an:Option Addr}{osl:Array (Option Q2)}{kV doc pm cdv ct:Q2}{ps N:List Str}{k:Nat}{c:CS}{cl:Cl}
def PQ(K:Q1)(x q:Str)(st:Z0)(f:Addr):Prop:=∃fd,Fun K x q st f fd
abbrev fAt(x q:Str)(st:Z0)(oc:Q2)(od an:Option Addr)(osl:Array (Option Q2))(kV doc pm cdv ct:Q2):Obj:=⟨oc,od,.func (PySem.W.fnOf x q (gK st) (bF st) (ax st) .none kV doc pm an cdv ct),osl⟩
def Mb(K:Q1)(x:Str)(st:Z0):Prop:=∃f,PySem.W.nsIn K mainGlobals x=some (some (.ref f))/\PQ K x x st f
def Qm(a:PySem.W.nsIn K mainGlobals x=some (some (.ref f)))(l:K.lookup f=some (fAt x x st oc od an osl kV doc pm cdv ct))(c:PySem.W.codeIn K cdv x=true)(k:PySem.W.keepIn K (.ref f)=true):Mb K x st:=⟨f,a,_,E4 l c k⟩
def Ma(K:Q1):List (Str×Z0)->Prop
 |[]=>True
 |(x,st)::r=>Mb K x st/\Ma K r
def L6(K:Q1)(C:Addr)(x q:Str)(st:Z0):Prop:=∃f,PySem.W.findIn K (.ref C) x=some (some (.ref f))/\PySem.W.isFn K (.ref f)=true/\PQ K x q st f
def Lc(a:PySem.W.findIn K (.ref C) x=some (some (.ref f)))(i:PySem.W.isFn K (.ref f)=true)(l:K.lookup f=some (fAt x q st oc od an osl kV doc pm cdv ct))(c:PySem.W.codeIn K cdv q=true)(k:PySem.W.keepIn K (.ref f)=true):L6 K C x q st:=⟨f,a,i,_,E4 l c k⟩
def L5(K:Q1)(C:Addr):List (Str×Str×Z0)->Prop
 |[]=>True
 |(x,q,st)::r=>L6 K C x q st/\L5 K C r
def L4(K:Q1)(C:Addr):List Str->Prop
 |[]=>True
 |x::r=>PySem.W.findIn K (.ref C) x=some none/\L4 K C r
def MD(K:Q1):List Str->Prop
 |[]=>True
 |x::r=>PySem.W.nsIn K mainGlobals x=some none/\MD K r
structure BN(K:Q1)(x:Str)(C:Addr)(ns:List Str)(ms:List (Str×Str×Z0)):Prop where
 a:PySem.W.nsIn K mainGlobals x=some (some (.ref C))
 pg:PySem.W.plainGet K C Str.empty=true
 hd:PySem.W.hasDictIn K C=true
 po:PySem.W.plainOver K C=true
 sa:PySem.W.findIn K (.ref C) "__setattr__"=some (some (.builtin "object.__setattr__"))
 mc:PySem.W.makesIn K C=true
 kc:PySem.W.keepIn K (.ref C)=true
 nf:L4 K C ns
 ms:L5 K C ms
def L4.nas:∀{ns:List Str},L4 K C ns->∀f∈ns,PySem.W.findIn K (.ref C) f=some none
 |[],_,f,h=>by cases h
 |x::r,h,f,hf=>by
  rcases Qz.mp hf with rfl|z;exact h.1;exact L4.nas h.2 f z
def BN.tc{ns:List Str}{ms:List (Str×Str×Z0)}(h:BN K x C ns ms):TC K (⟨C,ns⟩:Cl) ns:=⟨⟨h.pg,h.hd,h.po,h.sa⟩,rfl,fun f hf=>h.nf.nas f hf⟩
abbrev Bd(x q:Str)(st:Z0)(ps:List Str):Prop:=∀us:List Q2,us.length=ps.length->∀(kV doc pm:Q2) (an:Option Addr) (cdv ct:Q2),bindArgs (PySem.W.fnOf x q (gK st) (bF st) (ax st) .none kV doc pm an cdv ct) ⟨us,[]⟩=pure (ps.zip us)
def Mb.df(d:Mb K x st)(X:K.In h)(G:h.Ns mainGlobals mg)(b:Bd x x st ps:=by first|exact IM fun _ _ _ _ _ _=>rfl|(repeat (first|exact IM fun _ _ _ _ _ _=>rfl|refine OX fun _=>?_))):Def K mg x st ps:=by
 obtain⟨f,a,fd,F⟩:=d;exact⟨f,fd,F,F.binds fun kV doc pm an cdv ct us hl=>b us hl kV doc pm an cdv ct,PySem.W.mg_of X G a⟩
def MtD(K:Q1)(C:Addr)(x q:Str)(st:Z0)(ps:List Str):Prop:=∃fa fd,Fun K x q st fa fd/\gW K fd ps []/\Iy K C x fa
def L6.mt(d:L6 K C x q st)(b:Bd x q st ps:=by first|exact IM fun _ _ _ _ _ _=>rfl|(repeat (first|exact IM fun _ _ _ _ _ _=>rfl|refine OX fun _=>?_))):MtD K C x q st ps:=by
 obtain⟨f,a,i,fd,F⟩:=d;exact⟨f,fd,F,F.binds fun kV doc pm an cdv ct us hl=>b us hl kV doc pm an cdv ct,a,i,F.kp⟩
def MtD.pure(d:MtD K cl.C x q st ps)(S:bU N ps (ax st))
  (hb:∀(f:Addr) (cdv:Q2) (A:Z9) (outer:List Env) (s:Q3) (H:Hp) (E:XK),eC k (A.deeper (envOfC q (ax st) s.heap.objs.size f cdv))->WSs (mr CX0 P w K mg base N q (ax st) f cdv A outer s H E).nox (bF st) (tS K c)) :
  uC P w K mg base cl x (k+1) ps (fnU N.length ps.length c):=by
 obtain⟨fa,fd,F,b,m⟩:=d;exact⟨fa,fd,m,F.pure S (hb fa),b⟩
def MkD(K:Q1)(mg:Str->Option Q2)(C:Addr)(x q:Str)(st:Z0)(ps:List Str):Prop:=∃fa fd,Fun K "__init__" q st fa fd/\gW K fd ps []/\Mk K C fa/\mg x=some (.ref C)
def BN.mkd{ns:List Str}{ms:List (Str×Str×Z0)}(h0:BN K x C ns ms)(d:L6 K C "__init__" q st)(X:K.In h)(G:h.Ns mainGlobals mg)(b:Bd "__init__" q st ps:=by first|exact IM fun _ _ _ _ _ _=>rfl|(repeat (first|exact IM fun _ _ _ _ _ _=>rfl|refine OX fun _=>?_))):MkD K mg C x q st ps:=by
 obtain⟨f,a,i,fd,F⟩:=d;exact⟨f,fd,F,F.binds fun kV doc pm an cdv ct us hl=>b us hl kV doc pm an cdv ct,⟨h0.mc,a,i,h0.kc⟩,PySem.W.mg_of X G h0.a⟩
def MkD.pure{NS:List Str}(d:MkD K mg cl.C x q st ps)(T:TC K cl NS)(S:bU N ps (ax st))
  (hb:∀(f:Addr) (cdv:Q2) (A:Z9) (outer:List Env) (s:Q3) (H:Hp) (E:XK),eC k (A.deeper (envOfC q (ax st) s.heap.objs.size f cdv))->WSs (mr CX0 P w K mg base N q (ax st) f cdv A outer s H E).nox (bF st) (tS K c))
  (nd:NS.Nodup:=by decide +kernel) (few:NS.length<1000:=by decide):CMk P w K mg base cl x (k+1) ps (fnU N.length ps.length c):=by
 obtain⟨fa,fd,F,b,m,g⟩:=d;exact⟨⟨fa,fd,m,F.pure S (hb fa),b,g⟩,by rw[T.ns];exact nd,by rw[T.ns];exact few⟩
def PL:List Str:=["len","isinstance","int","bool","str","tuple","list","range","min","sum","all","zip","sorted","dict","enumerate","any","max","set"]
def MD.blt(z:MD K PL)(X:K.In h)(G:h.Ns mainGlobals mg):Blt mg:=by
 obtain⟨a,b,c,d,e,f,g,i,j,k,l,m,n,o,p,q,r,s,-⟩:=z;constructor<;>(refine PySem.W.mg_none_of X G ?_;assumption)
end
end OP
namespace OG
open PySem PySem.Spec PyProof.Rows L2
def LM(qual:Str)(scope:Zl)(L f:Addr)(cd:Q2)(cl:List (Str×Addr)):Env:=newEnv scope L mainGlobals cl (qual++".<locals>.") (some f) cd none builtinsNs
def cxL(P:Qx)(w:Z7)(K:Q1)(mg:Str->Option Q2)(base:Heap)(N:List Str)(qual:Str)(scope:Zl)(f:Addr)(cd:Q2)(cl:List (Str×Addr))(A:Z9)(outer:List Env)(s:Q3)(H:Hp):Cx where
 prog:=P
 w:=w
 K:=K
 mg:=mg
 base:=base
 A:=A.deeper (LM qual scope s.heap.objs.size f cd cl)
 N:=N
 s₀:=s
 H₀:=H
 env:=LM qual scope s.heap.objs.size f cd cl
 outer:=outer
 stack:=LM qual scope s.heap.objs.size f cd cl::outer
 ex:=[]
 calm:=true
 fn:=fun _=>false
 pn:=[]
 xe:=fun _ _=>False
structure ME(scope:Zl)(cl:List (Str×Addr))(h:Heap)(H:Hp)(x:Str)(v:V):Prop where
 ex:scope.names.lookup x=some .free/\∃c u,cl.lookup x=some c/\h.IsCell c (some u)/\cI v u
variable{s:Q3}{H:Hp}
section
variable{P:Qx}{w:Z7}{K:Q1}{mg:Str->Option Q2}{base:Heap}{p:Str}{capN:List Str}{qual name:Str}{scope:Zl}{f:Addr}{cl:List (Str×Addr)}{A:Z9}{outer:List Env}{v:V}{vc:List V}{u cd:Q2}
def HN{h1:Heap}{t':Nat}(e0:vK P w K mg base A outer s H)(hd:A.handled=none)(hkind:scope.kind=.function)(hp:scope.names.lookup p=some .local)(r:cI v u)
  (hinj:∀x y c,cl.lookup x=some c->cl.lookup y=some c->x=y) (hhas:∀x,(scope.names.lookup x=some .cell\/scope.names.lookup x=some .free)->∃c,cl.lookup x=some c)
  (hcl:∀x c,cl.lookup x=some c->(∃u,s.heap.IsCell c u)/\H c=none)
  (hcap:Paired (fun x v=>ME scope cl s.heap H x v) capN vc)
  (hns:h1.Ns s.heap.objs.size (fun x=>([(p,u)]:List (Str×Q2)).reverse.lookup x)) (hk:∀b o,s.heap.get? b=some o->h1.get? b=some o) :
  Inv (cxL P w K mg base (p::capN) qual scope f cd cl A outer s H) [] (some v::vc.map some) H { s with heap:=h1,toks:=t' }:=by
 have noA:∀b:Addr,b∉(cxL P w K mg base (p::capN) qual scope f cd cl A outer s H).ex:=fun b z=>absurd (show b∈([]:List Addr)from z) (by simp);have cellK:∀c v,s.heap.IsCell c v->h1.IsCell c v:=fun c v ⟨o,ho,hd⟩=>⟨o,hk _ _ ho,hd⟩;refine⟨⟨e0.mod,hkind,rfl,rfl,Q7 _,hinj,hhas,fun y c z=>(nomatch z),fun _=>hd,Around.frames_deeper e0.frames,.inr ⟨rfl,rfl⟩,fun b z=>absurd z (noA b),e0.bs,e0.bsz,fun b _ _=>noA b,fun b z=>absurd z (noA b),e0.funs,e0.frf⟩,
  rfl,e0.bare,Un.kept hk,⟨_,hns,fun i y v' h1' h2 h3=>?_⟩,fun y c h=>?_,e0.hok.fresh (Q7 _),fun y c h=>(hcl y c h).2,fun p hp=>absurd (show p∈([]:List (Addr×Obj))from hp) (by simp),e0.hok.kept hk,?_⟩
 cases i with
 |zero=>
  have e1:p=y:=by simpa [cxL] using h1'
  have e2:v=v':=by simpa using h2
  subst e1;subst e2;exact⟨u,r,.inl ⟨hp,by simp⟩⟩
 |succ i=>
  have e1:capN[i]?=some y:=by simpa [cxL] using h1'
  have e2:vc[i]?=some v':=by
   simp only[ZO,QL]at h2;cases q:vc[i]? with
   |none=>rw[q]at h2;cases h2
   |some z=>rw[q]at h2;cases h2;rfl
  have get:∀{l1:List Str} {l2:List V} {i:Nat},Paired (fun x v=>ME scope cl s.heap H x v) l1 l2->l1[i]?=some y->l2[i]?=some v'->ME scope cl s.heap H y v':=by
   intro l1 l2 i hq;induction hq generalizing i with
   |nil=>intro z;simp at z
   |cons a b ih=>cases i with
    |zero=>intro z1 z2;simp at z1 z2;subst z1;subst z2;exact a
    |succ i=>intro z1 z2;exact ih (by simpa using z1) (by simpa using z2)
  obtain⟨k1,c,u1,k2,k3,k4⟩:=(get hcap e1 e2).ex;exact⟨u1,k4,.inr ⟨.inr k1,c,k2,cellK _ _ k3⟩⟩
 obtain⟨z,q⟩:=(hcl y c h).1;exact⟨z,cellK _ _ q⟩;show(some v::vc.map some).length=(p::capN).length;have:=hcap.length;simp only[QK,Q9];omega
def Hz{c:Addr}{pm ctv:Q2}{params:Arguments}{body:PySem.Expr}{te:TE}{Q:VK}(hroom:A.depth<recursionLimit)(e0:vK P w K mg base A outer s H)(hd:A.handled=none)
  (ho:s.heap.get? f=some (PySem.W.kla_obj name qual params body scope cl pm c ctv)) (hcd:s.heap.CodeRec (.ref c) qual) (hco:scope.isCoroutine=false) (hgen:scope.isGenerator=false) (hkind:scope.kind=.function)
  (hcell:∀x∈scope.names,x.2≠.cell) (hp:scope.names.lookup p=some .local) (hbind:bindArgs (PySem.W.kla_fn name qual params body scope cl pm (.ref c) ctv) ⟨[u],[]⟩=pure [(p,u)]) (r:cI v u)
  (hinj:∀x y c,cl.lookup x=some c->cl.lookup y=some c->x=y) (hhas:∀x,(scope.names.lookup x=some .cell\/scope.names.lookup x=some .free)->∃c,cl.lookup x=some c)
  (hcl:∀x c,cl.lookup x=some c->(∃u,s.heap.IsCell c u)/\H c=none) (hcap:Paired (fun x v=>ME scope cl s.heap H x v) capN vc)
  (hb:WE (cxL P w K mg base (p::capN) qual scope f (.ref c) cl A outer s H) body te) (hq:te (some v::vc.map some) H Q) :
  codeAny (Qy P w) A (.call (.ref f) ⟨[u],[]⟩) (fun r s'=>∃u',r=.ok (.ret u')/\CE outer P w H s Q u' s') s:=by
 have lim:s.heap.NoLimit:=e0.mod.nolimit.keeps fun b o e=>(e0.bs b o e).1;refine PySem.W.kla_callFunE hroom ho rfl hco hgen rfl hcd ?_;rw[hbind];refine Qq (wpAny_newFunctionEnv hcell (fun x hx=>(show x=(p,u)by simpa using hx)▸hp) (fun h₁ hns hsb=>?_) hkind);have hk₁:∀b o,s.heap.get? b=some o->h₁.get? b=some o:=fun b o e=>hsb.extBut b o (Qr (QV e)) (Q6 _ e);refine⟨lim.keeps hk₁,?_⟩;show codeAny _ _ (.expr body (LM qual scope s.heap.objs.size f (.ref c) cl)) _ _;refine PySem.W.kla_codeExpr (ZT (hb.h [] _ _ H Q (HN e0 hd hkind hp r hinj hhas hcl hcap hns hk₁) hq) (fun u' s' h=>?_) fun _ _ z=>z.elim);obtain⟨v',H',I',rv,q⟩:=h;exact⟨u',rfl,v',H',I'.os,I'.bare,I'.base,I'.hok,rv,q⟩
end
def BP(mg:Str->Option Q2)(base:Heap):Prop:=∃bm ob,mg "__builtins__"=some (.ref bm)/\bm≠builtinsNs/\base.get? bm=some ob/\ob.cls=.type "module"/\ob.dict=some builtinsNs/\ob.data=.plain
section
variable{X:Cx}{pins:List (Addr×Obj)}{σ:L2.St}
def _root_.L2.Inv.tab{h':Heap}{t':Nat}{p:Addr}{ps more:Array Q2}(I:Inv X pins σ H s)(hp:H p=some (.tbl ps))(k:Heap.ExtBut p s.heap h')(e:h'.get? p=some { cls:=.none,data:=.fields (ps++more) }) :
  Inv X pins σ (upd H p (.tbl (ps++more))) { s with heap:=h',toks:=t' }:=by
 have np:∀b u,H b=some u->u≠.tbl ps->b≠p:=fun b u q d z=>by subst z;rw[hp]at q;cases q;exact d rfl
 have nf:∀b,H b=none->b≠p:=fun b q z=>by subst z;rw[hp]at q;cases q
 refine I.un ⟨fun b o q n _ _=>k b o (nf b n) q,fun b o q n _ _=>⟨o.slots,k b o (nf b n) q⟩,fun b o q n _=>by rw[aI (nf b n)];exact n,fun b o q _=>?_,fun b xs q=>by rw[aI (np b _ q (by simp))];exact q,fun b o u q=>by rw[aI (np b _ q (by simp))];exact q,fun b ps' q=>?_⟩ fun b u q=>?_;by_cases z:b=p;subst z;exact⟨_,e⟩;exact⟨o,k b o z q⟩;by_cases z:b=p;subst z;rw[hp]at q;cases q;exact⟨more,aH⟩;exact⟨#[],by rw[aI z,q];simp⟩;by_cases z:b=p;subst z;rw[aH]at q;cases q;exact e;rw[aI z]at q;refine(I.hok b u q).stay (fun c o hc q2=>k c o ?_ q2) (fun c q2=>by rw[aI (np c _ q2 (by simp))];exact q2) fun c xs q2=>by rw[aI (np c _ q2 (by simp))];exact q2
 rcases hc with rfl|hc;exact z;exact np c _ hc (by simp)
def _root_.L2.Inv.adopt{c:Addr}{u:HO}(I:Inv X pins σ H s)(new:eF X.prog X.w (upd H c u) s.heap c u)(n:H c=none)(h0:X.s₀.heap.objs.size<=c)(hL:c≠X.env.locals)(hc:∀x d,X.env.cells.lookup x=some d->d≠c)(hp:∀q∈X.pn++pins,q.1≠c) :
  Inv X pins σ (upd H c u) s:=by
 have ne:∀b u,H b=some u->b≠c:=fun b u q z=>by subst z;rw[n]at q;cases q
 have neS:∀b ob,X.s₀.heap.get? b=some ob->b≠c:=fun b ob q z=>absurd (QM (QV q) h0) (by rw[z];exact Zr _);refine⟨I.ok,I.os,I.bare,⟨I.base.keep,I.base.slot,fun b ob q m hx=>by rw[aI (neS b ob q)];exact I.base.free b ob q m hx,I.base.there,fun b xs q=>?_,fun b ob xs q=>?_,fun b ps q=>?_⟩,I.loc,I.cell,by rw[aI (Ne.symm hL)];exact I.free,fun x d q=>by rw[aI (hc x d q)];exact I.freeC x d q,fun q hq=>?_,fun b u q=>?_,I.len⟩;have:=I.base.tups b xs q;rw[aI (ne _ _ this)];exact this;have:=I.base.frzs b ob xs q;rw[aI (ne _ _ this)];exact this;obtain⟨m,e⟩:=I.base.tbls b ps q;exact⟨m,by rw[aI (ne _ _ e)];exact e⟩;obtain⟨e1,e2,e3⟩:=I.pin q hq;exact⟨e1,by rw[aI (hp q hq)];exact e2,e3⟩;by_cases z:b=c;subst z;rw[aH]at q;cases q;exact new;rw[aI z]at q;exact(I.hok b u q).stay (fun _ _ _ q2=>q2) (fun d q2=>by rw[aI (ne _ _ q2)];exact q2) fun d xs q2=>by rw[aI (ne _ _ q2)];exact q2
def Dx{c p:Addr}{ps:Array Q2}{name qual:Str}{params:Arguments}{body:PySem.Expr}{scope:Zl}{cl:List (Str×Addr)}{pos:Pos}{fl:Nat}{Q:Q2->Q3->Prop}(I:Inv X pins σ H s)(hc:X.env.code=.ref c)(C:PySem.W.CodeHd X.base c p)(B:BP X.mg X.base)
  (hp:H p=some (.tbl ps)) (ht:TriplesOk ps.toList) (hcl:closureFor scope X.env=pure cl)
  (hit:codeAmong pos ps.toList=none\/∃c' ob vs t,codeAmong pos ps.toList=some (.ref c')/\H c'=some (.frz ob (.own 0))/\ob.data=.fields vs/\vs[1]?=some (.str qual t))
  (q:∀(f c':Addr) (pm ctv:Q2) (ps':Array Q2) (H':Hp) (s':Q3),Inv X pins σ H' s'->s.heap.objs.size<=f->H' f=none->s'.heap.get? f=some (PySem.W.kla_obj name qual params body scope cl pm c' ctv)->s'.heap.CodeRec (.ref c') qual->
   (∀b o,b≠p->s.heap.get? b=some o->s'.heap.get? b=some o)->H' p=some (.tbl ps')->TriplesOk ps'.toList->(∃ob vs t,codeAmong pos ps'.toList=some (.ref c')/\H' c'=some (.frz ob (.own 0))/\ob.data=.fields vs/\vs[1]?=some (.str qual t))->(∀b,b≠p->b≠c'->H' b=H b)->(H c'=none\/H'=H)->Q (.ref f) s') :
  wpAny (Qy X.prog X.w) X.A (makeFunction name qual params (.expr body) scope X.env [] [] [] pos fl) Q X.xe s:=by
 have gp:s.heap.get? p=some (PySem.W.tabObj ps):=I.hok p _ hp;obtain⟨bm,ob,b1,b2,b3,b4,b5,b6⟩:=B;have hg:=I.mod.glob.keeps I.bk;have hbp:bm≠p:=fun z=>by
  have:=I.bk _ _ b3;rw[z,gp]at this;cases this;cases b4
 have hgp:mainGlobals≠p:=fun z=>by
  obtain⟨o,es,ep,e,d,_⟩:=hg;rw[z,gp]at e;cases e;cases d
 have hbG:bm≠mainGlobals:=fun z=>by
  obtain⟨o,es,ep,e,d,_⟩:=I.mod.glob;rw[z,e]at b3;cases b3;rw[d]at b6;cases b6
 have hB:s.heap.BuiltinsAt X.mg p:=⟨bm,ob,b1,b2,hbG,hbp,I.bk _ _ b3,b4,b5,b6⟩;have lk:∀x d,X.env.cells.lookup x=some d->d<s.heap.objs.size:=fun x d e=>by
  obtain⟨v,o,ho,_⟩:=I.cell x d e;exact QV ho
 have C':PySem.W.CodeHd s.heap c p:=C.keeps I.bk;rcases hit with hn|⟨c',oc,vs,t,hf,h2,h3,h4⟩;refine PySem.W.kla_makeFunction (mg:=X.mg) hcl I.ok.glob hg hc C' gp ht hn hgp hB fun c' ctv h' tk hx hge hlt hrec htb=>?_;obtain⟨c2,oc,vs,t,e2,hoc,hd,hv⟩:=hrec;cases e2;have I1:=I.tab (t':=tk) hp hx htb;have ncp:c'≠p:=fun z=>by
  have:=QV gp;rw[<-z]at this;exact absurd hge (Nat.not_le.mpr this)
 have n1:(upd H p (.tbl (ps++#[rawInt pos.line,rawInt pos.col,.ref c']))) c'=none:=by rw[aI ncp];exact I.hok.fresh hge
 have I2:=I1.adopt (c:=c') (u:=.frz oc (.own 0)) ⟨hoc,oc,hoc⟩ n1 (ZQ I.sz hge) (Nat.ne_of_gt (QM I.lt hge)) (fun x d e=>Qr (QM (lk x d e) hge)) (fun q hq=>Qr (QM (QV (I.pin q hq).1) hge));have I3:=I2.kept (h':=h'.push (PySem.W.kla_obj name qual params body scope cl ((X.mg "__name__").getD .none) c' ctv)) (t':=tk) fun b o e=>Q6 _ e;refine q h'.objs.size c' _ ctv _ _ _ I3 (Nat.le_of_lt (Nat.lt_of_le_of_lt hge hlt)) ?_ (Qv _ rfl) ⟨c',oc,vs,t,rfl,Q6 _ hoc,hd,hv⟩ (fun b o nb e=>Q6 _ (hx b o nb e)) (by rw[aI (Ne.symm ncp)];exact aH) ?_ ⟨oc,vs,t,?_,aH,hd,hv⟩ (fun b n1 n2=>by rw[aI n2,aI n1]) (.inl (I.hok.fresh hge));exact I2.hok.fresh (Q7 _);rw[Array.toList_append];exact TriplesOk_snoc _ _ _ _ ht;rw[Array.toList_append];exact codeAmong_snoc _ ht hn;refine PySem.W.kla_makeFunctionHit (mg:=X.mg) hcl I.ok.glob hg hc C' gp ht hf hB fun ctv h' tk hk hsz=>?_;have I1:=I.kept (h':=h') (t':=tk) hk;have I3:=I1.kept (h':=h'.push { cls:=.type "function",data:=.func (PySem.W.kla_fn name qual params body scope cl ((X.mg "__name__").getD .none) (.ref c') ctv) }) (t':=tk) fun b o e=>Q6 _ e;obtain⟨g1,_⟩:=I3.hok c' _ h2;exact q h'.objs.size c' _ ctv ps H _ I3 hsz (I1.hok.fresh (Q7 _)) (Qv _ rfl) ⟨c',oc,vs,t,rfl,g1,h3,h4⟩ (fun b o nb e=>Q6 _ (hk b o e)) hp ht ⟨oc,vs,t,hf,h2,h3,h4⟩ (fun _ _ _=>rfl) (.inr rfl)
end
end OG
namespace OP
open PySem PySem.Spec PyProof PyProof.Rows L2 OG PySem.W
structure uu(n:Nat)(lt:Nat->Nat->Bool):Prop where
 asym:∀{i j},i<n->j<n->lt i j=true->lt j i=false
 co:∀{i j k},i<n->j<n->k<n->lt i k=true->lt i j=true\/lt j k=true
def ltS(lt:Nat->Nat->Bool)(i j:Nat):Bool:=lt i j||(!lt j i&&decide (i<j))
variable{s:Q3}
section
variable{cmp:Nat->Nat->(Bool->Q3->Prop)->Q3->Prop}{n:Nat}{lt:Nat->Nat->Bool}{p:Array Nat}
def uu.tr(W:uu n lt){i j k:Nat}(hi:i<n)(hj:j<n)(hk:k<n)(h1:lt i j=true)(h2:lt j k=true):lt i k=true:=by
 rcases W.co hi hk hj h1 with h|h;exact h;rw[W.asym hj hk h2]at h;cases h
def dU{i j:Nat}:ltS lt i j=true↔lt i j=true\/lt j i=false/\i<j:=by unfold ltS;simp
def Le{i j:Nat}(h:j<=i):ltS lt i j=lt i j:=by
 unfold ltS;rw[XZ (by omega)];simp
def uu.le(W:uu n lt){i j k:Nat}(hi:i<n)(hj:j<n)(hk:k<n)(h1:lt j i=false)(h2:lt k j=false):lt k i=false:=by
 cases h:lt k i with
 |false=>rfl
 |true=>exact(W.co hk hj hi h).elim (fun z=>by rw[h2]at z;cases z) (fun z=>by rw[h1]at z;cases z)
def uu.ok(W:uu n lt):PN n (ltS lt) where
 tr:=fun{i j k} hi hj hk h1 h2=>by
  rw[dU]at *;rcases h1 with h1|⟨h1,g1⟩<;>rcases h2 with h2|⟨h2,g2⟩;exact .inl (W.tr hi hj hk h1 h2);rcases W.co hi hk hj h1 with z|z;exact .inl z;rw[h2]at z;cases z;rcases W.co hj hi hk h2 with z|z;rw[h1]at z;cases z;exact .inl z;exact .inr ⟨W.le hi hj hk h1 h2,by omega⟩
 asym:=fun{i j} hi hj h=>by
  cases g:ltS lt j i with
  |false=>rfl
  |true=>
   rw[dU]at h g;rcases h with h|⟨h,h'⟩<;>rcases g with g|⟨g,g'⟩;rw[W.asym hi hj h]at g;cases g;rw[h]at g;cases g;rw[h]at g;cases g;omega
 tot:=fun{i j} hi hj hne h=>by
  rw[dU];cases g:lt j i with
  |true=>exact .inl rfl
  |false=>
   refine .inr ⟨?_,?_⟩;cases q:lt i j with
   |false=>rfl
   |true=>rw[dU.mpr (.inl q)]at h;cases h
   rcases Nat.lt_or_gt_of_ne hne with z|z;rw[dU.mpr (.inr ⟨g,z⟩)]at h;cases h;exact z
structure Px(n k:Nat)(p:Array Nat):Prop where
 pm:Pm n p
 lo:∀i,i<k->p.getD i 0<k
 hi:∀i,k<=i->i<n->p.getD i 0=i
def Px.next{k:Nat}(h:Px n k p)(hk:k<n):Px n (k+1) p:=⟨h.pm,fun i hi=>by
 by_cases e:i=k;subst e;rw[h.hi i (Q7 _) hk];omega;have:=h.lo i (by omega);omega,fun i a b=>h.hi i (by omega) b⟩
def By(W:uu n lt)(A:Fz cmp n lt s):∀(f m:Nat) {Q:Nat->Q3->Prop},1<=m->m+f<=n->Px n m p->Asc (ltS lt) p m->(∀m',m<=m'->m'<=m+f->Px n m' p->Asc (ltS lt) p m'->(m'=m+f\/lt (p.getD m' 0) (p.getD (m'-1) 0)=true)->Q m' s)->(kas_asc p f m).kasWp cmp Q s
 |0,m,Q,h1,h2,P,h3,q=>q m (Q7 _) (by omega) P h3 (.inl rfl)
 |f+1,m,Q,h1,h2,P,h3,q=>by
  have b1:=P.pm.bd m (by omega);have b2:=P.pm.bd (m-1) (by omega);refine A _ _ _ b1 b2 ?_;cases hc:lt (p.getD m 0) (p.getD (m-1) 0)with
  |true=>exact q m (Q7 _) (by omega) P h3 (.inr hc)
  |false=>
   have hlt:p.getD (m-1) 0<p.getD m 0:=by rw[P.hi m (Q7 _) (by omega)];exact P.lo _ (by omega)
   have h4:=h3.snoc W.ok P.pm h1 (by omega) (dU.mpr (by
    cases z:lt (p.getD (m-1) 0) (p.getD m 0)with
    |true=>exact .inl rfl
    |false=>exact .inr ⟨hc,hlt⟩))
   exact By W A f (m+1) (by omega) (by omega) (P.next (by omega)) h4 fun m' a b c d e=>q m' (by omega) (by omega) c d (by rcases e with e|e;exact .inl (by omega);exact .inr e)
def gv{i m k:Nat}(hm:m<=p.size):(kas_rev p i m).getD k 0=if i<=k/\k<m then p.getD (i+m-1-k) 0 else p.getD k 0:=by
 unfold kas_rev;have h:=getElem?_mirror_all (i:=i) hm k;split;rename_i c;rw[X9 c]at h;exact jH h;rename_i c;rw[XQ c]at h;exact jH h
def Px.rev{k i m:Nat}(P:Px n k p)(hm:m<=k)(hk:k<=n):Px n k (kas_rev p i m):=by
 have g:∀j,(kas_rev p i m).getD j 0=if i<=j/\j<m then p.getD (i+m-1-j) 0 else p.getD j 0:=fun j=>gv (by rw[P.pm.sz];omega)
 refine⟨⟨by rw[kas_rev_size];exact P.pm.sz,fun j hj=>?_,fun a b hab hb=>?_⟩,fun j hj=>?_,fun j a b=>?_⟩;rw[g];split;exact P.pm.bd _ (by omega);exact P.pm.bd _ hj
 ·rw[g,g];split<;>split<;>exact P.pm.ne' (by omega) (by omega) (by omega)
 rw[g];split;exact P.lo _ (by omega);exact P.lo _ hj;rw[g,XQ (by omega)];exact P.hi j a b
structure Dn(lt:Nat->Nat->Bool)(p:Array Nat)(m q:Nat):Prop where
 dn:∀i j,i<j->j<m->i<m-(q+1)->ltS lt (p.getD j 0) (p.getD i 0)=true
 st:∀i j,i<m-(q+1)->m-(q+1)<=j->j<m->lt (p.getD j 0) (p.getD i 0)=true
 eq:∀i j,m-(q+1)<=i->i<j->j<m->lt (p.getD i 0) (p.getD j 0)=false/\lt (p.getD j 0) (p.getD i 0)=false/\p.getD i 0<p.getD j 0
def Dn.rev{m q:Nat}(h:Dn lt p m q)(hm:m<=p.size)(hq:q+1<=m):Dsc (ltS lt) (kas_rev p (m-(q+1)) m) m:=fun i j a b=>by
 have g:∀j,(kas_rev p (m-(q+1)) m).getD j 0=if m-(q+1)<=j/\j<m then p.getD (m-(q+1)+m-1-j) 0 else p.getD j 0:=fun j=>gv hm
 rw[g,g];by_cases ci:m-(q+1)<=i;rw[X9 ⟨by omega,b⟩,X9 ⟨ci,by omega⟩];obtain⟨z1,z2,z3⟩:=h.eq (m-(q+1)+m-1-j) (m-(q+1)+m-1-i) (by omega) (by omega) (by omega);exact dU.mpr (.inr ⟨z2,z3⟩);rw[XQ (c:=m-(q+1)<=i/\i<m) (by omega)];split;exact h.dn _ _ (by omega) (by omega) (by omega);exact h.dn _ _ a b (by omega)
def Dn.dsc{m:Nat}(h:Dn lt p m 0):Dsc (ltS lt) p m:=fun i j a b=>h.dn i j a b (by omega)
def vq(W:uu n lt)(P:Pm n p){m:Nat}(h:Dsc (ltS lt) p m)(h1:1<=m)(hm:m<n)(hc:lt (p.getD m 0) (p.getD (m-1) 0)=true):Dn lt p (m+1) 0:=by
 have bm:=P.bd m hm;have all:∀i,i<m->lt (p.getD m 0) (p.getD i 0)=true:=fun i hi=>by
  by_cases e2:i=m-1;subst e2;exact hc;have z:=h i (m-1) (by omega) (by omega);rw[dU]at z;rcases z with z|⟨z,_⟩;exact W.tr bm (P.bd _ (by omega)) (P.bd _ (by omega)) hc z;rcases W.co bm (P.bd i (by omega)) (P.bd (m-1) (by omega)) hc with y|y;exact y;rw[z]at y;cases y
 refine⟨fun i j a b c=>?_,fun i j a b c=>?_,fun i j a b c=>by omega⟩;by_cases e:j=m;subst e;exact dU.mpr (.inl (all i (by omega)));exact h i j a (by omega);have e:j=m:=by omega
 subst e;exact all i (by omega)
def Dn.alike(W:uu n lt){m q:Nat}(P:Px n m p)(h:Dn lt p m q)(h1:q+1<=m)(hm:m<n)(hc:lt (p.getD m 0) (p.getD (m-1) 0)=false)(hd:lt (p.getD (m-1) 0) (p.getD m 0)=false):Dn lt p (m+1) (q+1):=by
 have e1:m+1-(q+1+1)=m-(q+1):=by omega
 have bm:=P.pm.bd m hm;have eqm:∀i,m-(q+1)<=i->i<m->lt (p.getD i 0) (p.getD m 0)=false/\lt (p.getD m 0) (p.getD i 0)=false:=fun i a b=>by
  by_cases e:i=m-1;subst e;exact⟨hd,hc⟩;obtain⟨z1,z2,_⟩:=h.eq i (m-1) a (by omega) (by omega);exact⟨W.le bm (P.pm.bd (m-1) (by omega)) (P.pm.bd i (by omega)) hd z1,W.le (P.pm.bd i (by omega)) (P.pm.bd (m-1) (by omega)) bm z2 hc⟩
 have stm:∀i,i<m-(q+1)->lt (p.getD m 0) (p.getD i 0)=true:=fun i hi=>by
  rcases W.co (P.pm.bd (m-1) (by omega)) bm (P.pm.bd i (by omega)) (h.st i (m-1) hi (by omega) (by omega))with y|y;rw[hd]at y;cases y;exact y
 refine⟨fun i j a b c=>?_,fun i j a b c=>?_,fun i j a b c=>?_⟩;rw[e1]at c;by_cases e:j=m;subst e;exact dU.mpr (.inl (stm i c));exact h.dn i j a (by omega) c;rw[e1]at a b;by_cases e:j=m;subst e;exact stm i a;exact h.st i j a b (by omega);rw[e1]at a;by_cases e:j=m;subst e;obtain⟨z1,z2⟩:=eqm i a (by omega);exact⟨z1,z2,by rw[P.hi j (Q7 _) hm];exact P.lo _ (by omega)⟩;exact h.eq i j a b (by omega)
def rb(W:uu n lt)(A:Fz cmp n lt s):∀(f:Nat) (p:Array Nat) (m q:Nat) {Q:Array Nat×Nat×Nat->Q3->Prop},q+1<=m->m+f<=n->Px n m p->Dn lt p m q->(∀p' m' q',q'+1<=m'->m'<=n->Px n m' p'->Dn lt p' m' q'->Q (p',m',q') s)->(kas_desc f p m q).kasWp cmp Q s
 |0,p,m,q,Q,h1,h2,P,h3,g=>g p m q h1 (by omega) P h3
 |f+1,p,m,q,Q,h1,h2,P,h3,g=>by
  have b1:=P.pm.bd m (by omega);have b2:=P.pm.bd (m-1) (by omega);refine A _ _ _ b1 b2 ?_;cases hc:lt (p.getD m 0) (p.getD (m-1) 0)with
  |true=>
   dsimp only;rw[X9 rfl];by_cases hq:q>0
   ·rw[X9 hq];have P':Px n m (kas_rev p (m-(q+1)) m):=P.rev (Q7 _) (by omega);have em:(kas_rev p (m-(q+1)) m).getD m 0=p.getD m 0:=by rw[gv (by rw[P.pm.sz];omega),XQ (by omega)]
    have e2:(kas_rev p (m-(q+1)) m).getD (m-1) 0=p.getD (m-(q+1)) 0:=by
     rw[gv (by rw[P.pm.sz];omega),X9 (by omega)];congr 1;omega
    refine rb W A f _ (m+1) 0 (by omega) (by omega) (P'.next (by omega)) (vq W P'.pm (h3.rev (by rw[P.pm.sz];omega) h1) (by omega) (by omega) ?_) g;rw[em,e2];obtain⟨z1,_,_⟩:=h3.eq (m-(q+1)) (m-1) (Q7 _) (by omega) (by omega);rcases W.co b1 (P.pm.bd (m-(q+1)) (by omega)) b2 hc with y|y;exact y;rw[z1]at y;cases y
   ·rw[XQ hq];have q0:q=0:=by omega
    subst q0;exact rb W A f p (m+1) 0 (by omega) (by omega) (P.next (by omega)) (vq W P.pm h3.dsc (by omega) (by omega) hc) g
  |false=>
   dsimp only;rw[XQ QZ];refine A _ _ _ b2 b1 ?_;cases hd:lt (p.getD (m-1) 0) (p.getD m 0)with
   |true=>
    dsimp only;rw[X9 rfl];exact g p m q h1 (by omega) P h3
   |false=>
    dsimp only;rw[XQ QZ];exact rb W A f p (m+1) (q+1) (by omega) (by omega) (P.next (by omega)) (h3.alike W P h1 (by omega) hc hd) g
def zh(W:uu n lt)(A:Fz cmp n lt s){m:Nat}{Q:Nat×Array Nat->Q3->Prop}(h1:1<=m)(hm:m<=n)(P:Px n m p)(h:Dsc (ltS lt) p m)(g:∀m p',1<=m->m<=n->Px n m p'->Asc (ltS lt) p' m->Q (m,p') s):(kas_tail3 m n p).kasWp cmp Q s:=by
 unfold kas_tail3;rw[KasT.kasWp_bind];exact By W A (n-m) m h1 (by omega) (P.rev (Q7 _) hm) (h.rev P.pm hm) fun m2 a2 b2 P2 c2 _=>g m2 _ (by omega) (by omega) P2 c2
def zN(W:uu n lt)(A:Fz cmp n lt s){m:Nat}{Q:Nat×Array Nat->Q3->Prop}(h1:1<=m)(hm:m<n)(P:Px n m p)(h:Dsc (ltS lt) p m)(hc:lt (p.getD m 0) (p.getD (m-1) 0)=true)(g:∀m p',1<=m->m<=n->Px n m p'->Asc (ltS lt) p' m->Q (m,p') s):(kas_descPart m n p).kasWp cmp Q s:=by
 unfold kas_descPart;rw[KasT.kasWp_bind];refine rb W A _ p (m+1) 0 (by omega) (by omega) (P.next hm) (vq W P.pm h h1 hm hc) fun p' m' q' a b P' D=>?_;dsimp only;by_cases hq:q'>0;rw[X9 hq];exact zh W A (by omega) b (P'.rev (Q7 _) b) (D.rev (by rw[P'.pm.sz];exact b) a) g;rw[XQ hq];have q0:q'=0:=by omega
 subst q0;exact zh W A (by omega) b P' D.dsc g
def D9(W:uu n lt)(A:Fz cmp n lt s){Q:Nat×Array Nat->Q3->Prop}(h1:1<=n)(P:Px n 1 p)(g:∀m p',1<=m->m<=n->Px n m p'->Asc (ltS lt) p' m->Q (m,p') s):(kas_count n p).kasWp cmp Q s:=by
 unfold kas_count;rw[KasT.kasWp_bind];refine By W A (n-1) 1 (Q7 _) (by omega) P (fun i j a b=>by omega) fun m a b P' c d=>?_;by_cases e:m=n;rw[X9 (by rw[e];exact beq_self_eq_true n)];exact g m p a (by omega) P' c;rw[XQ (by simpa using e)];have d':lt (p.getD m 0) (p.getD (m-1) 0)=true:=by
  rcases d with d|d;omega;exact d
 by_cases z:m>1;rw[X9 z];refine A _ _ _ (P'.pm.bd _ (by omega)) (P'.pm.bd _ (by omega)) ?_;cases hc:lt (p.getD 0 0) (p.getD (m-1) 0)with
 |true=>
  dsimp only;rw[X9 rfl];exact g m p a (by omega) P' c
 |false=>
  dsimp only;rw[XQ QZ];have al:∀i j,i<j->j<m->lt (p.getD i 0) (p.getD j 0)=false/\lt (p.getD j 0) (p.getD i 0)=false/\p.getD i 0<p.getD j 0:=fun i j hij hj=>by
   have n1:∀k,k<m->lt (p.getD k 0) (p.getD 0 0)=false:=fun k hk=>by
    by_cases e0:k=0;subst e0;cases y:lt (p.getD 0 0) (p.getD 0 0)with
    |false=>rfl
    |true=>have:=W.asym (P'.pm.bd 0 (by omega)) (P'.pm.bd 0 (by omega)) y;rw[y]at this;cases this
    have:=c 0 k (by omega) hk;rw[dU]at this;rcases this with y|⟨y,_⟩;exact W.asym (P'.pm.bd _ (by omega)) (P'.pm.bd _ (by omega)) y;exact y
   have n2:∀k,k<m->lt (p.getD (m-1) 0) (p.getD k 0)=false:=fun k hk=>by
    by_cases e0:k=m-1;subst e0;cases y:lt (p.getD (m-1) 0) (p.getD (m-1) 0)with
    |false=>rfl
    |true=>have:=W.asym (P'.pm.bd (m-1) (by omega)) (P'.pm.bd (m-1) (by omega)) y;rw[y]at this;cases this
    have:=c k (m-1) (by omega) (by omega);rw[dU]at this;rcases this with y|⟨y,_⟩;exact W.asym (P'.pm.bd _ (by omega)) (P'.pm.bd _ (by omega)) y;exact y
   have bi:=P'.pm.bd i (by omega);have bj:=P'.pm.bd j (by omega);have b0:=P'.pm.bd 0 (by omega);have bm:=P'.pm.bd (m-1) (by omega);have k1:∀i j,i<m->j<m->lt (p.getD i 0) (p.getD j 0)=false:=fun i j hi hj=>by
    cases y:lt (p.getD i 0) (p.getD j 0)with
    |false=>rfl
    |true=>
     rcases W.co (P'.pm.bd i (by omega)) b0 (P'.pm.bd j (by omega)) y with x|x;rw[n1 i hi]at x;cases x;rcases W.co b0 bm (P'.pm.bd j (by omega)) x with v|v;rw[hc]at v;cases v;rw[n2 j hj]at v;cases v
   have z1:=k1 i j (by omega) hj;refine⟨z1,k1 j i hj (by omega),?_⟩;have:=c i j hij hj;rw[dU]at this;rcases this with y|⟨_,y⟩;rw[z1]at y;cases y;exact y
  have hm:m<=p.size:=by rw[P'.pm.sz];omega
  refine zN W A a (by omega) (P'.rev (Q7 _) (by omega)) (fun i j hij hj=>?_) ?_ g;rw[gv hm,gv hm,X9 (by omega),X9 (by omega)];obtain⟨z1,z2,z3⟩:=al (0+m-1-j) (0+m-1-i) (by omega) (by omega);exact dU.mpr (.inr ⟨z2,z3⟩);rw[gv hm,gv hm,XQ (by omega),X9 (by omega),show 0+m-1-(m-1)=0 by omega];rcases W.co (P'.pm.bd m (by omega)) (P'.pm.bd 0 (by omega)) (P'.pm.bd (m-1) (by omega)) d' with x|x;exact x;rw[hc]at x;cases x
 rw[XQ z];have m1:m=1:=by omega
 subst m1;exact zN W A (Q7 _) (by omega) P' (fun i j a b=>by omega) d' g
def qw(W:uu n lt)(A:Fz cmp n lt s){k:Nat}(P:Px n k p)(hk:k<n)(hs:Asc (ltS lt) p k):∀(f l r:Nat) {Q:Nat->Q3->Prop},l<=r->r<=k->r-l<=f->(∀i,i<l->ltS lt (p.getD i 0) (p.getD k 0)=true)->(∀i,r<=i->i<k->ltS lt (p.getD k 0) (p.getD i 0)=true)->
  (∀l',l'<=k->(∀i,i<l'->ltS lt (p.getD i 0) (p.getD k 0)=true)->(∀i,l'<=i->i<k->ltS lt (p.getD k 0) (p.getD i 0)=true)->Q l' s)->(kas_place p k f l r).kasWp cmp Q s
 |0,l,r,Q,h1,h2,h3,h4,h5,q=>q l (by omega) h4 fun i a b=>h5 i (by omega) b
 |f+1,l,r,Q,h1,h2,h3,h4,h5,q=>by
  unfold kas_place;by_cases e:l≥r;rw[X9 e];exact q l (by omega) h4 fun i a b=>h5 i (by omega) b;rw[XQ e];have hM:(l+r) / 2<k:=by omega
  have bk:=P.pm.bd k hk;have bM:=P.pm.bd ((l+r) / 2) (by omega);refine A _ _ _ bk bM ?_;have gt:p.getD ((l+r) / 2) 0<=p.getD k 0:=by rw[P.hi k (Q7 _) hk];exact Nat.le_of_lt (P.lo _ hM)
  rw[<-Le (lt:=lt) gt];cases hc:ltS lt (p.getD k 0) (p.getD ((l+r) / 2) 0)with
  |true=>
   refine qw W A P hk hs f l ((l+r) / 2) (by omega) (by omega) (by omega) h4 (fun i a b=>?_) q;by_cases e2:i=(l+r) / 2;subst e2;exact hc;exact W.ok.tr bk bM (P.pm.bd _ (by omega)) hc (hs _ i (by omega) b)
  |false=>
   have hc':=W.ok.tot bk bM (P.pm.ne' hk (by omega) (by omega)) hc;refine qw W A P hk hs f ((l+r) / 2+1) r (by omega) (by omega) (by omega) (fun i a=>?_) h5 q;by_cases e2:i=(l+r) / 2;subst e2;exact hc';exact W.ok.tr (P.pm.bd _ (by omega)) bM bk (hs i ((l+r) / 2) (by omega) hM) hc'
def Px.bub{k l:Nat}(P:Px n k p)(hk:k<n)(hl:l<=k):Px n (k+1) (bubble p k (k-l)):=by
 have g:∀i,(bubble p k (k-l)).getD i 0=_:=fun i=>k7 (by rw[P.pm.sz];exact hk) hl;refine⟨P.pm.bub hk hl,fun i hi=>?_,fun i a b=>?_⟩;rw[g];have:=P.hi k (Q7 _) hk;split;omega;split;have:=P.lo (i-1) (by omega);omega;have:=P.lo i (by omega);omega;rw[g,XQ (by omega),XQ (by omega)];exact P.hi i (by omega) b
def Fu(W:uu n lt)(A:Fz cmp n lt s):∀(f:Nat) (p:Array Nat) (k:Nat) {Q:Array Nat->Q3->Prop},Px n k p->k+f=n->Asc (ltS lt) p k->(∀p',Pm n p'->Asc (ltS lt) p' n->Q p' s)->(kas_bin f p k).kasWp cmp Q s
 |0,p,k,Q,P,h1,h2,q=>q p P.pm (by rw[<-h1];exact h2)
 |f+1,p,k,Q,P,h1,h2,q=>by
  unfold kas_bin;rw[KasT.kasWp_bind];refine qw W A (k:=k) P (by omega) h2 k 0 k (ZC _) (Q7 _) (by omega) (fun i a=>by omega) (fun i a b=>by omega) fun l a b c=>?_;exact Fu W A f _ (k+1) (P.bub (by omega) a) (by omega) (h2.bub P.pm (by omega) a b c) q
def GB(W:uu n lt)(A:Fz cmp n lt s){Q:Array Nat->Q3->Prop}(h1:1<=n)(q:∀p',Pm n p'->Asc (ltS lt) p' n->Q p' s):(kas_sort n).kasWp cmp Q s:=by
 unfold kas_sort;rw[KasT.kasWp_bind];have g:∀i,i<n->(List.toArray (QF n)).getD i 0=i:=fun i hi=>by simp[Array.getD,hi]
 refine D9 W A h1 ⟨CY,fun i hi=>by rw[g i (by omega)];exact hi,fun i _ b=>g i b⟩ fun m p' a b P c=>?_;dsimp only;by_cases e:m<n;rw[X9 e];rw[show max m 1=m by omega];exact Fu W A _ _ _ P (by omega) c q;rw[XQ e];exact q p' P.pm (by rw[show n=m by omega];exact c)
end
def ltK(ks:List (Int×Int))(i j:Nat):Bool:=ltP (ks.getD i (0,0)) (ks.getD j (0,0))
def wkK(n:Nat)(ks:List (Int×Int)):uu n (ltK ks) where
 asym:=fun{i j} _ _ h=>by simp only[ltK,ltP,decide_eq_true_eq,decide_eq_false_iff_not]at *;omega
 co:=fun{i j k} _ _ _ h=>by simp only[ltK,ltP,decide_eq_true_eq]at *;omega
def xP(ks:List (Int×Int)):List Nat:=(QF ks.length).mergeSort fun i j=>!ltS (ltK ks) j i
def hZ(ks:List (Int×Int)):(xP ks).Perm (QF ks.length):=List.mergeSort_perm ..
def Di(ks:List (Int×Int)):(xP ks).Pairwise fun i j=>ltS (ltK ks) j i=false:=by
 have ok:=fun i j k:Nat=>(wkK (i+j+k+1) ks).ok;have:=List.pairwise_mergeSort (le:=fun i j=>!ltS (ltK ks) j i) (fun a b c h1 h2=>by
   have O:=ok a b c;simp only[Bool.not_eq_true']at *;by_cases e1:a=b;subst e1;exact h2;by_cases e2:b=c;subst e2;exact h1;exact O.asym (by omega) (by omega) (O.tr (by omega) (by omega) (by omega) (O.tot (i:=b) (j:=a) (by omega) (by omega) (fun e=>e1 e.symm) h1) (O.tot (i:=c) (j:=b) (by omega) (by omega) (fun e=>e2 e.symm) h2))) (fun a b=>by
   have O:=ok a b 0;simp only[Bool.or_eq_true,Bool.not_eq_true'];cases h:ltS (ltK ks) b a with
   |false=>exact .inl rfl
   |true=>exact .inr (O.asym (by omega) (by omega) h)) (QF ks.length)
 exact this.imp fun h=>by simpa using h
def Hk{ks:List (Int×Int)}{q:Array Nat}(P:Pm ks.length q)(A:Asc (ltS (ltK ks)) q ks.length):q.toList=xP ks:=by
 have hl:q.toList.length=ks.length:=by rw[ZH,P.sz]
 have gd:∀i (hi:i<q.toList.length),q.getD i 0=q.toList[i]:=fun i hi=>by
  have hi':i<q.size:=by simpa using hi
  rw[X6,Array.getElem?_eq_getElem hi',Array.getElem_toList];rfl
 have O:=(wkK ks.length ks).ok;have p1:q.toList.Pairwise fun i j=>ltS (ltK ks) j i=false:=by
  rw[List.pairwise_iff_getElem];intro i j hi hj hij;have z:=A i j hij (by omega);rw[gd i hi,gd j hj]at z;exact O.asym (sO P _ (List.getElem_mem _)) (sO P _ (List.getElem_mem _)) z
 have nd:q.toList.Nodup:=by
  rw[List.nodup_iff_pairwise_ne,List.pairwise_iff_getElem];intro i j hi hj hij;rw[<-gd i hi,<-gd j hj];exact P.ne i j hij (by omega)
 have pr:q.toList.Perm (QF ks.length):=by
  refine(List.perm_ext_iff_of_nodup nd List.nodup_range).mpr fun x=>⟨fun hx=>ZN.mpr (sO P x hx),fun hx=>?_⟩;refine Classical.byContradiction fun hn=>?_;have:=List.Nodup.length_le_of_subset (Zs.mpr ⟨hn,nd⟩) (l₂:=QF ks.length) fun y hy=>by
   rcases Qz.mp hy with z|z;rw[z];exact hx;exact ZN.mpr (sO P y z)
  simp only[QK,ZY]at this;omega
 refine List.Perm.eq_of_pairwise (fun a b ha hb h1 h2=>?_) p1 (Di ks) (pr.trans (hZ ks).symm);refine Classical.byContradiction fun hn=>?_;have:=O.tot (sO P a ha) (ZN.mp ((hZ ks).mem_iff.mp hb)) hn h2;rw[h1]at this;cases this
section
variable{prog:Qx}{w:Z7}{A:Z9}{E:Q2->Q3->Prop}{a kS:Addr}{vs:List Q2}{keys:Array Q2}{n1 n2:Nat}{R:PySem.Fin->Q3->Prop}{ks:List (Int×Int)}
def wF{st:SortSt}(gk:s.heap.get? kS=some (seqObj "list" keys n2))(ga:s.heap.get? a=some (seqObj "list" #[] n1))(hka:kS≠a)(zk:keys.size<=QD)(zs:(arrOf st).size<=QD)(hfl:failedOf st=none)
  (q:∀(h':Heap) (c:Nat),(∀b o,b≠a->b≠kS->s.heap.get? b=some o->h'.get? b=some o)->h'.objs.size=s.heap.objs.size->h'.get? a=some (seqObj "list" ((arrOf st).map (·.2)) c)->R (.done (.ret .none)) { s with heap:=h' }) :
  wpAny (Qy prog w) A (ksk_tail a false n1 (.ref kS) st) R E s:=by
 have u1:=Heap.SameBut.update s.heap kS (Obj.mapSeq fun _=>(#[]:Array Q2));have ga1:=(u1.2 a hka.symm).trans ga;unfold ksk_tail;dsimp only;refine Q5 (listUpdate_at gk rfl (Q5 (wpAny_letGo (Q5 (seqEpoch_at ga1 rfl (Q5 (listUpdate_at ga1 rfl ?_ (ZC _) (Nat.le_succ_of_le (by simpa using zs)))))))) zk (ZC _));rw[hfl];simp only[bne_self_eq_false,Zt,if_false];have u2:=Heap.SameBut.update (s.heap.update kS (Obj.mapSeq fun _=>(#[]:Array Q2))) a (Obj.mapSeq fun _=>(arrOf st).map (·.2));exact Qq (q _ _ (fun b o h1 h2 e=>(u2.2 b h1).trans ((u1.2 b h2).trans e)) (by rw[Heap.size_update,Heap.size_update]) (get?_update_seq ga1 fun _=>(arrOf st).map (·.2)))
def HE(gk:s.heap.get? kS=some (seqObj "list" keys n2))(ga:s.heap.get? a=some (seqObj "list" #[] n1))(hka:kS≠a)(hp:jQ s.heap keys.toList ks)(hl:ks.length=vs.length)(h64:vs.length<64)
  (q:∀(h':Heap) (c:Nat),(∀b o,b≠a->b≠kS->s.heap.get? b=some o->h'.get? b=some o)->h'.objs.size=s.heap.objs.size->h'.get? a=some (seqObj "list" ((xP ks).map fun i=>vs.getD i Value.none).toArray c)->R (.done (.ret .none)) { s with heap:=h' }) :
  wpAny (Qy prog w) A (ksk_end a false vs.toArray n1 (.ref kS) keys) R E s:=by
 have lk:=sP hp;rw[ZH]at lk;have zl:vs.length<=QD:=by unfold QD;omega
 unfold ksk_end;dsimp only;simp only[Zt,if_false,QR];by_cases h2:vs.length<2;rw[X9 h2,X9 h2];refine Q5 (Qq ?_);rw[StateT.run_pure];refine Q5 (Qq (wF (st:=SortSt.mk' general' (keys.zip vs.toArray) #[] 7 none) gk ga hka (by omega) ?_ rfl fun h' c k z g=>q h' c k z ?_));show(keys.zip vs.toArray).size<=_;rw[Array.size_zip];exact ZQ (Nat.min_le_left _ _) (by omega);rw[g];have e:((xP ks).map fun i=>vs.getD i Value.none)=vs:=by
  have pr:=hZ ks;match ks,vs,hl,h2 with
  |[],[],_,_=>rw[List.Perm.eq_nil pr];rfl
  |[k],[v],_,_=>
   have:xP [k]=[0]:=List.perm_singleton.mp pr;rw[this];rfl
  |_::_::_,_::_::_,_,h2=>simp only[QK]at h2;omega
 have e2:Array.map (fun x=>x.snd) (arrOf (SortSt.mk' general' (keys.zip vs.toArray) #[] 7 none))=vs.toArray:=by
  show(keys.zip vs.toArray).map (·.2)=_;apply Array.toList_inj.mp;rw[Array.toList_map,ksk_zip,List.map_snd_zip (by have:=ZH (xs:=keys);omega)]
 rw[e,e2];rw[XQ h2,XQ h2];have ek:keys=keys.toList.toArray:=by simp
 refine Q5 ?_;rw[ek];refine xO hp (by rw[ZH];omega) ?_;rw[<-ek];refine Q5 (ZT (kat_run (ks:=keys.toList) (vs:=vs) (κ:=tuples' true) (Q:=fun st' s'=>∃p:Array Nat,arrOf st'=Array.map (kas_item (keys.toList.toArray.zip vs.toArray)) p/\failedOf st'=none/\s'=s/\p.size=vs.length/\p.toList=xP ks)
  (G:=fun p s'=>s'=s/\p.toList=xP ks) (by rw[ZH];omega) (by omega) h64 (fun p st' s' h1 h2 h3 h4=>⟨p,h2,h3,h4.1,h1,h4.2⟩) ?_) (fun r s' hr=>?_) fun _ _ e=>e)
 refine GB (lt:=ltK ks) (wkK _ ks) (fun i j C hi hj hC=>?_) (by omega) fun p' P Asc'=>⟨rfl,Hk (by rw[hl];exact P) (by rw[hl];exact Asc')⟩;exact Hg (nM hp (by omega)) (nM hp (by omega)) hC;obtain⟨u,st'⟩:=r;obtain⟨p,harr,hfail,rfl,hps,hpo⟩:=hr;have hout:=kat_snds (ks:=keys.toList) (vs:=vs) (by rw[ZH];omega) harr;refine wF gk ga hka (by omega) ?_ hfail fun h' c k z g=>q h' c k z ?_;rw[harr,Array.size_map];omega;rw[g,hout,hpo]
end
def BQ(cb:CE)(su:U):List Int->Sto->Option (List (Int×Int)×Sto)
 |[],S=>some ([],S)
 |n::ns,S=>(cb [some (.int n),some su] S).bind fun r=>match r.1 with
  |.tup [.int x,.int y]=>(BQ cb su ns r.2).bind fun t=>some ((x,y)::t.1,t.2)
  |_=>none
def sx(ks:List (Int×Int))(ns:List Int):List Int:=(xP ks).map fun i=>ns.getD i 0
open Classical in
def xg(z:O)(k:Nat)(co cb:CE):CE:=fun ρ S=>(co ρ S).bind fun r=>match r.1 with
 |.ref l=>match r.2[l]? with
  |some (.dic kus)=>(nU kus).bind fun ns=>if ns.length<64/\∃j:Nat,r.2[j]?=some z then(ρ[k]?).join.bind fun su=>(BQ cb su ns r.2).bind fun t=>some (.ref t.2.length,t.2++[.lst ((sx t.1 ns).map U.int)])else none
  |_=>none
 |_=>none
def mB{cb:CE}{su:U}:∀{ns:List Int} {S:Sto} {t:List (Int×Int)×Sto},BQ cb su ns S=some t->t.1.length=ns.length
 |[],S,t,h=>by cases h;rfl
 |n::ns,S,t,h=>by
  unfold BQ at h;obtain⟨⟨u,S1⟩,h1,h⟩:=Q0.mp h;dsimp only at h;split at h;obtain⟨t',h2,h3⟩:=Q0.mp h;cases h3;simp[mB h2];cases h
def L8(K:Q1)(H:Hp)(v:Q2)(p:Int×Int):Prop:=∃b,v=.ref b/\SqT K H b [.int p.1,.int p.2]
def pN{X:Cx}{pins:List (Addr×Obj)}{σ:L2.St}{H:Hp}{s:Q3}(I:Inv X pins σ H s):∀{vs:List Q2} {ks:List (Int×Int)},Paired (L8 X.K H) vs ks->jQ s.heap vs ks
 |_,_,.nil=>trivial
 |_,_,.cons r t=>by
  refine⟨?_,pN I t⟩;obtain⟨b,rfl,sq⟩:=r;obtain⟨its,rv,⟨o,e,c,n,d⟩,_⟩:=I.tuple sq;match its,rv,d with
  |[_,_],.cons ⟨t1,rfl⟩ (.cons ⟨t2,rfl⟩ .nil),d=>exact⟨b,o,t1,t2,n,rfl,e,c,d⟩
def nN{α β:Type}{F:α->β->Prop}{a:α}{b:β}:∀{l1:List α} {l2:List β},Paired F l1 l2->F a b->Paired F (l1++[a]) (l2++[b])
 |_,_,.nil,h=>.cons h .nil
 |_,_,.cons r t,h=>.cons r (nN t h)
section
variable{X:Cx}{body:PySem.Expr}{cb:CE}{scope:Zl}{params:Arguments}{x pa qual:Str}{k kr:Nat}{cx:Addr}
structure IA(X:Cx)(body:PySem.Expr)(cb:CE)(scope:Zl)(params:Arguments)(x pa qual:Str)(k kr:Nat)(cx:Addr):Prop where
 cel:X.env.cells.lookup x=some cx
 kin:X.env.kindOf x=some .cell
 nm:X.N[k]?=some x
 co:scope.isCoroutine=false
 gen:scope.isGenerator=false
 knd:scope.kind=.function
 nms:scope.names=[(pa,.local),(x,.free)]
 ne:pa≠x
 bnd:∀(cl:List (Str×Addr)) (pm c ctv u:Q2),bindArgs (kla_fn "<lambda>" qual params body scope cl pm c ctv) ⟨[u],[]⟩=pure [(pa,u)]
 bdy:∀(f:Addr) (cd:Q2) (A:Z9) (s:Q3) (H:Hp),eC kr (A.deeper (LM qual scope s.heap.objs.size f cd [(x,cx)]))->QE (cxL X.prog X.w X.K X.mg X.base [pa,x] qual scope f cd [(x,cx)] A X.stack s H) body cb
def Dy{A:Z9}{pins:List (Addr×Obj)}{σ:L2.St}{ρ:Rho}{H:Hp}{s:Q3}{m:List Addr}{S S':Sto}{f c:Addr}{pm ctv:Q2}{n:Int}{t:Tok}{su u:U}{R:Q2->Q3->Prop}{E:Q2->Q3->Prop}(L:IA X body cb scope params x pa qual k kr cx)
  (hA:vK X.prog X.w X.K X.mg X.base A X.stack s H) (hr:eC (kr+1) A) (I:Inv X pins σ H s) (ho:s.heap.get? f=some (kla_obj "<lambda>" qual params body scope [(x,cx)] pm c ctv)) (hcd:s.heap.CodeRec (.ref c) qual)
  (sr:Sr X.K m S H) (lr:Lr X.K m H ρ σ) (hk:ρ[k]?=some (some su)) (h:cb [some (.int n),some su] S=some (u,S'))
  (q:∀v u' m' H' s',Inv X pins σ H' s'->cI v u'->Ext X.K m H m' H'->Sr X.K m' S' H'->Is X.K m' H' v u->R u' s'):wpAny (Qy X.prog X.w) A (call (.ref f) [.int n t]) R E s:=by
 obtain⟨sv,hs,iv⟩:=lr.at_ k su hk;obtain⟨mm,hmm,hl⟩:=I.loc;obtain⟨sval,rs,look⟩:=hl k x sv L.nm hs (.inr (.inl L.kin));have cel:s.heap.IsCell cx (some sval):=by
  rcases look with⟨z,_⟩|⟨_,c',e,z⟩;rw[L.kin]at z;cases z;rw[L.cel]at e;cases e;exact z
 have lk:∀y d,([(x,cx)]:List (Str×Addr)).lookup y=some d->y=x/\d=cx:=fun y d e=>by
  rw[Zh]at e;by_cases z:(y == x)=true;rw[z]at e;cases e;exact⟨by simpa using z,rfl⟩;rw[show(y == x)=false by simpa using z]at e;cases e
 have nx:(x == pa)=false:=by simpa using fun e=>L.ne e.symm
 have fr:scope.names.lookup x=some .free:=by rw[L.nms,Zh,nx];simp
 refine wpAny_call (codeAny_mono (Hz (p:=pa) (capN:=[x]) (vc:=[sv]) (v:=.int n) (te:=tE X.K cb) (Q:=fun v H'=>∃m',Ext X.K m H m' H'/\Sr X.K m' S' H'/\Is X.K m' H' v u) hr.depth hA hr.hd ho hcd L.co L.gen L.knd (fun y hy=>?_) ?_ (L.bnd _ _ _ _ _) ⟨t,rfl⟩ (fun y z d a b=>(lk y d a).1.trans (lk z d b).1.symm) (fun y hy=>?_) (fun y d e=>?_) (.cons ⟨fr,cx,sval,?_,cel,rs⟩ .nil) (L.bdy f _ A s H (hr.deeper _)) ?_) fun r s' hr'=>?_);rw[L.nms]at hy;rcases Qz.mp hy with e|hy;rw[e];exact fun z=>nomatch z;rw[Qu.mp hy];exact fun z=>nomatch z;rw[L.nms,Zh];simp
 ·rw[L.nms]at hy;simp only[Zh]at hy;by_cases z1:(y == pa)=true
  ·rw[z1]at hy;rcases hy with e|e<;>cases e
  ·rw[show(y == pa)=false by simpa using z1]at hy;by_cases z2:(y == x)=true;exact⟨cx,by rw[Zh,z2]⟩
   ·rw[show(y == x)=false by simpa using z2]at hy;rcases hy with e|e<;>cases e
 obtain⟨rfl,rfl⟩:=lk y d e;exact⟨⟨_,cel⟩,I.freeC _ _ L.cel⟩;rw[Zh];simp;refine⟨m,[some (.int n),some su],S,u,S',sr,⟨rfl,fun i w e=>?_⟩,h,fun m' v H' e sr' i'=>⟨m',e,sr',i'⟩⟩;match i,e with
 |0,e=>simp at e;subst e;exact⟨_,rfl,.int_⟩
 |1,e=>simp at e;subst e;exact⟨_,rfl,iv⟩
 |i+2,e=>simp at e
 obtain⟨u',rfl,ce⟩:=hr';obtain⟨v,H',I',rv,m',e,sr',i'⟩:=I.after ce;exact q v u' m' H' s' I' rv e sr' i'
def DC{A:Z9}{pins:List (Addr×Obj)}{σ:L2.St}{ρ:Rho}{H:Hp}{s:Q3}{m:List Addr}{S Sn:Sto}{f c a kS:Addr}{pm ctv:Q2}{su:U}{E:Q2->Q3->Prop}{vs:List Q2}{ns:List Int}{ks:List (Int×Int)}{e1:Nat}{oc:Obj}{R:PySem.Fin->Q3->Prop}(L:IA X body cb scope params x pa qual k kr cx)
  (hE:∀s H,vK X.prog X.w X.K X.mg X.base X.A X.stack s H->vK X.prog X.w X.K X.mg X.base A X.stack s H) (hr:eC (kr+1) A) (I:Inv X ((f,kla_obj "<lambda>" qual params body scope [(x,cx)] pm c ctv)::(a,seqObj "list" #[] e1)::pins) σ H s) (hc:H c=some (.frz oc (.own 0))) (hcd:s.heap.CodeRec (.ref c) qual)
  (sr:Sr X.K m S H) (lr:Lr X.K m H ρ σ) (hk:ρ[k]?=some (some su)) (h:BQ cb su ns S=some (ks,Sn)) (hI:IntsAre vs ns) (h64:vs.length<64) (gk:s.heap.get? kS=some (seqObj "list" #[] 0)) (nk:H kS=none) (hka:kS≠a) (h0:X.s₀.heap.objs.size<=kS) (hL:kS≠X.env.locals) (hce:∀y d,X.env.cells.lookup y=some d->d≠kS) (hp:∀q∈X.pn++pins,q.1≠kS) (hf:f≠kS)
  (q:∀m' H' s' h' c',Inv X ((f,kla_obj "<lambda>" qual params body scope [(x,cx)] pm c ctv)::(a,seqObj "list" #[] e1)::pins) σ H' s'->Ext X.K m H m' H'->Sr X.K m' Sn H'->H' kS=none->(∀b o,b≠a->b≠kS->s'.heap.get? b=some o->h'.get? b=some o)->h'.objs.size=s'.heap.objs.size->h'.get? a=some (seqObj "list" ((xP ks).map fun i=>vs.getD i Value.none).toArray c')->R (.done (.ret .none)) { s' with heap:=h' }) :
  wpAny (Qy X.prog X.w) A (ksk_rest a (.ref f) false vs.toArray e1 (.ref kS)) R E s:=by
 have lk:=mB h;have lv:=hI.length;dsimp only at lk;unfold ksk_rest;refine Q5 (wpAny_rule ?_);rw[List.forIn_toArray];refine Q5 (ksk_fold (fun i s'=>∃m' S' H' kA e,Inv X ((f,kla_obj "<lambda>" qual params body scope [(x,cx)] pm c ctv)::(a,seqObj "list" #[] e1)::pins) σ H' s'/\Ext X.K m H m' H'/\Sr X.K m' S' H'/\BQ cb su (ns.drop i) S'=some (ks.drop i,Sn)/\s'.heap.get? kS=some (seqObj "list" kA e)/\H' kS=none/\Paired (L8 X.K H') kA.toList (ks.take i)) vs 0 s
  ⟨m,S,H,#[],0,I,.refl,sr,h,gk,nk,.nil⟩ ?_ ?_)
 ·rintro j v s' hv ⟨m',S',H',kA,e,I',ex,sr',run,gk',nk',pr⟩;simp only[Nat.zero_add]at run pr ⊢;have hj:j<vs.length:=(Q4.mp hv).1;have hjn:j<ns.length:=by omega
  obtain⟨t,ht⟩:=hI.get j ns[j] (QQ hjn);rw[hv]at ht;cases ht;rw[List.drop_eq_getElem_cons hjn]at run;unfold BQ at run;obtain⟨⟨u,S1⟩,r1,run⟩:=Q0.mp run;dsimp only at run;split at run<;>try cases run
  rename_i y z;obtain⟨t2,r2,r3⟩:=Q0.mp run;have hjk:j<ks.length:=by omega
  rw[List.drop_eq_getElem_cons hjk]at r3;injection r3 with r3;obtain⟨e2,e3⟩:=Prod.mk.inj r3;obtain⟨e4,e5⟩:=List.cons.inj e2;have gc:=(I'.hok c _ (ex.keep.c _ _ hc)).1;have hcd':s'.heap.CodeRec (.ref c) qual:=by
   obtain⟨c2,o2,vs2,t3,z1,z2,z3⟩:=hcd;cases z1;rw[(I.hok c _ hc).1]at z2;cases z2;exact⟨c,oc,vs2,t3,rfl,gc,z3⟩
  have pf:=I'.pin _ (QC _ (QN));refine Q5 (wpAny_attempt (ZT (Dy (E:=fun _ _=>False) L (hE _ _ I'.env0) hr (I'.pins_of (pins':=(kS,seqObj "list" kA e)::(f,kla_obj "<lambda>" qual params body scope [(x,cx)] pm c ctv)::(a,seqObj "list" #[] e1)::pins) fun p hp'=>?_) pf.1 hcd' sr' (lr.mono ex) hk r1 (R:=fun u' s2=>∃v m2 H2,Inv X ((kS,seqObj "list" kA e)::(f,kla_obj "<lambda>" qual params body scope [(x,cx)] pm c ctv)::(a,seqObj "list" #[] e1)::pins) σ H2 s2/\cI v u'/\Ext X.K m' H' m2 H2/\Sr X.K m2 S1 H2/\Is X.K m2 H2 v (.tup [.int y,.int z])) fun v u' m2 H2 s2 a1 a2 a3 a4 a5=>⟨v,m2,H2,a1,a2,a3,a4,a5⟩) (fun u' s2 hq=>?_) fun _ _ z=>z.elim));rcases Qz.mp hp' with z|hp';subst z;exact⟨gk',nk',hL,fun w=>by
   obtain⟨_,o,ho,_⟩:=I.ok.funs.mem w;exact absurd (QM (QV ho) h0) (Zr _),fun w z=>nomatch z⟩
  exact I'.pin p (QC _ hp');obtain⟨v,m2,H2,I2,rv,ex2,sr2,iv⟩:=hq;obtain⟨b,xs,rfl,sq,il⟩:=iv.of_tup;obtain rfl:u'=.ref b:=rv;have hxs:xs=[.int y,.int z]:=(il.ints (ns:=[y,z]));subst hxs;obtain⟨gk2,nk2,_⟩:=I2.pin _ (QC _ (QN));have zk:kA.size<=vs.length:=by
   have:=pr.length;rw[ZH,List.length_take]at this;omega
  have u1:=Heap.SameBut.update s2.heap kS (Obj.mapSeq (·.push (.ref b)));dsimp only;refine Q5 (listUpdate_at gk2 rfl (Qq ⟨rfl,m2,S1,H2,kA.push (.ref b),_,?_,ex.trans ex2,sr2,?_,get?_update_seq gk2 (·.push (.ref b)),nk2,?_⟩) (by unfold QD;omega) (ZQ (Nat.le_of_eq (Array.size_push ..)) (by unfold QD;omega)));have I3:Inv X ((f,kla_obj "<lambda>" qual params body scope [(x,cx)] pm c ctv)::(a,seqObj "list" #[] e1)::pins) σ H2 s2:=I2.pins_of fun p hp'=>I2.pin p (QC _ (QY _ hp'));refine I3.turned (t':=s2.toks) (it:=kS) (fun b o nb e=>(u1.2 b nb).trans e) nk2 hL (.inr h0) hce fun p hp'=>?_;rcases Z6.mp hp' with w|w;exact hp p (List.mem_append_left _ w);rcases Qz.mp w with w|w;rw[w];exact hf;rcases Qz.mp w with w|w;rw[w];exact Ne.symm hka;exact hp p (QC _ w);rw[<-e5,<-e3];exact r2;rw[List.take_add_one,QQ hjk,<-e4];simp only[Option.toList_some,Array.toList_push];exact nN (Paired.mapP pr fun v p ⟨b,z1,z2⟩=>⟨b,z1,ex2.keep.t _ _ z2⟩) ⟨b,rfl,sq⟩
 rintro s' ⟨m',S',H',kA,e,I',ex,sr',run,gk',nk',pr⟩;simp only[Nat.zero_add]at run pr;rw[show ns.drop vs.length=[]from List.drop_eq_nil_of_le (by omega),show ks.drop vs.length=[]from List.drop_eq_nil_of_le (by omega)]at run;unfold BQ at run;injection run with run;obtain⟨_,e3⟩:=Prod.mk.inj run;subst e3;rw[List.take_of_length_le (by omega)]at pr;have pa':=I'.pin _ (QC _ (QY _ (QN)));refine Q5 (listItems_at gk' rfl (HE gk' pa'.1 hka (pN I' pr) (by omega) h64 fun h' c' k1 k2 k3=>q m' H' s' h' c' I' ex sr' nk' k1 k2 k3))
def En{acc:Array Q2}{ns:List Int}{vs:List (Key×Q2)}(ks:vs.map (·.1)=ns.map Sum.inl)(h1:acc.size=vs.length)(h2:∀(i:Nat) (v:Q2),acc[i]?=some v->∃k x,vs[i]?=some (k,x)/\tj k v=true):IntsAre acc.toList ns:=by
 have key:∀(i:Nat) (v:Q2),acc.toList[i]?=some v->∃(n:Int) (t:Tok),ns[i]?=some n/\v=Value.int n t:=fun i v e=>by
  obtain⟨k,x,e1,e2⟩:=h2 i v (by rw[<-Array.getElem?_toList];exact e);have e3:(vs.map (·.1))[i]?=some k:=by rw[QL,e1];rfl
  rw[ks,QL]at e3;obtain⟨n,e4,e5⟩:=Zz.mp e3;subst e5;rcases bH (k:=Sum.inl n) e2 with⟨j,t,e6,e7⟩|⟨j,t,e6,e7⟩;cases e6;exact⟨n,t,e4,e7⟩;cases e6
 have hla:acc.toList.length=ns.length:=by have:=congrArg List.length ks;rw[ZH,h1];simpa using this
 clear h2 h1 ks;generalize acc.toList=l at key hla;induction l generalizing ns with
 |nil=>cases ns with
  |nil=>exact .nil
  |cons a b=>simp at hla
 |cons a b ih=>cases ns with
  |nil=>simp at hla
  |cons c d=>
   obtain⟨n,t,e1,e2⟩:=key 0 a (by simp);simp at e1;subst e1;subst e2;exact .cons _ t (ih (fun i v e=>by have:=key (i+1) v (by simpa using e);simpa using this) (by simpa using hla))
def _root_.L2.Inv.turnedC{X:Cx}{pins:List (Addr×Obj)}{σ:L2.St}{H:Hp}{s:Q3}{h':Heap}(ch:List Addr)(I:Inv X pins σ H s)(k:∀b o,b∉ch->s.heap.get? b=some o->h'.get? b=some o)
  (hc:∀b∈ch,H b=none/\b≠X.env.locals/\X.s₀.heap.objs.size<=b/\(∀x c,X.env.cells.lookup x=some c->c≠b)/\∀p∈X.pn++pins,p.1≠b):Inv X pins σ H { s with heap:=h' }:=by
 have nit:∀b u,H b=some u->b∉ch:=fun b u e z=>by rw[(hc b z).1]at e;cases e
 refine I.step (g':=s.gens) (d':=s.drawn) (t':=s.toks) (ch:=ch) (fun b hb=>⟨.inr (hc b hb).2.2.1,(hc b hb).2.1,(hc b hb).2.2.2.1,(hc b hb).2.2.2.2⟩) (fun b o _ _ hb e _=>k b o hb e) (fun b o _ _ hb e _=>⟨o.slots,k b o hb e⟩) (fun _ _ _ _ n=>n)
  (fun b o hb e=>⟨o,k b o hb e⟩) (fun _ _ e=>e) (fun _ _ _ e=>e) (fun b ps e=>⟨#[],by rw[e];simp⟩) (fun m hm=>?_) (fun b u e=>?_) I.bare
 obtain⟨o,es,ep,ho,r⟩:=hm;exact⟨o,es,ep,k _ o (fun z=>(hc _ z).2.1 rfl) ho,r⟩;refine(I.hok b u e).stay (fun c v hc' q=>k c v ?_ q) (fun _ q=>q) fun _ _ q=>q;rcases hc' with rfl|z;exact nit _ _ e;exact nit _ _ z
def oF{a b:Nat}(h:a<b):a≠b:=Qr h
def uV{a b:Nat}(h:b<a):a≠b:=Nat.ne_of_gt h
abbrev lN(a b:Nat):Prop:=a<b
def GL{o:PySem.Expr}{co:CE}{c p:Addr}{p1 lpos kpos pos:Pos}(L:IA X body cb scope params x pa (X.env.qual++"<lambda>") k kr cx)(hr:eC (kr+3) X.A)(hcm:X.calm=true)(hg:Gl X "sorted")(hm:X.mg "sorted"=none)(hv:ZE "sorted"=some (.builtin "sorted"))(ho:QE X o co)
  (hcode:X.env.code=.ref c) (C:codeHdIn X.K c p=true) (B:BP X.mg X.base) (hcl:closureFor scope X.env=pure [(x,cx)]) (hdef:defaultsOf params X.env=([],[]))
  (he:QJ [o] X.env=(false,eval o X.env)::QJ [] X.env:=by rfl) (hpl:(ZD pos (QJ [o] X.env)).any (·.1)=false:=by rfl) :
  QE X (.Call (.Name "sorted" p1) [o] [⟨some "key",.Lambda params body scope lpos,kpos⟩] pos) (xg (.cod p lpos (X.env.qual++"<lambda>")) k co cb):=⟨fun pins s σ H Q I hz=>oa hz fun m ρ S u S' sr lr hc post=>by
 obtain⟨⟨w,S1⟩,h1,hc⟩:=Q0.mp hc;dsimp only at hc;split at hc<;>try cases hc
 rename_i l;split at hc<;>try cases hc
 rename_i kus hS;obtain⟨ns,hn,hc⟩:=Q0.mp hc;split at hc<;>try cases hc
 rename_i cond;obtain⟨h64,j,hj⟩:=cond;obtain⟨su,hk,hc⟩:=Q0.mp hc;obtain⟨⟨ks,Sn⟩,run,hc⟩:=Q0.mp hc;injection hc with hc;obtain⟨rfl,rfl⟩:=Prod.mk.inj hc;have hk':ρ[k]?=some (some su):=Option.join_eq_some_iff.mp hk;refine wpAny_Call_Name_kw (sZ I hg hm hv (callWith_kw (thn ((ae ho av he).h.h pos pins s σ H (fun vs H1=>∃m1,Ext X.K m H m1 H1/\Sr X.K m1 S1 H1/\IsL X.K m1 H1 vs [.ref l]) I ⟨m,ρ,S,[.ref l],S1,sr,lr,?_,fun m1 vs H1 e sr1 i1=>⟨m1,e,sr1,i1⟩⟩) fun us s1 hu=>?_) (by rw[he];rfl) hpl));simp[ag,ay,h1];obtain⟨vs,H1,I1,rv,m1,e1,sr1,il⟩:=hu;obtain⟨v,rfl,iv⟩:=il.one;obtain⟨ad,had,rfl⟩:=iv.of_ref;obtain⟨uv,rfl,ru⟩:=mL rv;obtain rfl:uv=.ref ad:=ru;obtain⟨aj,haj,rfl,ps,hps,htr,hit⟩:=sr1.get hj;have kI:X.K.In X.base:=I.mod.kin;refine kws_cons (kla_eval hdef (Dx I1 hcode (codeHd_of_K kI C) B hps htr hcl hit fun f c' pm ctv ps' H2 s2 I2 hsz nf gf hcd keep hp2 ht2 hit2 rest hnc=>kws_nil ?_));obtain⟨oc,vsc,tc,ha1,ha2,ha3,ha4⟩:=hit2;have st:Ext X.K m1 H1 m1 H2/\Sr X.K m1 S1 H2:=by
  rcases hnc with hnc|rfl;have ncp:c'≠aj:=fun z=>by rw[z,hps]at hnc;cases hnc
  have eH:H2=upd (upd H1 c' (.frz oc (.own 0))) aj (.tbl ps'):=by
   funext b;by_cases b1:b=aj;subst b1;rw[aH];exact hp2;rw[aI b1];by_cases b2:b=c';subst b2;rw[aH];exact ha2;rw[aI b2];exact rest b b1 b2
  have sA:=f9 (o:=.frz oc (.own 0)) hnc;have srA:=sr1.same sA;have srB:=srA.put (ho:=.tbl ps') (o:=.cod aj lpos (X.env.qual++"<lambda>")) haj ⟨rfl,ps',aH,ht2,.inr ⟨c',oc,vsc,tc,ha1,by rw[aI ncp,aH],ha3,ha4⟩⟩;have eS:S1.set j (.cod aj lpos (X.env.qual++"<lambda>"))=S1:=by
   obtain⟨hlt,e⟩:=Q4.mp hj;rw[<-e];exact List.set_getElem_self hlt
  rw[eS]at srB;rw[eH];exact⟨Ext.trans (.of (bY sA)) (.of (srA.keep haj _)),srB⟩;exact⟨.refl,sr1⟩
 obtain⟨e2,sr2⟩:=st;obtain⟨ad',had',kvs,hD,ip⟩:=sr2.get hS;rw[had]at had';cases had';obtain⟨z,hd,vd,rel,dd⟩:=A8 I2.hok hD;obtain⟨ep,da⟩:=dd.dictAt;have hkk:kvs.map (·.1)=ns.map Sum.inl:=by rw[ip.1,qy hn]
 have lkv:kvs.length=ns.length:=by have:=congrArg List.length hkk;simpa using this
 have lv:vd.length=ns.length:=by rw[<-Paired.length rel];exact lkv
 have kd:vd.map (·.1)=ns.map Sum.inl:=by rw[<-hkk];exact u6 rel
 show wpAny (Qy X.prog X.w) X.A (call (.builtin "sorted") [.ref ad] [(Str.ofString "key",.ref f)]) _ _ s2;refine call_function_entry_kw kind_sorted plain_sorted entry_sorted (ksk_s1 _ _) ?_;unfold Builtin.«sorted»;refine Q5 (m:=checkCount "sorted" 1 1 _) (Qq (Q5 (PySem.W.kdu_collect (PySem.W.kdl_dict (kvs:=vd) (ep:=ep) hd) (show X.A.in1.handled=none from I.ok.hd hcm) da (by rw[lv,<-lkv];exact z) fun h1' tk acc up hac=>?_)));have hI:=En kd hac.1 hac.2;have hla:acc.toList.length=ns.length:=hI.length;have I3:Inv X pins σ H2 { s2 with heap:=h1',toks:=tk }:=I2.kept up;refine Q5 (wpAny_newList ?_ (by rw[hla,<-lkv];exact z));have gL:(h1'.push { cls:=.type "list",data:=.seq acc.toList.toArray }).get? h1'.objs.size=some (seqObj "list" acc.toList.toArray 0):=Qv _ rfl;refine Q5 (wpAny_holding (wpAny_call_entry_kw slot_list_sort ⟨_,gL,rfl⟩ entry_list_sort ?_ (ksk_l1 _ _)));rw[ksk_t1];generalize ea:h1'.objs.size=a at *;have zl:acc.toList.length<=QD:=by unfold QD;omega
 unfold ksk_tree;obtain⟨n1,g1⟩:∃n1,((h1'.push { cls:=.type "list",data:=.seq acc.toList.toArray }).update a (Obj.mapSeq fun _=>#[])).get? a=some (seqObj "list" #[] n1):=⟨_,get?_update_seq gL fun _=>#[]⟩;refine Q5 (listItems_at gL rfl (Q5 (listUpdate_at gL rfl (Q5 (seqEpoch_at g1 rfl (Q5 (wpAny_newTuple (Q5 (wpAny_newList (wpAny_holding ?_) (ZC _))) (by simpa using zl))))) (by simpa using zl) (ZC _))));have sz:((h1'.push { cls:=.type "list",data:=.seq acc.toList.toArray }).update a (Obj.mapSeq fun _=>(#[]:Array Q2))).objs.size=a+1:=by rw[Heap.size_update,Heap.size_push,ea]
 generalize eh:(((h1'.push { cls:=.type "list",data:=.seq acc.toList.toArray }).update a (Obj.mapSeq fun _=>(#[]:Array Q2))))=h2 at *;have keep2:∀b o,h1'.get? b=some o->h2.get? b=some o:=fun b o e=>by
  have lt:=QV e;rw[<-eh,Heap.get?_update_ne _ _ _ _ (oF (by rw[<-ea];exact lt))];exact Q6 _ e
 have keep4:∀b o,h1'.get? b=some o->((h2.push (seqObj "tuple" acc.toList.toArray 0)).push (seqObj "list" #[] 0)).get? b=some o:=fun b o e=>Q6 _ (Q6 _ (keep2 b o e));have szk:(h2.push (seqObj "tuple" acc.toList.toArray 0)).objs.size=a+2:=by rw[Heap.size_push,sz]
 have I4:Inv X pins σ H2 { s2 with heap:=(h2.push (seqObj "tuple" acc.toList.toArray 0)).push (seqObj "list" #[] 0),toks:=tk }:=I3.kept keep4;have loc:lN X.env.locals a:=by have:=I3.lt;rw[<-ea];exact this
 have s0:@LE.le Nat _ X.s₀.heap.objs.size a:=by have:=I3.sz;rw[<-ea];exact this
 have cel:∀y d,X.env.cells.lookup y=some d->lN d a:=fun y d e=>by
  obtain⟨v,o,ho,_⟩:=I3.cell y d e;rw[<-ea];exact QV ho
 have pnl:∀q∈X.pn++pins,lN q.1 a:=fun q hq=>by rw[<-ea];exact QV (I3.pin q hq).1
 have frl:∀b:Nat,@LE.le Nat _ a b->b∉X.fs:=fun b hb w=>by
  obtain⟨_,o,ho,_⟩:=I.ok.funs.mem w;exact absurd (QM (QV ho) (ZQ s0 hb)) (Zr _)
 have fa:lN f a:=by rw[<-ea];exact QV (up _ _ gf)
 have ff:f∉X.fs:=fun w=>by
  obtain⟨_,o,ho,_⟩:=I.ok.funs.mem w;exact absurd (QM (QV ho) (ZQ I1.sz hsz)) (Zr _)
 have fl:f≠X.env.locals:=uV (QM I1.lt hsz);have I5:=I4.pins_of (pins':=(f,kla_obj "<lambda>" (X.env.qual++"<lambda>") params body scope [(x,cx)] pm c' ctv)::(a,seqObj "list" #[] n1)::pins) fun q hq=>by
  rcases Qz.mp hq with w|hq;subst w;exact⟨keep4 _ _ (up _ _ gf),nf,fl,ff,fun v z=>nomatch z⟩;rcases Qz.mp hq with w|hq;subst w;exact⟨Q6 _ (Q6 _ g1),I3.hok.fresh (by rw[ea];exact Q7 _),uV loc,frl a (Q7 _),fun v z=>nomatch z⟩;exact I4.pin q (QC _ hq)
 have hcd4:((h2.push (seqObj "tuple" acc.toList.toArray 0)).push (seqObj "list" #[] 0)).CodeRec (.ref c') (X.env.qual++"<lambda>"):=⟨c',oc,vsc,tc,rfl,keep4 _ _ (up _ _ (I2.hok c' _ ha2).1),ha3,ha4⟩;refine DC (E:=X.xe) (s:={ s2 with heap:=(h2.push (seqObj "tuple" acc.toList.toArray 0)).push (seqObj "list" #[] 0),toks:=tk }) L (fun s H e=>e.in1.in1) hr.in1.in1 I5 ha2 hcd4 sr2 ((lr.mono e1).mono e2) hk' run hI (by omega) (kS:=(h2.push (seqObj "tuple" acc.toList.toArray 0)).objs.size) (Qv _ rfl) (I3.hok.fresh (show @LE.le Nat _ h1'.objs.size _ by rw[ea,szk];omega)) (uV (by rw[szk];omega)) (show @LE.le Nat _ _ _ by rw[szk];omega) (uV (by rw[szk];omega)) (fun y d e=>oF (by rw[szk];have:=cel y d e;omega)) (fun q hq=>oF (by rw[szk];have:=pnl q hq;omega)) (oF (by rw[szk];omega)) fun m3 H3 s3 h3 c3 I6 e3 sr3 nk3 k1 k2 k3=>?_;refine⟨_,rfl,Qq ⟨_,rfl,?_⟩⟩;have pa':=I6.pin (a,seqObj "list" #[] n1) (QC _ (QY _ QN));have I7:Inv X pins σ H3 s3:=I6.pins_of fun q hq=>I6.pin q (QC _ (QY _ (QY _ hq)));have I8:Inv X pins σ H3 { s3 with heap:=h3 }:=Inv.turnedC [a,(h2.push (seqObj "tuple" acc.toList.toArray 0)).objs.size] I7 (fun b o hb e=>k1 b o (fun z=>hb (by simp[z])) (fun z=>hb (by simp[z])) e) fun b hb=>by
  rcases Qz.mp hb with w|hb;subst w;exact⟨pa'.2.1,uV loc,s0,fun y d e=>oF (cel y d e),fun q hq=>oF (pnl q hq)⟩;rw[Qu.mp hb,szk];exact⟨by rw[<-szk];exact nk3,uV (by omega),show @LE.le Nat _ _ _ by omega,fun y d e=>oF (by have:=cel y d e;omega),fun q hq=>oF (by have:=pnl q hq;omega)⟩
 have lo:∀i∈xP ks,i<ns.length:=fun i hi=>by
  have:=ZN.mp ((hZ ks).mem_iff.mp hi);rw[mB run]at this;exact this
 have vl:bX ((sx ks ns).map V.int) ((xP ks).map fun i=>acc.toList.getD i Value.none):=by
  unfold sx;generalize xP ks=is at lo;induction is with
  |nil=>exact .nil
  |cons i r ih=>
   refine .cons ?_ (ih fun b hb=>lo b (QY _ hb));have hi:=lo i QN;obtain⟨t,ht⟩:=hI.get i ns[i] (QQ hi);dsimp only;rw[X8,X8,ht,QQ hi];exact⟨t,rfl⟩
 have lz:((sx ks ns).map V.int).length<=QD:=by
  have:=(hZ ks).length_eq;rw[ZY,mB run]at this;rw[Q9];unfold sx;rw[Q9,this];unfold QD;omega
 have I9:=I8.adopt (c:=a) (u:=.lst ((sx ks ns).map V.int)) ⟨lz,_,c3,vl,k3⟩ pa'.2.1 s0 (uV loc) (fun y d e=>oF (cel y d e)) (fun q hq=>oF (pnl q hq));exact⟨.ref a,_,I9,rfl,ft sr3 (mG _) (post.mono (((e1.trans e2).trans e3))) pa'.2.1⟩⟩
end
end OP
namespace L2
open PySem PySem.Spec PyProof.Rows OG
def Es(p:Addr)(H:Hp):Prop:=H p=some (.tbl #[])/\∀b,b≠p->H b=none\/∃o xs,H b=some (.frz o (.lst xs))
def Ag{P:Qx}{w:Z7}{K:Q1}{mg mb:Str->Option Q2}{k:Nat}{fa a p:Addr}{fd:Zu}{x:Str}{sp:Sp}{s₁:Q3}{vs:List Q2}{ns:List Int}
  (KX:K.In s₁.heap) (hns:s₁.heap.Ns mainGlobals mg) (hb:s₁.heap.Ns builtinsNs mb) (hbb:∀x:Str,x≠"__name__"->mb x=ZE x) (hlim:s₁.heap.NoLimit) (hg:s₁.gens=#[]) (hbm:BP mg s₁.heap)
  (hp:s₁.heap.get? p=some (PySem.W.tabObj #[])) (hpK:K.lookup p=none) (hpc:isCodeTable s₁.heap p)
  (ha:s₁.heap.get? a=some { cls:=.type "list",data:=.seq vs.toArray }) (hi:IntsAre vs ns) (hl:ns.length<=QD) (hr:eC k callerA)
  (F:∀base:Heap,K.In base->base.Ns mainGlobals mg->BP mg base->kC P w K mg base CX0 k fa fd [x] sp) (hbind:∀(s:Q3) (u:Q2),BindsTo s fd ⟨[u],[]⟩ [(x,u)])
  (hsp:∀H:Hp,Es p H->SqL K H a (ns.map V.int)->sp [.ref a] H (fun v _=>v=.bl true) fun _ _ _=>False) :
  codeAny (Qy P w) callerA (.call (.ref fa) ⟨[.ref a],[]⟩) (fun r s'=>r=.ok (.ret (.bool true))/\OldK s₁.heap s'.heap/\s'.os=s₁.os/\AllBare s'.gens) s₁:=by
 have rv:=iP hi;have lenV:=hi.length;have nap:a≠p:=fun z=>by rw[z,hp]at ha;cases ha
 have core:∀H:Hp,Es p H->SqL K H a (ns.map V.int)->HOk P w H s₁.heap->(∀b,H b≠none->b=a\/b=p)->(H a≠none->K.lookup a=none)->
   codeAny (Qy P w) callerA (.call (.ref fa) ⟨[.ref a],[]⟩) (fun r s'=>r=.ok (.ret (.bool true))/\OldK s₁.heap s'.heap/\s'.os=s₁.os/\AllBare s'.gens) s₁:=by
  intro H hO hS hok hA hK;have noA:∀{b:Addr} {o:Obj},s₁.heap.get? b=some o->(∀its n,o.data≠.seq its n)->(∀vs,o.data≠.fields vs)->H b=none:=fun{b o} e d1 d2=>by
   cases q:H b with
   |none=>rfl
   |some u=>
    rcases hA b (by rw[q];simp)with z|z;subst z;rw[ha]at e;cases e;exact absurd rfl (d1 _ _);subst z;rw[hp]at e;cases e;exact absurd rfl (d2 _)
  have nsK:∀{b:Addr} {m:Str->Option Q2},s₁.heap.Ns b m->(DQ s₁.heap H).Ns b m:=fun{b m} ⟨o,es,ep,e,d,r⟩=>⟨o,es,ep,qE e (noA e (by rw[d];intro _ _ z;cases z) (by rw[d];intro _ z;cases z)),d,r⟩;have hKb:K.In (DQ s₁.heap H):=fun b o e=>qE (KX b o e) (by
   cases q:H b with
   |none=>rfl
   |some u=>
    rcases hA b (by rw[q];simp)with z|z;subst z;rw[hK (by rw[q];simp)]at e;cases e;subst z;rw[hpK]at e;cases e)
  have hM:Mod K mg (DQ s₁.heap H):=⟨hKb,nsK hns,⟨mb,nsK hb,hbb⟩,let ⟨mc,h1,h2⟩:=hlim;⟨mc,nsK h1,h2⟩⟩;have hB:BP mg (DQ s₁.heap H):=by
   obtain⟨bm,ob,b1,b2,b3,b4,b5,b6⟩:=hbm;exact⟨bm,ob,b1,b2,qE b3 (noA b3 (by rw[b6];intro _ _ z;cases z) (by rw[b6];intro _ z;cases z)),b4,b5,b6⟩
  have e0:vK P w K mg (DQ s₁.heap H) callerA [] s₁ H:=⟨rfl,hM,fun b o e=>Hq e,Nat.le_of_eq (AF _ _),trivial,fun b hb=>absurd (show b∈([]:List Addr)from hb) (by simp),hok,.of_eq hg⟩;refine codeAny_mono ((F _ hKb (nsK hns) hB).run callerA [] s₁ H ⟨[.ref a],[]⟩ [.ref a] [.ref a] _ _ hr e0 (hbind s₁ (.ref a)) (.cons rfl .nil) (hsp H hO hS)) fun r s' h=>?_;cases r with
  |error e=>exact h.elim
  |ok fl=>
   cases fl with
   |next=>exact False.elim h
   |brk=>exact False.elim h
   |cont=>exact False.elim h
   |ret u=>
    obtain⟨v,H',os,bare,un,hok',r',q⟩:=h;have q':v=.bl true:=q;subst q';obtain rfl:u=Value.bool true:=r';have kp:∀b o,b≠p->s₁.heap.get? b=some o->s'.heap.get? b=some o:=fun b o nb e=>by
     cases q:H b with
     |none=>exact un.keep b o e q (by intro z;exact absurd (show b∈([]:List Addr)from z) (by simp)) (by simp)
     |some u=>
      rcases hO.2 b nb with z|⟨ob,xs,z⟩;rw[q]at z;cases z;have z2:=un.frzs b ob _ z;obtain⟨e1,_⟩:=hok b _ z;obtain⟨e2,_⟩:=hok' b _ z2;rw[e]at e1;cases e1;exact e2
    obtain⟨more,hm⟩:=un.tbls p _ hO.1;have gp:s'.heap.get? p=some { cls:=.none,data:=.fields (#[]++more) }:=hok' p _ hm;refine⟨rfl,⟨fun b o e=>?_,fun b o e=>?_⟩,os,bare⟩;by_cases z:b=p;subst z;rw[hp]at e;cases e;exact .inr (.inl ⟨hpc,rfl,#[],more,rfl,gp⟩);exact .inl (kp b o z e);by_cases z:b=p;subst z;exact⟨_,gp⟩;exact⟨o,kp b o z e⟩
 cases hk:K.lookup a with
 |some o=>
  have e:=KX a o hk;rw[ha]at e;cases e;refine core (upd (fun _=>none) p (.tbl #[])) ⟨aH,fun b nb=>.inl (by rw[aI nb])⟩ (.inr ⟨_,vs.toArray,_,hk,rfl,rfl,rfl,by rw[QR,lenV];exact hl,by simpa using rv⟩) (fun b u z=>?_) (fun b z=>?_) fun z=>absurd (by rw[aI nap]) z;by_cases nb:b=p;subst nb;rw[aH]at z;cases z;exact hp;rw[aI nb]at z;cases z;by_cases nb:b=p;exact .inr nb;exact absurd (by rw[aI nb]) z
 |none=>
  refine core (upd (upd (fun _=>none) a (.frz { cls:=.type "list",data:=.seq vs.toArray } (.lst (ns.map V.int)))) p (.tbl #[])) ⟨aH,fun b nb=>?_⟩ (.inl (.inr ⟨{ cls:=.type "list",data:=.seq vs.toArray },by rw[aI nap];exact aH⟩)) (fun b u z=>?_) (fun b z=>?_) fun _=>hk;rw[aI nb];by_cases hb:b=a;subst hb;exact .inr ⟨_,_,aH⟩;exact .inl (by rw[aI hb]);by_cases nb:b=p;subst nb;rw[aH]at z;cases z;exact hp;rw[aI nb]at z;by_cases hb:b=a;subst hb;rw[aH]at z;cases z;exact⟨ha,by rw[Q9];exact hl,vs,_,rv,ha⟩;rw[aI hb]at z;cases z;by_cases nb:b=p;exact .inr nb;rw[aI nb]at z;by_cases hb:b=a;exact .inl hb;exact absurd (by rw[aI hb]) z
def Ce{l:PySem.W.OpenLaw}{n k:Nat}{q:Qx}{eG:List Str}{XP:(Str->Option Q2)->Heap->Prop}{YP:Z7->Heap->Prop}{d:DefRec}{K:Params->Q1}{sp:Z7->Sp}{x:Str}{p:Addr}
  (hn:l.most=some n) (hn2:n<=QD) (hdf:d.params.defaults=[]) (hr:eC k callerA)
  (hY:∀(w:Z7) (h:Heap),YP w h->(K w.params).In h/\h.get? p=some (PySem.W.tabObj #[])) (hK:∀w:Z7,(K w.params).lookup p=none) (hC:∀w:Z7,∃c,PySem.W.codeHdIn (K w.params) c p=true)
  (F:∀(w:Z7) (mg:Str->Option Q2) (fa:Addr) (h:Heap),(K w.params).In h->h.Ns mainGlobals mg->mg d.name=some (.ref fa)->
   ∃fd:Zu,(∀(s:Q3) (u:Q2),BindsTo s fd ⟨[u],[]⟩ [(x,u)])/\
    ∀base:Heap,(K w.params).In base->base.Ns mainGlobals mg->BP mg base->kC l.prog w (K w.params) mg base CX0 k fa fd [x] (sp w))
  (hsp:∀(w:Z7) (H:Hp) (a:Addr) (ns:List Int),ns.length<=n->Es p H->SqL (K w.params) H a (ns.map V.int)->sp w [.ref a] H (fun v _=>v=.bl true) fun _ _ _=>False) :
  PySem.W.WalkO q eG XP YP l.row.toRowW d [] (fun f vs=>PySem.call f vs):=by
 refine Att.attach_call hn hdf fun w s₀ s₁ mg mb fa o pm cd doc a vs ns G Y ho hd hcd hmg hobj hints hlen hg=>?_;obtain⟨KX,hp⟩:=hY w _ Y;obtain⟨fd,hb,hF⟩:=F w mg fa _ KX G.T.g hmg;obtain⟨c,hc⟩:=hC w;have C:=PySem.W.codeHd_of_K KX hc;obtain⟨oc,vc,file,tf,flags,tg,inF,text,tt,c1,c2,c3,c4,_⟩:=C;exact Ag KX G.T.g G.T.b G.T.builtins G.T.nolimit hg G.T.bmain hp (hK w) ⟨c,oc,vc,c1,c2,c3,c4⟩ hobj hints (ZQ hlen hn2) hr hF hb fun H hO hS=>hsp w H a ns hlen hO hS
end L2
namespace OP
open PySem PySem.Spec PyProof PyProof.Rows L2 OG PySem.W
def wb(p:Addr)(K:Q1):Sp:=fun vs H Q _=>∃(a:Addr) (ns:List Int),vs=[.ref a]/\KL K H a ns/\ns.length<=63/\H p=some (.tbl #[])/\∀H',Q (.bl true) H'
def Lh{K:Q1}{H:Hp}{a p:Addr}{ns:List Int}(hO:Es p H)(h:SqL K H a (ns.map V.int)):KL K H a ns:=by
 have no:∀xs,H a≠some (.lst xs):=fun xs e=>by
  by_cases z:a=p;subst z;rw[hO.1]at e;cases e;rcases hO.2 a z with q|⟨o,ys,q⟩;rw[q]at e;cases e;rw[q]at e;cases e
 rcases h with(h|h)|h;exact absurd h (no _);exact .inl h;exact .inr h
def Dw{K:Q1}{H:Hp}{a p:Addr}{pos:Pos}{qual:Str}{ns:List Int}{c:CS}{r:Rho}{σ:L2.St}{Q:VK}{nx bk ct:L2.St->Hp->Prop}(h:KL K H a ns)(hp:H p=some (.tbl #[]))
  (ok:∃ρ' S',c (some (.kl ns)::r) [.cod p pos qual]=some (.rt (.bl true),ρ',S')) (q:∀H',Q (.bl true) H')
  (hr:r=QX r.length none:=by rfl) (hl:σ.length=r.length:=by rfl):tS K c { nx:=nx,rt:=Q,bk:=bk,ct:=ct } (some (.ref a)::σ) H:=by
 obtain⟨ρ',S',e⟩:=ok;refine⟨[p],_,_,_,ρ',S',⟨rfl,by simp,fun l ad o e1 e2=>?_⟩,⟨by simp[hl],fun i u e1=>?_⟩,e,fun m' v H' _ _ iv=>by rw[iv.of_bl];exact q H'⟩;cases l with
 |zero=>
  simp at e1 e2;subst e1;subst e2;exact⟨rfl,#[],hp,trivial,.inl rfl⟩
 |succ l=>simp at e1
 cases i with
 |zero=>
  simp at e1;subst e1;exact⟨.ref a,rfl,.kl_ h⟩
 |succ i=>
  simp only[ZO]at e1;rw[hr,Zy]at e1;split at e1<;>cases e1
section
variable{P:Qx}{w:Z7}{K:Q1}{base:Heap}{mg:Str->Option Q2}{x q:Str}{st:Z0}{C c p:Addr}{ps N:List Str}{k:Nat}{cs:CS}{cl:Cl}
def IB(K:Q1)(C:Addr)(x:Str)(c p:Addr):Prop:=∃f o fd,PySem.W.findIn K (.ref C) x=some (some (.ref f))/\K.lookup f=some o/\o.data=.func fd/\fd.code=.ref c/\PySem.W.codeHdIn K c p=true
def MtD.pureC(d:MtD K cl.C x q st ps)(cd:IB K cl.C x c p)(S:bU N ps (ax st))
  (hb:∀(f:Addr) (A:Z9) (outer:List Env) (s:Q3) (H:Hp) (E:XK),eC k (A.deeper (envOfC q (ax st) s.heap.objs.size f (.ref c)))->WSs (mr CX0 P w K mg base N q (ax st) f (.ref c) A outer s H E).nox (bF st) (tS K cs)) :
  uC P w K mg base cl x (k+1) ps (fnU N.length ps.length cs):=by
 obtain⟨fa,fd,F,b,m⟩:=d;obtain⟨oc,od,kV,doc,pm,an,cdv,ct,osl,rfl,lk,hcd⟩:=F.ex;obtain⟨f,o,fd2,z1,z2,z3,z4,z5⟩:=cd;have ef:f=fa:=by have:=m.at_;rw[z1]at this;cases this;rfl
 subst ef;rw[lk]at z2;cases z2;cases z3;have e:cdv=.ref c:=z4;subst e;refine⟨f,_,m,?_,b⟩;refine HY lk hcd S (fun vs H Q E h=>mz h) fun A outer s H vs Q E hr h=>⟨_,(hb f A outer s H E hr).h.nox,qU (X:=(mr CX0 P w K mg base N q (ax st) f (.ref c) A outer s H E).nox) (body:=[]) (ps:=ps) rfl h⟩
end
end OP
namespace OP
open PySem PySem.Spec PyProof PyProof.Rows L2 OG
variable{P:Qx}{K:Q1}{base:Heap}{mg:Str->Option Q2}{x q:Str}{ps N:List Str}{c:CS}{cl:Cl}
section
variable{w:Z7}{h:Heap}{st:Z0}{f C:Addr}{k:Nat}{fd:Zu}
structure IS(K:Q1)(x qual:Str)(st:Z0)(f:Addr)(fd:Zu):Prop where
 ex:∃(oc:Q2) (od:Option Addr) (kV doc pm:Q2) (an:Option Addr) (cdv ct:Q2) (osl:Array (Option Q2)) (dT:Addr) (td:Option Addr) (tn:Nat) (tl:Array (Option Q2)),
  fd=PySem.W.fnOf x qual (gK st) (bF st) (ax st) (.ref dT) kV doc pm an cdv ct/\K.lookup f=some ⟨oc,od,.func fd,osl⟩/\PySem.W.codeIn K cdv qual=true/\K.lookup dT=some ⟨.type "tuple",td,.seq #[.none] tn,tl⟩
def IS.pure(F:IS K x q st f fd)(S:bU N ps (ax st))
  (hb:∀(cdv:Q2) (A:Z9) (outer:List Env) (s:Q3) (H:Hp) (E:XK),eC k (A.deeper (envOfC q (ax st) s.heap.objs.size f cdv))->
   WSs (mr CX0 P w K mg base N q (ax st) f cdv A outer s H E).nox (bF st) (tS K c)):kC P w K mg base CX0 (k+1) f fd ps (yl K (fnU N.length ps.length c)):=by
 obtain⟨oc,od,kV,doc,pm,an,cdv,ct,osl,dT,td,tn,tl,rfl,lk,hcd,_⟩:=F.ex;exact HY lk hcd S (fun vs H Q E h=>mz h) fun A outer s H vs Q E hr h=>⟨_,(hb cdv A outer s H E hr).h.nox,qU (X:=(mr CX0 P w K mg base N q (ax st) f cdv A outer s H E).nox) (body:=[]) (ps:=ps) rfl h⟩
abbrev BdE(x q:Str)(st:Z0)(ps:List Str)(ds:List Q2):Prop:=∀us:List Q2,(us++ds).length=ps.length->∀(kV doc pm:Q2) (an:Option Addr) (cdv ct:Q2) (dT:Addr),∃k:Option (Array Q2)->Sem (List (Str×Q2)),bindArgs (PySem.W.fnOf x q (gK st) (bF st) (ax st) (.ref dT) kV doc pm an cdv ct) ⟨us,[]⟩=seqItems? (.ref dT) >>= k/\k (some #[.none])=pure (ps.zip (us++ds))
def IS.binds{ds:List Q2}(F:IS K x q st f fd)(b:BdE x q st ps ds):gW K fd ps ds:=by
 obtain⟨oc,od,kV,doc,pm,an,cdv,ct,osl,dT,td,tn,tl,rfl,lk,hcd,ht⟩:=F.ex;intro s us hK hl;obtain⟨k,h1,h2⟩:=b us hl kV doc pm an cdv ct dT;exact BindsTo.of_defaults (n:=tn) rfl (hK _ _ ht) rfl h1 h2
def MtE(K:Q1)(C:Addr)(x q:Str)(st:Z0):Prop:=∃f,PySem.W.findIn K (.ref C) x=some (some (.ref f))/\PySem.W.isFn K (.ref f)=true/\∃fd,IS K x q st f fd
def mtE{oc:Q2}{od an td:Option Addr}{osl tl:Array (Option Q2)}{kV doc pm cdv ct:Q2}{dT:Addr}{tn:Nat}(a:PySem.W.findIn K (.ref C) x=some (some (.ref f)))(i:PySem.W.isFn K (.ref f)=true)(l:K.lookup f=some ⟨oc,od,.func (PySem.W.fnOf x q (gK st) (bF st) (ax st) (.ref dT) kV doc pm an cdv ct),osl⟩)(c:PySem.W.codeIn K cdv q=true)(t:K.lookup dT=some ⟨.type "tuple",td,.seq #[.none] tn,tl⟩):MtE K C x q st:=⟨f,a,i,_,⟨_,_,_,_,_,_,_,_,_,_,_,_,_,rfl,l,c,t⟩⟩
def MkE(K:Q1)(mg:Str->Option Q2)(C:Addr)(x q:Str)(st:Z0)(ps:List Str)(ds:List Q2):Prop:=∃fa fd,IS K "__init__" q st fa fd/\gW K fd ps ds/\Mk K C fa/\mg x=some (.ref C)
def BN.mkE{ns:List Str}{ms:List (Str×Str×Z0)}{ds:List Q2}(h0:BN K x C ns ms)(d:MtE K C "__init__" q st)(X:K.In h)(G:h.Ns mainGlobals mg)(b:BdE "__init__" q st ps ds):MkE K mg C x q st ps ds:=by
 obtain⟨f,a,i,fd,F⟩:=d;exact⟨f,fd,F,F.binds b,⟨h0.mc,a,i,h0.kc⟩,PySem.W.mg_of X G h0.a⟩
def MkE.pure{NS:List Str}(d:MkE K mg cl.C x q st ps [])(T:TC K cl NS)(S:bU N ps (ax st))
  (hb:∀(f:Addr) (cdv:Q2) (A:Z9) (outer:List Env) (s:Q3) (H:Hp) (E:XK),eC k (A.deeper (envOfC q (ax st) s.heap.objs.size f cdv))->WSs (mr CX0 P w K mg base N q (ax st) f cdv A outer s H E).nox (bF st) (tS K c))
  (nd:NS.Nodup:=by decide +kernel) (few:NS.length<1000:=by decide):CMk P w K mg base cl x (k+1) ps (fnU N.length ps.length c):=by
 obtain⟨fa,fd,F,b,m,g⟩:=d;exact⟨⟨fa,fd,m,F.pure S (hb fa),b,g⟩,by rw[T.ns];exact nd,by rw[T.ns];exact few⟩
end
variable{X:Cx}{e:QB}{pos:Pos}
section
variable{a b:QB}{ca cb cv:CE}{c:Cl}{f:Str}{i:Nat}{NS:List Str}
def qv(i:Nat){x:Str}(hN:X.N[i]?=some x:=by rfl)(hv:Vis X.env.scope x:=by first|exact Or.inl rfl|exact Or.inr (Or.inl rfl)|exact Or.inr (Or.inr rfl))(hd:(x == ("__debug__":Str))=false:=by decide)(hcd:(x == ("__classdict__":Str))=false:=by decide):QE X (.Name x pos) (ah i):=CC (wpv i hN hv hd hcd)
def qr(h:QE X e ca):QSs X [.Return (some e) pos] (bT ca):=aN (sL h)
def qI{i:Int}{j}:QE X (.Constant (.int i) j pos) (cC (.int i)):=NU Gj
def qS{i:Str}{j}:QE X (.Constant (.str i) j pos) (cC (.str i)):=NQ Ge
def qN{j}:QE X (.Constant .none j pos) (cC .non):=NR Gh
def qB{i:Bool}{j}:QE X (.Constant (.bool i) j pos) (cC (.bl i)):=Qh JE
def qx(hu:X.A.units+1<cLine)(ha:QE X a ca)(hb:QE X b cb)(hs:L3 b:=by intro _ _;rfl):QE X (.Subscript a b pos) (cOp fIx ca cb):=Pf hu ha hb hs hs
def qf(T:TC X.K c NS)(h:NS[i]?=some f)(he:QE X e ca)(hb:attributeBase e f X.env (eval e X.env)=eval e X.env:=by rfl):QE X (.Attribute e f pos) (aS c i ca):=GQ T.cl (T.na i h) (T.ix h) he hb
def qsf{o:QB}{co:CE}{pos':Pos}(T:TC X.K c NS)(h:NS[i]?=some f)(ho:QE X o co)(hv:QE X e cv)(hs:Za e (some (.Attribute o f pos')) pos.line X.env=pure false:=by rfl):QS X (.Assign [.Attribute o f pos'] e pos) (bz c i co cv):=GJ T.cl (T.na i h) (T.ix h) ho hv hs
def qss(i:Nat){x:Str}{pos':Pos}(hN:X.N.Nodup)(he:QE X e ca)(hi:X.N[i]?=some x:=by rfl)(hx:Loc X.env.scope x:=by first|exact Or.inl rfl|exact Or.inr rfl)(hs:Za e (some (.Name x pos')) pos.line X.env=pure false:=by rfl)(hf:X.fn x=true\/X.env.scope.names.lookup x=some .local:=by first|exact .inl rfl|exact .inr rfl|assumption) :
  QS X (.Assign [.Name x pos'] e pos) (dF i ca):=J6 hN hi hx he hs hf
def qm{mn:Str}{g:Fn}{k:Nat}{ps:List Str}{o:QB}{es:List QB}{co:CE}{cr:CA}{apos:Pos}{pl:Sem Bool}(T:TC X.K c NS)(F:uC X.prog X.w X.K X.mg X.base c mn k ps g)(hr:eC k X.A)(ho:QE X o co)(ha:QA X (e::es) cr)(hmn:mn∉NS:=by decide +kernel)
  (hst:QJ (e::es) X.env=(false,eval e X.env)::QJ es X.env:=by rfl) (hpl:(ZD pos (QJ es X.env)).any (·.1)=false:=by rfl) (ht:eval (.Call (.Attribute o mn apos) (e::es) [] pos) X.env=(do
   let ov <-eval o X.env
   standAt apos.atName
   let (f,first) <-holding [ov] (getMethod ov mn pl)
   callWith pos f first (ZD pos (QJ (e::es) X.env)) (backToKw pos (keywordEach [] X.env))):=by rfl):QE X (.Call (.Attribute o mn apos) (e::es) [] pos) (aM c g co cr):=Ka T.cl F hr (T.nm hmn) ho ha hst hpl ht
def qm0{mn:Str}{g:Fn}{k:Nat}{ps:List Str}{o:QB}{co:CE}{apos:Pos}{pl:Sem Bool}(T:TC X.K c NS)(F:uC X.prog X.w X.K X.mg X.base c mn k ps g)(hr:eC k X.A)(ho:QE X o co)(hmn:mn∉NS:=by decide +kernel)
  (ht:eval (.Call (.Attribute o mn apos) [] [] pos) X.env=(do
   let ov <-eval o X.env
   standAt apos.atName
   let (f,first) <-holding [ov] (getMethod ov mn pl)
   callWith pos f first (ZD pos (QJ [] X.env)) (backToKw pos (keywordEach [] X.env))):=by rfl):QE X (.Call (.Attribute o mn apos) [] [] pos) (aM c g co ay):=zC T.cl F hr (T.nm hmn) ho ht
end
def PH(N P:List Str)(sc:Zl):Bool:=decide (sc.kind=.function)&&!sc.isCoroutine&&!sc.isGenerator&&decide N.Nodup&&decide (N.take P.length=P)&&P.all (fun x=>decide (sc.names.lookup x=some .local)||decide (sc.names.lookup x=some .cell))&&sc.names.all fun y=>!decide (y.2=.free)
def fsc{N P:List Str}{sc:Zl}(h:PH N P sc=true:=by decide +kernel):bU N P sc:=by
 unfold PH at h;simp only[Zo,decide_eq_true_eq,Bool.not_eq_true',Ze,Bool.or_eq_true,decide_eq_false_iff_not]at h;obtain⟨⟨⟨⟨⟨⟨h1,h2⟩,h3⟩,h4⟩,h5⟩,h6⟩,h7⟩:=h;exact⟨h1,h2,h3,h4,h5,h6,h7⟩
section
variable{w:Z7}{st:Z0}{k:Nat}
def MtD.pu(d:MtD K cl.C x q st ps)(N:List Str)
  (hb:∀{f:Addr} {cdv:Q2} {A:Z9} {outer:List Env} {s:Q3} {H:Hp} {E:XK},(hr:eC k (A.deeper (envOfC q (ax st) s.heap.objs.size f cdv)))->(A.deeper (envOfC q (ax st) s.heap.objs.size f cdv)).units+1<cLine->N.Nodup->WSs (mr CX0 P w K mg base N q (ax st) f cdv A outer s H E).nox (bF st) (tS K c)) (S:bU N ps (ax st):=by exact fsc) :
  uC P w K mg base cl x (k+1) ps (fnU N.length ps.length c):=d.pure S fun _ _ _ _ _ _ _ hr=>hb hr (vg hr) S.nd
def MkD.pu{NS:List Str}(d:MkD K mg cl.C x q st ps)(T:TC K cl NS)(N:List Str)
  (hb:∀{f:Addr} {cdv:Q2} {A:Z9} {outer:List Env} {s:Q3} {H:Hp} {E:XK},(hr:eC k (A.deeper (envOfC q (ax st) s.heap.objs.size f cdv)))->(A.deeper (envOfC q (ax st) s.heap.objs.size f cdv)).units+1<cLine->N.Nodup->WSs (mr CX0 P w K mg base N q (ax st) f cdv A outer s H E).nox (bF st) (tS K c)) (S:bU N ps (ax st):=by exact fsc)
  (nd:NS.Nodup:=by decide +kernel) (few:NS.length<1000:=by decide):CMk P w K mg base cl x (k+1) ps (fnU N.length ps.length c):=d.pure T S (fun _ _ _ _ _ _ _ hr=>hb hr (vg hr) S.nd) nd few
def MkE.pu{NS:List Str}(d:MkE K mg cl.C x q st ps [])(T:TC K cl NS)(N:List Str)
  (hb:∀{f:Addr} {cdv:Q2} {A:Z9} {outer:List Env} {s:Q3} {H:Hp} {E:XK},(hr:eC k (A.deeper (envOfC q (ax st) s.heap.objs.size f cdv)))->(A.deeper (envOfC q (ax st) s.heap.objs.size f cdv)).units+1<cLine->N.Nodup->WSs (mr CX0 P w K mg base N q (ax st) f cdv A outer s H E).nox (bF st) (tS K c)) (S:bU N ps (ax st):=by exact fsc)
  (nd:NS.Nodup:=by decide +kernel) (few:NS.length<1000:=by decide):CMk P w K mg base cl x (k+1) ps (fnU N.length ps.length c):=d.pure T S (fun _ _ _ _ _ _ _ hr=>hb hr (vg hr) S.nd) nd few
def _root_.OG.Def.pu(d:Def K mg x st ps)(N:List Str)
  (hb:∀{f:Addr} {cdv:Q2} {A:Z9} {outer:List Env} {s:Q3} {H:Hp} {E:XK},(hr:eC k (A.deeper (envOfC x (ax st) s.heap.objs.size f cdv)))->(A.deeper (envOfC x (ax st) s.heap.objs.size f cdv)).units+1<cLine->N.Nodup->WSs (mr CX0 P w K mg base N x (ax st) f cdv A outer s H E).nox (bF st) (tS K c)) (S:bU N ps (ax st):=by exact fsc) :
  yp P w K mg base x (k+1) ps (fnU N.length ps.length c):=d.pure S fun _ _ _ _ _ _ _ hr=>hb hr (vg hr) S.nd
end
def uC.up{P:Qx}{w:Z7}{K:Q1}{mg:Str->Option Q2}{base:Heap}{c:Cl}{x:Str}{j k:Nat}{ps:List Str}{f:Fn}(h:uC P w K mg base c x j ps f)(l:j<=k:=by decide):uC P w K mg base c x k ps f:=h.mono l
def tY(c:Cl)(f:Fn):Fn:=fun us S=>fU c f (us++[.non]) S
structure Fy(P:Qx)(w:Z7)(K:Q1)(mg:Str->Option Q2)(base:Heap)(c:Cl)(x:Str)(k:Nat)(ps:List Str)(f:Fn):Prop where
 ex:∃fa fd,Mk K c.C fa/\kC P w K mg base CX0 k fa fd ps (yl K f)/\gW K fd ps [.none]/\mg x=some (.ref c.C)
 nd:c.ns.Nodup
 few:c.ns.length<1000
def Fy.mono{K:Q1}{c:Cl}{P:Qx}{w:Z7}{mg:Str->Option Q2}{base:Heap}{x:Str}{j k:Nat}{ps:List Str}{f:Fn}(h:Fy P w K mg base c x j ps f)(l:j<=k):Fy P w K mg base c x k ps f:=by
 obtain⟨fa,fd,a,b,d⟩:=h.ex;exact⟨⟨fa,fd,a,b.mono l,d⟩,h.nd,h.few⟩
section
variable{c:Cl}
def z9{g:Fn}{cr:CA}(nd:c.ns.Nodup)(few:c.ns.length<1000):∀σ H Q,tE K (cCB (tY c g) cr) σ H Q->Cn c.C (yl K g) [.non] E0 (tA K cr) σ H Q:=by
 rintro σ H Q ⟨m,ρ,S,u,S',sr,lr,hc,post⟩;obtain⟨⟨us,S1⟩,h1,h2⟩:=Q0.mp hc;obtain⟨⟨w,S2⟩,h3,h4⟩:=Q0.mp h2;refine⟨m,ρ,S,us,S1,sr,lr,h1,fun m1 vs H1 e1 sr1 i1 x dx hx hdx ne=>?_⟩;cases w with
 |non=>
  cases h4;have s1:Ep H1 (upd H1 dx (.own x)):=f9 hdx _;have hx2:(upd H1 dx (.own x)) x=none:=by rw[aI (Ne.symm ne)];exact hx
  have ee:Ext K m1 H1 (m1++[x]) (upd (upd H1 dx (.own x)) x (.ins c.C dx [])):=.new ⟨fun b xs q=>(bO hx2 _).t b xs ((bY s1).t b xs q),fun b xs q=>(bO hx2 _).l b xs ((bY s1).l b xs q),fun b xs q=>(bO (K:=K) hx2 _).c b xs ((bY (K:=K) s1).c b xs q)⟩;refine⟨m1++[x],.ref S1.length::(us++[.non]),S1++[.ins c (QX c.ns.length none)],.non,S2,.cons_ (.ref_ (dW sr1.len)) ((i1.mono ee).append (.cons_ .non_ .nil_)),(sr1.same s1).new (o:=.ins c (QX c.ns.length none)) hx2 ⟨dx,[],aH,InF.new nd few⟩,h3,fun m2 v2 H2 e2 sr2 i2=>⟨i2.of_non,?_⟩⟩;exact post m2 _ H2 ((e1.trans ee).trans e2) sr2 (.ref_ (e2.get (dW sr1.len)))
 |_=>simp at h4
def GP{x:Str}{g:Fn}{k:Nat}{ps:List Str}{es:List QB}{cr:CA}{p:Pos}(M:Fy X.prog X.w X.K X.mg X.base c x k ps g)(hr:eC (k+1) X.A)(hg:Gl X x)(ha:QA X (e::es) cr)
  (hdb:(x == ("__debug__":Str))=false:=by decide) (he:QJ (e::es) X.env=(false,eval e X.env)::QJ es X.env:=by rfl) (hpl:(ZD pos (QJ es X.env)).any (·.1)=false:=by rfl):QE X (.Call (.Name x p) (e::es) [] pos) (cCB (tY c g) cr):=by
 obtain⟨fa,fd,hm,F,hb,hx⟩:=M.ex;exact(vR (dvs:=[.non]) hm F hr hg hx hb (.cons (by first|rfl|trivial|(unfold cI;rfl)) .nil) zM ha.h hdb he hpl).imp (z9 M.nd M.few)
end
section
variable{w:Z7}{st:Z0}{k:Nat}
def MkE.pureN{NS:List Str}(d:MkE K mg cl.C x q st ps [.none])(T:TC K cl NS)(S:bU N ps (ax st))
  (hb:∀(f:Addr) (cdv:Q2) (A:Z9) (outer:List Env) (s:Q3) (H:Hp) (E:XK),eC k (A.deeper (envOfC q (ax st) s.heap.objs.size f cdv))->WSs (mr CX0 P w K mg base N q (ax st) f cdv A outer s H E).nox (bF st) (tS K c))
  (nd:NS.Nodup:=by decide +kernel) (few:NS.length<1000:=by decide):Fy P w K mg base cl x (k+1) ps (fnU N.length ps.length c):=by
 obtain⟨fa,fd,F,b,m,g⟩:=d;exact⟨⟨fa,fd,m,F.pure S (hb fa),b,g⟩,by rw[T.ns];exact nd,by rw[T.ns];exact few⟩
def MkE.puN{NS:List Str}(d:MkE K mg cl.C x q st ps [.none])(T:TC K cl NS)(N:List Str)
  (hb:∀{f:Addr} {cdv:Q2} {A:Z9} {outer:List Env} {s:Q3} {H:Hp} {E:XK},(hr:eC k (A.deeper (envOfC q (ax st) s.heap.objs.size f cdv)))->(A.deeper (envOfC q (ax st) s.heap.objs.size f cdv)).units+1<cLine->N.Nodup->WSs (mr CX0 P w K mg base N q (ax st) f cdv A outer s H E).nox (bF st) (tS K c)) (S:bU N ps (ax st):=by exact fsc)
  (nd:NS.Nodup:=by decide +kernel) (few:NS.length<1000:=by decide):Fy P w K mg base cl x (k+1) ps (fnU N.length ps.length c):=d.pureN T S (fun _ _ _ _ _ _ _ hr=>hb hr (vg hr) S.nd) nd few
end
end OP
namespace OQ
open PySem PySem.Spec PyProof.Rows L2 OG OP
def fM:CS:=
 (aV (dF 3 (cOp tX (cOp iM (cOp iM (cOp iM (cOp oR (ah 3) (ah 3)) (cOp oR (cC (.int 50021)) (ah 3))) (cOp oR (cC (.int 19)) (ah 5))) (cC (.int 7))) (cC (.int 2147483563))))
  (dF 4 (cOp iM (cOp oR (ah 4) (cC (.int 2147483563))) (ah 3))))
def iq:CS:=
 (aV (dF 2 (cOp iM (cOp oR (cC (.int 5)) (ah 1)) (cC (.int 3))))
  (aV (dQ (aR (cOp fLt (ah 1) (cCB jI (ag (ah 0) ay)))) (dF 2 (cOp fIx (ah 0) (ah 1))) bP)
  (aV (dQ (aR (cOp fEq (cOp tX (ah 2) (cC (.int 2))) (cC (.int 0)))) (bT (mH (ag (cOp E9 (ah 2) (cC (.int 2))) ay))) bP)
  (aV (dF 3 (cOp tX (cOp iM (cOp iM (cOp oR (ah 2) (cC (.int 30011))) (cOp oR (cC (.int 977)) (ah 1))) (cC (.int 41))) (cC (.int 2147483563))))
  (aV (dF 4 (cC (.int 0)))
  (aV (oV (bS (ag (cC (.int 60)) ay)) (gNm 5) (fM ))
  (bT (mH (ag (ah 4) ay)))))))))
def kY:CS:=
 (aV (dF 2 (cOp tX (cOp fIx (ah 0) (cC (.int 0))) (ah 1)))
  (aV (i8 (ah 0) (cC (.int 0)) (cOp E9 (cOp fIx (ah 0) (cC (.int 0))) (ah 1)))
  (bT (ah 2))))
def gS(cAttempt:Cl):CS:=
 (aV (bz cAttempt 0 (ah 0) (ah 1))
  (aV (bz cAttempt 1 (ah 0) vx)
  (aV (bz cAttempt 2 (ah 0) vx)
  (aV (bz cAttempt 3 (ah 0) (cC .non))
  (aV (bz cAttempt 4 (ah 0) (mH ay))
  (bz cAttempt 5 (ah 0) (cC (.bl true))))))))
def iF(cKeeper:Cl):CS:=
 (aV (bz cKeeper 0 (ah 0) (cCB vn (ag (ah 2) ay)))
  (aV (bz cKeeper 1 (ah 0) (cOp n6 (mH (ag (cC (.int 0)) ay)) (cCB jI (ag (ah 2) ay))))
  (aV (bz cKeeper 2 (ah 0) vx)
  (aV (bz cKeeper 3 (ah 0) (cC (.int 0)))
  (aV (bz cKeeper 4 (ah 0) (mH ay))
  (bz cKeeper 5 (ah 0) vx))))))
def i0(cKeeper cAttempt:Cl):CS:=
 (aV (dF 3 (cOp fIx (aS cKeeper 5 (ah 0)) (ah 1)))
  (aV (bz cAttempt 5 (ah 3) (cC (.bl false)))
  (b8 (cBM b7 (aS cKeeper 4 (ah 0)) (ag (iN (ag (ah 2) (ag (ah 1) ay))) ay)))))
def gQ(cKeeper cAttempt:Cl):CS:=
 (aV (dQ (cOr (aR (cOp (fIn true) (ah 1) (aS cKeeper 5 (ah 0)))) (IL (aR (aS cAttempt 5 (cOp fIx (aS cKeeper 5 (ah 0)) (ah 1)))))) uh bP)
  (bT (cOp fIx (aS cKeeper 5 (ah 0)) (ah 1))))
def fc(bp:Fn)(cKeeper cAttempt:Cl):CS:=
 (aV (dF 2 (aM cKeeper bp (ah 0) (ag (ah 1) ay)))
  (aV (dQ (aR (cOp tW (aS cAttempt 3 (ah 2)) (cC .non))) uh bP)
  (bT (ah 2))))
def gE(cKeeper:Cl):CS:=
 (bT (cCB DV (ag (rk (dG (iTp (ah 2)) (gNm 0) (cOp fNe (yd (aS cKeeper 2 (ah 2)) (ah 0) (ah 1)) (ah 1)) 1 [1,0]) (ju (ah 2) (gNm 0) (cOp fNe (yd (aS cKeeper 2 (ah 2)) (ah 0) (ah 1)) (ah 1)) 1 [1,0])) ay)))
def dE(cKeeper cAttempt:Cl):CS:=
 (aV (dF 2 (cOp fIx (aS cKeeper 5 (ah 0)) (ah 1)))
  (bT (cCB DV (ag (ju (aS cAttempt 1 (ah 2)) (gNm 0) (cOp fGt (cOp fIx (aS cKeeper 1 (ah 2)) (ah 0)) (aS cAttempt 0 (ah 1))) 1 [2,0]) ay))))
def bw(aw aA:Fn)(cKeeper cAttempt:Cl):CS:=
 (aV (dQ (aR (aM cKeeper aw (ah 0) (ag (ah 1) (ag (mH (ag (ah 2) ay)) ay)))) (bT (cC (.bl true))) bP)
  (aV (dQ (aR (cOp fLe (cOp fIx (aS cKeeper 1 (ah 0)) (ah 2)) (aS cAttempt 0 (cOp fIx (aS cKeeper 5 (ah 0)) (ah 1))))) (bT (cC (.bl false))) bP)
  (bT (LX (aM cKeeper aw (ah 0) (ag (ah 1) (ag (aS cAttempt 1 (cOp fIx (aS cKeeper 5 (ah 0)) (ah 1))) ay))) (aM cKeeper aA (ah 0) (ag (ah 1) ay))))))
def cU(cKeeper cAttempt:Cl):CS:=
 (aV (dQ (aR (cOp fGt (cOp fIx (aS cKeeper 1 (ah 0)) (ah 2)) (aS cAttempt 0 (ah 1)))) (bz cAttempt 0 (ah 1) (aS cKeeper 3 (ah 0))) bP)
  (aV (i8 (aS cAttempt 1 (ah 1)) (ah 2) (cC (.bl true)))
  (bT (cOp fIx (aS cKeeper 0 (ah 0)) (ah 2)))))
def gR(eV:Fn)(cKeeper cAttempt:Cl):CS:=
 (aV (dQ (aR (cOp (fIn false) (ah 1) (aS cKeeper 5 (ah 0)))) uh bP)
  (aV (i8 (aS cKeeper 5 (ah 0)) (ah 1) (cCB (fU cAttempt eV) (ag (aS cKeeper 3 (ah 0)) ay)))
  (b8 (cBM b7 (aS cKeeper 4 (ah 0)) (ag (iN (ag (cC (.str "begin")) (ag (ah 1) ay))) ay)))))
def d8(aB cu aF cQ:Fn)(cKeeper cAttempt:Cl):CS:=
 (aV (dF 3 (aM cKeeper aB (ah 0) (ag (ah 1) ay)))
  (aV (dQ (aR (cOp (fIn false) (ah 2) (aS cAttempt 2 (ah 3)))) (dF 4 (cOp fIx (aS cAttempt 2 (ah 3)) (ah 2))) (dQ (aR (aM cKeeper cu (ah 0) (ag (ah 1) (ag (ah 2) ay)))) (aV (b8 (aM cKeeper aF (ah 0) (ag (ah 1) (ag (cC (.str "fall")) ay))))
  (bT (iN (ag (cC (.str "falls")) ay)))) (dF 4 (aM cKeeper cQ (ah 0) (ag (ah 3) (ag (ah 2) ay))))))
  (aV (b8 (cBM b7 (aS cKeeper 4 (ah 0)) (ag (iN (ag (cC (.str "look")) (ag (ah 1) (ag (ah 2) (ag (ah 4) ay))))) ay)))
  (bT (iN (ag (cC (.str "number")) (ag (ah 4) ay)))))))
def iX(aB:Fn)(cKeeper cAttempt:Cl):CS:=
 (aV (dF 4 (aM cKeeper aB (ah 0) (ag (ah 1) ay)))
  (aV (i8 (aS cAttempt 2 (ah 4)) (ah 2) (ah 3))
  (b8 (cBM b7 (aS cKeeper 4 (ah 0)) (ag (iN (ag (cC (.str "put")) (ag (ah 1) (ag (ah 2) (ag (ah 3) ay))))) ay)))))
def ej(aB aF aw aA:Fn)(cKeeper cAttempt:Cl):CS:=
 (i8 (aS cKeeper 2 (ah 0)) (ah 3) (ah 1))
def iE(aB aF aw aA:Fn)(cKeeper cAttempt:Cl):CS:=
 (aV (dF 2 (aM cKeeper aB (ah 0) (ag (ah 1) ay)))
  (aV (dQ (aR (cOp fEq (cCB jI (ag (aS cAttempt 2 (ah 2)) ay)) (cC (.int 0)))) (aV (b8 (aM cKeeper aF (ah 0) (ag (ah 1) (ag (cC (.str "done")) ay))))
  (bT (cC (.str "done")))) bP)
  (aV (dQ (cOr (aR (aM cKeeper aw (ah 0) (ag (ah 1) (ag (aS cAttempt 1 (ah 2)) ay)))) (cOr (aR (aM cKeeper aw (ah 0) (ag (ah 1) (ag (aS cAttempt 2 (ah 2)) ay)))) (aR (aM cKeeper aA (ah 0) (ag (ah 1) ay))))) (aV (b8 (aM cKeeper aF (ah 0) (ag (ah 1) (ag (cC (.str "fall")) ay))))
  (bT (cC (.str "falls")))) bP)
  (aV (bz cKeeper 3 (ah 0) (cOp iM (aS cKeeper 3 (ah 0)) (cC (.int 1))))
  (aV (bz cAttempt 3 (ah 2) (aS cKeeper 3 (ah 0)))
  (aV (bz cAttempt 4 (ah 2) (cCB iW (ag (aS cAttempt 2 (ah 2)) ay)))
  (aV (oV (iTp (aS cAttempt 4 (ah 2))) (gNm 3) (ej aB aF aw aA cKeeper cAttempt))
  (bT (cC (.str "taken"))))))))))
def fe(bp aF:Fn)(cKeeper cAttempt:Cl):CS:=
 (b8 (Bo (aS cKeeper 2 (ah 0)) (ah 4)))
def gO(bp aF:Fn)(cKeeper cAttempt:Cl):CS:=
 (aV (dF 2 (aM cKeeper bp (ah 0) (ag (ah 1) ay)))
  (aV (dQ (aR (cOp E8 (aS cAttempt 3 (ah 2)) (cC .non))) uh bP)
  (aV (dF 3 (cBM pY (aS cAttempt 4 (ah 2)) (ag (cC (.int 0)) ay)))
  (aV (i8 (aS cKeeper 0 (ah 0)) (ah 3) (cOp fIx (aS cAttempt 2 (ah 2)) (ah 3)))
  (aV (i8 (aS cKeeper 1 (ah 0)) (ah 3) (aS cAttempt 3 (ah 2)))
  (aV (dQ (aR (cOp fGt (cCB jI (ag (aS cAttempt 4 (ah 2)) ay)) (cC (.int 0)))) (bT (cC (.str "written"))) bP)
  (aV (Bn (aS cAttempt 2 (ah 2)) (gNm 4) (fe bp aF cKeeper cAttempt))
  (aV (b8 (aM cKeeper aF (ah 0) (ag (ah 1) (ag (cC (.str "done")) ay))))
  (bT (cC (.str "done")))))))))))
def iY(cKeeper:Cl):CS:=
 (bT (cCB lZ (ag (aS cKeeper 0 (ah 0)) ay)))
def dB(cAttempt:Cl):CS:=
 (aV (dQ (aR (cOp E8 (aS cAttempt 3 (ah 0)) (cC .non))) (bT (iN (ag (aS cAttempt 0 (ah 0)) (ag (cC (.int 1)) ay)))) bP)
  (bT (iN (ag (aS cAttempt 3 (ah 0)) (ag (cC (.int 0)) ay)))))
def iZ(cKeeper:Cl):CS:=
 (bT (cCB vn (ag (aS cKeeper 4 (ah 0)) ay)))
def gP(dz:Fn)(cKeeper cAttempt:Cl)(zO:O):CS:=
 bT (xg zO 0 (aS cKeeper 5 (ah 0)) (aM cAttempt dz (cOp fIx (aS cKeeper 5 (ah 1)) (ah 0)) ay))
def iG(aB aF:Fn)(cKeeper:Cl):CS:=
 (aV (b8 (aM cKeeper aB (ah 0) (ag (ah 1) ay)))
  (b8 (aM cKeeper aF (ah 0) (ag (ah 1) (ag (cC (.str "fall")) ay)))))
def dD(cAttempt cKeeper:Cl):CS:=
 (bT (cCB iW (ag (aS cAttempt 1 (cOp fIx (aS cKeeper 5 (ah 0)) (ah 1))) ay)))
def iA(cTrying:Cl):CS:=
 (aV (bz cTrying 0 (ah 0) (ah 1))
  (aV (bz cTrying 1 (ah 0) (cC .non))
  (aV (bz cTrying 2 (ah 0) (cC .non))
  (aV (bz cTrying 3 (ah 0) (cC (.str "out")))
  (aV (bz cTrying 4 (ah 0) (cC (.int 0)))
  (bz cTrying 5 (ah 0) (cC (.int 0))))))))
def gD(cw cq:Fn)(cTries cKeeper cTrying:Cl):CS:=
 (aV (bz cTries 0 (ah 0) (ah 1))
  (aV (bz cTries 1 (ah 0) (cCB (fU cKeeper cw) (ag (ah 1) (ag (ah 2) ay))))
  (aV (bz cTries 2 (ah 0) (ah 4))
  (aV (bz cTries 3 (ah 0) (dG (iTp (ah 3)) (gNm 0) (cCB (fU cTrying cq) (ag (ah 0) ay)) 1 []))
  (aV (bz cTries 4 (ah 0) (cC (.int 0)))
  (bz cTries 5 (ah 0) (mH ay)))))))
def fb(cTries:Cl):CS:=
 (bT (cOp (tZ false) (cSl (aS cTries 5 (ah 0)) none (some (cC (.int 1)))) (mH (ag (ah 1) ay))))
def eW(aA:Fn)(cTrying cKeeper cTries:Cl):CS:=
 (bT (ye (cOp fEq (aS cTrying 3 (ah 1)) (cC (.str "asleep"))) (Ec (aM cKeeper aA (aS cTries 1 (ah 0)) (ag (aS cTrying 1 (ah 1)) ay)))))
def eI(cTries:Cl):CS:=
 (bz cTries 5 (ah 0) (iH (iTp (aS cTries 5 (ah 0))) (gNm 0) (aR (cOp fNe (ah 0) (ah 1))) (ah 0) 1 [1]))
def iC(eU gz:Fn)(cTries cTrying aP cKeeper:Cl):CS:=
 (aV (bz cTrying 1 (ah 1) (aS cTries 4 (ah 0)))
  (aV (bz cTrying 2 (ah 1) (cCB (fU aP gz) (ag (aS cTries 0 (ah 0)) (ag (aS cTrying 0 (ah 1)) ay))))
  (aV (bz cTrying 3 (ah 1) (cC (.str "in")))
  (aV (bz cTries 4 (ah 0) (cOp iM (aS cTries 4 (ah 0)) (cC (.int 1))))
  (aV (b8 (aM cKeeper eU (aS cTries 1 (ah 0)) (ag (aS cTrying 1 (ah 1)) ay)))
  (bT (cC (.str "begun"))))))))
def eL(fH bh:Fn)(cTries cKeeper cTrying:Cl):CS:=
 (aV (dF 2 (cOp fIx (aS cTries 3 (ah 0)) (ah 1)))
  (aV (b8 (aM cKeeper fH (aS cTries 1 (ah 0)) (ag (aS cTrying 1 (ah 2)) ay)))
  (aV (bz cTrying 3 (ah 2) (cC (.str "asleep")))
  (aV (bz cTrying 5 (ah 2) (cC (.int 0)))
  (aV (b8 (aM cTries bh (ah 0) (ag (ah 1) ay)))
  (bT (cC (.str "slept"))))))))
def cS(cTries cTrying:Cl):CS:=
 (aV (dF 2 (cOp fIx (aS cTries 3 (ah 0)) (ah 1)))
  (aV (bz cTrying 3 (ah 2) (cC (.str "out")))
  (aV (bz cTrying 4 (ah 2) (cOp iM (aS cTrying 4 (ah 2)) (cC (.int 1))))
  (aV (bz cTrying 5 (ah 2) (cOp iM (aS cTrying 5 (ah 2)) (cC (.int 1))))
  (aV (dQ (aR (cOp fEq (aS cTrying 5 (ah 2)) (aS cTries 2 (ah 0)))) (b8 (cBM b7 (aS cTries 5 (ah 0)) (ag (ah 1) ay))) bP)
  (bT (cC (.str "fell"))))))))
def fV(bh:Fn)(cTries cTrying:Cl):CS:=
 (aV (dF 2 (cOp fIx (aS cTries 3 (ah 0)) (ah 1)))
  (aV (bz cTrying 3 (ah 2) (cC (.str "done")))
  (aV (b8 (aM cTries bh (ah 0) (ag (ah 1) ay)))
  (bT (cC (.str "done"))))))
def d7(aG aQ aw fG aT gB:Fn)(cTries aP cTrying cKeeper:Cl):CS:=
 (aV (dF 2 (cOp fIx (aS cTries 3 (ah 0)) (ah 1)))
  (aV (dF 3 (cOp fIx (aM aP aG (aS cTrying 2 (ah 2)) ay) (cC (.int 2))))
  (aV (dQ (yf (aR (aM cTries aQ (ah 0) (ag (ah 1) ay))) (aR (aM cKeeper aw (aS cTries 1 (ah 0)) (ag (aS cTrying 1 (ah 2)) (ag (mH (ag (ah 3) ay)) ay))))) (bT (cC (.str "held"))) bP)
  (aV (dF 4 (aM cKeeper fG (aS cTries 1 (ah 0)) (ag (aS cTrying 1 (ah 2)) (ag (ah 3) ay))))
  (aV (dQ (aR (cOp fEq (cOp fIx (ah 4) (cC (.int 0))) (cC (.str "falls")))) (bT (aM cTries aT (ah 0) (ag (ah 1) ay))) bP)
  (aV (b8 (aM aP gB (aS cTrying 2 (ah 2)) (ag (cOp fIx (ah 4) (cC (.int 1))) ay)))
  (bT (cC (.str "went")))))))))
def bW(aQ aw bV:Fn)(cTries cTrying cKeeper:Cl):CS:=
 (aV (dQ (aR (aM cTries aQ (ah 0) (ag (ah 1) ay))) (aV (dF 3 (aS cTrying 1 (cOp fIx (aS cTries 3 (ah 0)) (ah 1))))
  (bT (aM cKeeper aw (aS cTries 1 (ah 0)) (ag (ah 3) (ag (cOp iM (aM cKeeper bV (aS cTries 1 (ah 0)) (ag (ah 3) ay)) (ah 2)) ay))))) bP)
  (bT (ye (cOp fGt (cCB jI (ag (aS cTries 5 (ah 0)) ay)) (cC (.int 0))) (cOp (fIn false) (aS cTrying 3 (cOp fIx (aS cTries 3 (ah 0)) (cOp fIx (aS cTries 5 (ah 0)) (cC (.int 0))))) (iN (ag (cC (.str "in")) (ag (cC (.str "taken")) ay)))))))
def fW(bL bu dP dk aT bb:Fn)(cTries aP cTrying cKeeper:Cl):CS:=
 (b8 (aM cKeeper dP (aS cTries 1 (ah 0)) (ag (aS cTrying 1 (ah 2)) (ag (ah 4) (ag (ah 5) ay)))))
def eJ(bL bu dP dk aT bb:Fn)(cTries aP cTrying cKeeper:Cl):CS:=
 (aV (dF 2 (cOp fIx (aS cTries 3 (ah 0)) (ah 1)))
  (aV (dF 3 (aM aP bL (aS cTrying 2 (ah 2)) ay))
  (aV (dQ (yf (aR (cOp fGt (cCB jI (ag (ah 3) ay)) (cC (.int 0)))) (aR (aM cTries bu (ah 0) (ag (ah 1) (ag (dG (iTp (ah 3)) (gNm 0) (cOp fIx (ah 0) (cC (.int 0))) 1 []) ay))))) (bT (cC (.str "held"))) bP)
  (aV (oV (iTp (ah 3)) (gTp [4,5]) (fW bL bu dP dk aT bb cTries aP cTrying cKeeper))
  (aV (dF 6 (aM cKeeper dk (aS cTries 1 (ah 0)) (ag (aS cTrying 1 (ah 2)) ay)))
  (aV (dQ (aR (cOp fEq (ah 6) (cC (.str "falls")))) (bT (aM cTries aT (ah 0) (ag (ah 1) ay))) bP)
  (aV (dQ (aR (cOp fEq (ah 6) (cC (.str "done")))) (bT (aM cTries bb (ah 0) (ag (ah 1) ay))) bP)
  (aV (bz cTrying 3 (ah 2) (cC (.str "taken")))
  (bT (cC (.str "took")))))))))))
def dZ(eR bb:Fn)(cKeeper cTries cTrying:Cl):CS:=
 (aV (dQ (aR (cOp fEq (aM cKeeper eR (aS cTries 1 (ah 0)) (ag (aS cTrying 1 (cOp fIx (aS cTries 3 (ah 0)) (ah 1))) ay)) (cC (.str "done")))) (bT (aM cTries bb (ah 0) (ag (ah 1) ay))) bP)
  (bT (cC (.str "wrote"))))
def iB(aG dh gC cP dY dj:Fn)(cTrying cTries aP:Cl):CS:=
 (aV (dF 2 (aS cTrying 2 (cOp fIx (aS cTries 3 (ah 0)) (ah 1))))
  (aV (dQ (aR (cOp E8 (aM aP aG (ah 2) ay) (cC .non))) (bT (aM cTries dh (ah 0) (ag (ah 1) ay))) bP)
  (aV (dQ (aR (aM aP gC (ah 2) ay)) (bT (aM cTries cP (ah 0) (ag (ah 1) ay))) bP)
  (aV (dQ (IL (aR (aM aP dY (ah 2) ay))) (bT (aM cTries dj (ah 0) (ag (ah 1) ay))) bP)
  (bT (cC (.str "went")))))))
def k6(bB aQ fD cN fE:Fn)(cTries cTrying:Cl):CS:=
 (aV (dF 2 (cOp fIx (aS cTries 3 (ah 0)) (ah 1)))
  (aV (dQ (aR (cOp fEq (aS cTrying 3 (ah 2)) (cC (.str "done")))) (bT (cC (.str "idle"))) bP)
  (aV (dQ (aR (aM cTries bB (ah 0) (ag (ah 2) ay))) (bT (cC (.str "asleep"))) bP)
  (aV (dQ (yf (aR (cOp fEq (aS cTries 2 (ah 0)) (cC (.int 0)))) (aR (cOp (fIn true) (ah 1) (aS cTries 5 (ah 0))))) (b8 (cBM b7 (aS cTries 5 (ah 0)) (ag (ah 1) ay))) bP)
  (aV (dQ (yf (aR (cOp (fIn false) (ah 1) (aS cTries 5 (ah 0)))) (IL (aR (aM cTries aQ (ah 0) (ag (ah 1) ay))))) (bT (cC (.str "held"))) bP)
  (aV (dQ (aR (cOp fEq (aS cTrying 3 (ah 2)) (cC (.str "in")))) (bT (aM cTries fD (ah 0) (ag (ah 1) ay))) bP)
  (aV (dQ (aR (cOp fEq (aS cTrying 3 (ah 2)) (cC (.str "taken")))) (bT (aM cTries cN (ah 0) (ag (ah 1) ay))) bP)
  (bT (aM cTries fE (ah 0) (ag (ah 2) ay))))))))))
def jN(gy:Fn)(cKeeper cTries:Cl):CS:=
 (bT (aM cKeeper gy (aS cTries 1 (ah 0)) ay))
def d9(cG:Fn)(cTries cTrying cKeeper:Cl):CS:=
 (dQ (aR (cOp fEq (aS cTrying 3 (ah 3)) (cC (.str "done")))) (i8 (ah 1) (aS cTrying 1 (ah 3)) (ah 2)) bP)
def fK(cG:Fn)(cTries cTrying cKeeper:Cl):CS:=
 (aV (dF 1 vx)
  (aV (oV (ve (aS cTries 3 (ah 0))) (gTp [2,3]) (d9 cG cTries cTrying cKeeper))
  (bT (iH (iTp (aM cKeeper cG (aS cTries 1 (ah 0)) ay)) (gNm 0) (aR (cOp (fIn false) (ah 0) (ah 1))) (cOp fIx (ah 1) (ah 0)) 1 [1]))))
def jM(gx:Fn)(cKeeper cTries:Cl):CS:=
 (bT (aM cKeeper gx (aS cTries 1 (ah 0)) ay))
def iD(cTrying cTries:Cl):CS:=
 (bT (aS cTrying 4 (cOp fIx (aS cTries 3 (ah 0)) (ah 1))))
def fL(cTries cTrying aP:Cl):CS:=
 (aV (dF 2 (cOp fIx (aS cTries 3 (ah 0)) (ah 1)))
  (aV (dQ (aR (cOp fEq (aS cTrying 3 (ah 2)) (cC (.str "done")))) (bT (aS aP 1 (aS cTrying 2 (ah 2)))) bP)
  (bT (cC .non))))
def fJ(bB:Fn)(cTries cTrying:Cl):CS:=
 (bT (cCB LH (ag (dG (iTp (aS cTries 3 (ah 0))) (gNm 0) (LX (cOp fEq (aS cTrying 3 (ah 0)) (cC (.str "done"))) (aM cTries bB (ah 1) (ag (ah 0) ay))) 1 [0]) ay)))
def oj:CS:=
 (bT (cOp iM (cOp iM (cSl (ah 0) none (some (ah 1))) (iN (ag (ah 2) ay))) (cSl (ah 0) (some (cOp iM (ah 1) (cC (.int 1)))) none)))
def jP(fuel:Nat):CS:=
 (dF 1 (cOp fIx (ah 1) (cC (.int 2))))
def om(fuel:Nat):CS:=
 (aV (dF 1 (ah 0))
  (aV (f7 (yf (aR (cOp fGe (cOp fIx (ah 1) (cC (.int 1))) (cCB jI (ag (cOp fIx (ah 1) (cC (.int 0))) ay)))) (aR (cOp tW (cOp fIx (ah 1) (cC (.int 2))) (cC .non)))) (jP fuel) fuel)
  (bT (ah 1))))
def gF(aP:Cl):CS:=
 (aV (dQ (aR (cOp fGe (cOp fIx (aS aP 3 (ah 0)) (cC (.int 1))) (cCB jI (ag (cOp fIx (aS aP 3 (ah 0)) (cC (.int 0))) ay)))) (bT (cC .non)) bP)
  (bT (cOp fIx (cOp fIx (aS aP 3 (ah 0)) (cC (.int 0))) (cOp fIx (aS aP 3 (ah 0)) (cC (.int 1))))))
def gG(aG:Fn)(aP:Cl):CS:=
 (aV (dF 1 (aM aP aG (ah 0) ay))
  (bT (ye (cOp fEq (cOp fIx (ah 1) (cC (.int 0))) (cC (.str "look"))) (cOp E8 (cOp fIx (aS aP 2 (ah 0)) (cOp fIx (ah 1) (cC (.int 2)))) (cC .non)))))
def i6(dX:Fn)(aP:Cl):CS:=
 (bz aP 1 (ah 0) (cCB dX (ag (aS aP 1 (ah 0)) (ag (ah 1) (ag (ah 2) ay)))))
def dJ(aP:Cl):CS:=
 (aV (dF 2 (aS aP 3 (ah 0)))
  (bT (iN (ag (cOp fIx (ah 2) (cC (.int 0))) (ag (cOp iM (cOp iM (cOp fIx (ah 2) (cC (.int 1))) (cC (.int 1))) (ah 1)) (ag (cOp fIx (ah 2) (cC (.int 2))) (ag (cOp fIx (ah 2) (cC (.int 3))) ay)))))))
def eN(bN aX:Fn)(aP:Cl):CS:=
 (bz aP 3 (ah 0) (cCB bN (ag (aM aP aX (ah 0) (ag (ah 1) ay)) ay)))
def i7(bE aG bo:Fn)(aP:Cl):CS:=
 (aV (b8 (aM aP bE (ah 0) (ag (cOp fIx (aM aP aG (ah 0) ay) (cC (.int 1))) (ag (ah 1) ay))))
  (b8 (aM aP bo (ah 0) (ag (cC (.int 0)) ay))))
def eP(bN aX:Fn)(aP:Cl):CS:=
 (aV (dF 3 (aM aP aX (ah 0) (ag (cC (.int 0)) ay)))
  (aV (dF 4 (cCB bN (ag (iN (ag (ah 2) (ag (cC (.int 0)) (ag (ah 3) (ag (cOp fIx (ah 3) (cC (.int 3))) ay))))) ay)))
  (bz aP 3 (ah 0) (cCB bN (ag (iN (ag (ah 1) (ag (cC (.int 0)) (ag (ah 3) (ag (iN (ag (aS aP 1 (ah 0)) (ag (aS aP 2 (ah 0)) (ag (ah 4) ay)))) ay))))) ay)))))
def dA(aP:Cl):CS:=
 (aV (dF 1 (cOp fIx (aS aP 3 (ah 0)) (cC (.int 3))))
  (aV (dQ (aR (cOp E8 (ah 1) (cC .non))) (bT (cC (.bl false))) bP)
  (aV (bz aP 1 (ah 0) (cOp fIx (ah 1) (cC (.int 0))))
  (aV (bz aP 2 (ah 0) (cOp fIx (ah 1) (cC (.int 1))))
  (aV (bz aP 3 (ah 0) (cOp fIx (ah 1) (cC (.int 2))))
  (bT (cC (.bl true))))))))
def bq(dX aG dq dr bE bo:Fn)(aP:Cl):CS:=
 (aV (dF 1 (aM aP aG (ah 0) ay))
  (aV (dF 2 (cOp fIx (ah 1) (cC (.int 0))))
  (aV (dQ (aR (cOp fEq (ah 2) (cC (.str "wait")))) (bT (aM aP dq (ah 0) ay)) bP)
  (aV (dQ (aR (cOp fEq (ah 2) (cC (.str "try")))) (aV (b8 (aM aP dr (ah 0) (ag (cOp fIx (ah 1) (cC (.int 1))) (ag (cOp fIx (ah 1) (cC (.int 2))) ay))))
  (bT (cC (.bl true)))) bP)
  (aV (dF 3 (cC (.int 0)))
  (aV (dQ (aR (cOp fEq (ah 2) (cC (.str "look")))) (b8 (aM aP bE (ah 0) (ag (cOp fIx (ah 1) (cC (.int 1))) (ag (cOp fIx (aS aP 2 (ah 0)) (cOp fIx (ah 1) (cC (.int 2)))) ay)))) (dQ (aR (cOp fEq (ah 2) (cC (.str "put")))) (bz aP 2 (ah 0) (cCB dX (ag (aS aP 2 (ah 0)) (ag (cOp fIx (ah 1) (cC (.int 1))) (ag (cOp fIx (aS aP 1 (ah 0)) (cOp fIx (ah 1) (cC (.int 2)))) ay))))) (dQ (aR (cOp fEq (ah 2) (cC (.str "set")))) (b8 (aM aP bE (ah 0) (ag (cOp fIx (ah 1) (cC (.int 1))) (ag (cOp fIx (ah 1) (cC (.int 2))) ay)))) (dQ (aR (cOp fEq (ah 2) (cC (.str "plus")))) (b8 (aM aP bE (ah 0) (ag (cOp fIx (ah 1) (cC (.int 1))) (ag (cOp tX (cOp iM (cOp fIx (aS aP 1 (ah 0)) (cOp fIx (ah 1) (cC (.int 1)))) (cOp fIx (aS aP 1 (ah 0)) (cOp fIx (ah 1) (cC (.int 2))))) (aS aP 0 (ah 0))) ay)))) (dQ (aR (cOp fEq (cOp fIx (aS aP 1 (ah 0)) (cOp fIx (ah 1) (cC (.int 1)))) (cC (.int 0)))) (dF 3 (cOp fIx (ah 1) (cC (.int 2)))) bP)))))
  (aV (b8 (aM aP bo (ah 0) (ag (ah 3) ay)))
  (bT (cC (.bl true))))))))))
def eM(aP:Cl):CS:=
 (bT (iH (ve (aS aP 2 (ah 0))) (gTp [0,1]) (aR (cOp tW (ah 1) (cC .non))) (iN (ag (ah 0) (ag (ah 1) ay))) 2 []))
def i4(bN:Fn)(aP:Cl):CS:=
 (aV (bz aP 0 (ah 0) (cOp fIx (ah 1) (cC (.int 1))))
  (aV (bz aP 1 (ah 0) (iN (ag (cC (.int 0)) (ag (cC (.int 0)) (ag (cC (.int 0)) (ag (cC (.int 0)) ay))))))
  (aV (bz aP 2 (ah 0) (cOp n6 (iN (ag (cC .non) ay)) (cOp fIx (ah 1) (cC (.int 0)))))
  (bz aP 3 (ah 0) (cCB bN (ag (iN (ag (ah 2) (ag (cC (.int 0)) (ag (cC .non) (ag (cC .non) ay))))) ay))))))
end OQ
namespace OL
open PySem PySem.Spec PyProof.Rows L2 OG OP OQ
def top(i:Nat):Z0:=PySem.Challenge.pw_oneglance_k50_great_patience_is_none.main.body.getD i (.Pass ⟨0,0,0,0⟩)
abbrev lS:Z0:=aL (top 2) 0
abbrev lV:Z0:=aL (top 2) 1
abbrev lW:Z0:=aL (top 2) 2
abbrev lU:Z0:=aL (top 2) 3
abbrev iT:Z0:=aL (top 2) 4
abbrev lT:Z0:=aL (top 2) 5
abbrev fR:Z0:=aL (top 2) 6
abbrev hU:Z0:=aL (top 2) 7
abbrev hV:Z0:=aL (top 2) 8
abbrev hR:Z0:=aL (top 2) 9
abbrev hJ:Z0:=aL (top 2) 10
abbrev sG:Z0:=top 3
abbrev sH:Z0:=top 4
abbrev jr:Z0:=aL (top 10) 0
abbrev hX:Z0:=aL (top 10) 1
abbrev j5:Z0:=aL (top 11) 0
abbrev jq:Z0:=aL (top 11) 1
abbrev j4:Z0:=aL (top 11) 2
abbrev fQ:Z0:=aL (top 11) 3
abbrev gn:Z0:=aL (top 11) 4
abbrev lO:Z0:=aL (top 11) 5
abbrev j3:Z0:=aL (top 11) 6
abbrev jn:Z0:=aL (top 11) 7
abbrev j6:Z0:=aL (top 11) 8
abbrev jo:Z0:=aL (top 11) 9
abbrev iL:Z0:=aL (top 11) 10
abbrev lR:Z0:=aL (top 11) 11
abbrev gq:Z0:=aL (top 11) 12
abbrev fi:Z0:=aL (top 11) 13
abbrev fh:Z0:=aL (top 11) 14
abbrev lQ:Z0:=aL (top 11) 15
abbrev gI:Z0:=aL (top 11) 16
abbrev lP:Z0:=aL (top 11) 17
abbrev jW:Z0:=aL (top 13) 0
abbrev iR:Z0:=aL (top 14) 0
abbrev pG:Z0:=aL (top 14) 1
abbrev j1:Z0:=aL (top 14) 2
abbrev j0:Z0:=aL (top 14) 3
abbrev gh:Z0:=aL (top 14) 4
abbrev gZ:Z0:=aL (top 14) 5
abbrev fg:Z0:=aL (top 14) 6
abbrev gb:Z0:=aL (top 14) 7
abbrev gm:Z0:=aL (top 14) 8
abbrev g9:Z0:=aL (top 14) 9
abbrev iS:Z0:=aL (top 14) 10
abbrev gY:Z0:=aL (top 14) 11
abbrev iK:Z0:=aL (top 14) 12
abbrev jm:Z0:=aL (top 14) 13
abbrev nJ:Z0:=aL (top 14) 14
abbrev jY:Z0:=aL (top 14) 15
abbrev nI:Z0:=aL (top 14) 16
abbrev j2:Z0:=aL (top 14) 17
abbrev jZ:Z0:=aL (top 14) 18
abbrev jX:Z0:=aL (top 14) 19
abbrev nG:Z0:=top 16
abbrev pE:Z0:=top 17
abbrev jl:Z0:=top 18
abbrev nH:Z0:=top 19
abbrev pF:Z0:=top 20
abbrev GH:Z0:=top 21
structure E5 where
 P:Qx
 w:Z7
 K:Q1
 mg:Str->Option Q2
 base:Heap
abbrev mh(e:E5):=uC e.P e.w e.K e.mg e.base
abbrev hp(e:E5):=yp e.P e.w e.K e.mg e.base
abbrev mc(e:E5):=CMk e.P e.w e.K e.mg e.base
structure Vw(e:E5)(cT cY cD cK cA:Cl):Prop where
 B:Blt e.mg
 t:TC e.K cT ["world","keeper","patience","ones","begun","row"]
 y:TC e.K cY ["dealing","attempt","doing","stage","fallen","fallen_lately"]
 d:TC e.K cD ["wheel","held","puts","part"]
 k:TC e.K cK ["boxes","marks","holders","ticks","events","known"]
 a:TC e.K cA ["glance","looked","puts","stamp","unwritten","is_open"]
section
variable{P:Qx}{w:Z7}{K:Q1}{mg:Str->Option Q2}{base:Heap}
variable{k:Nat}{e:E5}{cT cY cD cK cA:Cl}(V:Vw e cT cY cD cK cA)
include V
def oP(d:MkD e.K e.mg cA.C "Attempt" "Attempt.__init__" jr ["self","glance"]) :mc e cA "Attempt" (k+1) ["self","glance"] (fnU 2 2 (gS cA)):=
 d.pu V.a ["self","glance"] fun r u n=>(ak (qsf V.a rfl (qv 0) (qv 1))
   (ak (qsf V.a rfl (qv 0) sM)
   (ak (qsf V.a rfl (qv 0) sM)
   (ak (qsf V.a rfl (qv 0) qN)
   (ak (qsf V.a rfl (qv 0) (iU av))
   (aN (qsf V.a rfl (qv 0) qB)))))))
def kR(d:MtD e.K cA.C "instant" "Attempt.instant" hX ["self"]) :mh e cA "instant" (k+1) ["self"] (fnU 1 1 (dB cA)):=
 d.pu ["self"] fun r u n=>(ak (bA (aY sT zT (qf V.a rfl (qv 0)) qN (aU _)) (qr (dC (ae (qf V.a rfl (qv 0)) (ae qI av)))) br)
   (qr (dC (ae (qf V.a rfl (qv 0)) (ae qI av)))))
def qR(d:MkD e.K e.mg cK.C "Keeper" "Keeper.__init__" j5 ["self","world","state"]) :mc e cK "Keeper" (k+1) ["self","world","state"] (fnU 3 3 (iF cK)):=
 d.pu V.k ["self","world","state"] fun r u n=>(ak (qsf V.k rfl (qv 0) (jc l8 ET rfl V.B.list OG.ui (ae (qv 2) av)))
   (ak (qsf V.k rfl (qv 0) (fq zY zS (iU (ae qI av)) (cW oE oC rfl V.B.len PySem.boot_len (ae (qv 2) av))))
   (ak (qsf V.k rfl (qv 0) sM)
   (ak (qsf V.k rfl (qv 0) qI)
   (ak (qsf V.k rfl (qv 0) (iU av))
   (aN (qsf V.k rfl (qv 0) sM)))))))
def tM(d:MtD e.K cK.C "end" "Keeper.end" lR ["self","a","word"]) :mh e cK "end" (k+1) ["self","a","word"] (fnU 4 3 (i0 cK cA)):=
 d.pu ["self","a","word","attempt"] fun r u n=>(ak (qss 3 n (qx u (qf V.k rfl (qv 0)) (qv 1)))
   (ak (qsf V.a rfl (qv 3) qB)
   (aN (ba (cL (qf V.k rfl (qv 0)) (ae (dC (ae (qv 2) (ae (qv 1) av))) av))))))
def oN(d:MtD e.K cK.C "found" "Keeper.found" jo ["self","a"]) :mh e cK "found" (k+1) ["self","a"] (fnU 2 2 (gQ cK cA)):=
 d.pu ["self","a"] fun r u n=>(ak (bA (CB (Mo (we u (qv 1) (qf V.k rfl (qv 0)) (by with_unfolding_all rfl)) (GO (zA (gw (qf V.a rfl (qx u (qf V.k rfl (qv 0)) (qv 1)))))))) (aN mC) br)
   (qr (qx u (qf V.k rfl (qv 0)) (qv 1))))
def ml{bp:Fn}(d:MtD e.K cK.C "untaken" "Keeper.untaken" iL ["self","a"])(m0:mh e cK "found" k ["self","a"] bp):mh e cK "untaken" (k+1) ["self","a"] (fnU 3 2 (fc bp cK cA)):=
 d.pu ["self","a","attempt"] fun r u n=>(ak (qss 2 n (qm V.k m0 r (qv 0) (ae (qv 1) av)))
   (ak (bA (aY uU zR (qf V.a rfl (qv 2)) qN (aU _)) (aN mC) br)
   (qr (qv 2))))
def km(d:MtD e.K cK.C "is_barred" "Keeper.is_barred" gq ["self","a","boxes"]) :mh e cK "is_barred" (k+1) ["self","a","boxes"] (fnU 3 3 (gE cK)):=
 d.pu ["self","a","boxes"] fun r u n=>(qr (cW (xf rfl) KU rfl V.B.any OG.xh (ae (CH (nL (Nc:=["b","a","self"]) (tn:=["b"]) (capN:=["a","self"]) (caps:=[1,0]) rfl (jt (qv 2)) (fun _ _ _=>(cg (aZ (i:=0) (show(["b","a","self"]:List Str).Nodup by decide +kernel) rfl (by trivial)))) (fun _ _ _=>(oA Hm Oa (ER u (qf V.k rfl (qv 2)) (qv 0) (qv 1) ⟨rfl,rfl,rfl,rfl⟩) (qv 1) (aU _))) rfl rfl (by decide +kernel) (by decide +kernel) ⟨rfl,rfl,trivial⟩ rfl (.cons ⟨rfl,rfl,rfl,_,rfl⟩ (.cons ⟨rfl,rfl,rfl,_,rfl⟩ .nil)) rfl rfl) (zD (Nc:=["b","a","self"]) (tn:=["b"]) (capN:=["a","self"]) (caps:=[1,0]) rfl (qv 2) (fun _ _ _=>(cg (aZ (i:=0) (show(["b","a","self"]:List Str).Nodup by decide +kernel) rfl (by trivial)))) (fun _ _ _=>(oA Hm Oa (ER u (qf V.k rfl (qv 2)) (qv 0) (qv 1) ⟨rfl,rfl,rfl,rfl⟩) (qv 1) (aU _))) rfl rfl (by decide +kernel) (by decide +kernel) ⟨rfl,rfl,trivial⟩ rfl (.cons ⟨rfl,rfl,rfl,_,rfl⟩ (.cons ⟨rfl,rfl,rfl,_,rfl⟩ .nil)) rfl rfl)) av)))
def jj(d:MtD e.K cK.C "has_changed" "Keeper.has_changed" fi ["self","a"]) :mh e cK "has_changed" (k+1) ["self","a"] (fnU 3 2 (dE cK cA)):=
 d.pu ["self","a","attempt"] fun r u n=>(ak (qss 2 n (qx u (qf V.k rfl (qv 0)) (qv 1)))
   (qr (cW (xf rfl) KU rfl V.B.any OG.xh (ae (zD (Nc:=["b","attempt","self"]) (tn:=["b"]) (capN:=["attempt","self"]) (caps:=[2,0]) rfl (qf V.a rfl (qv 2)) (fun _ _ _=>(cg (aZ (i:=0) (show(["b","attempt","self"]:List Str).Nodup by decide +kernel) rfl (by trivial)))) (fun _ _ _=>(oA xQ IF (qx u (qf V.k rfl (qv 2)) (qv 0)) (qf V.a rfl (qv 1)) (aU _))) rfl rfl (by decide +kernel) (by decide +kernel) ⟨rfl,rfl,trivial⟩ rfl (.cons ⟨rfl,rfl,rfl,_,rfl⟩ (.cons ⟨rfl,rfl,rfl,_,rfl⟩ .nil)) rfl rfl) av))))
def jF{aw aA:Fn}(d:MtD e.K cK.C "would_fall" "Keeper.would_fall" fQ ["self","a","b"])(m0:mh e cK "is_barred" k ["self","a","boxes"] aw)(m1:mh e cK "has_changed" k ["self","a"] aA):mh e cK "would_fall" (k+1) ["self","a","b"] (fnU 3 3 (bw aw aA cK cA)):=
 d.pu ["self","a","b"] fun r u n=>(ak (bA (gw (qm V.k m0 r (qv 0) (ae (qv 1) (ae (iU (ae (qv 2) av)) av)))) (qr qB) br)
   (ak (bA (aY KY Pg (qx u (qf V.k rfl (qv 0)) (qv 2)) (qf V.a rfl (qx u (qf V.k rfl (qv 0)) (qv 1))) (aU _)) (qr qB) br)
   (qr (J8 (qm V.k m0 r (qv 0) (ae (qv 1) (ae (qf V.a rfl (qx u (qf V.k rfl (qv 0)) (qv 1))) av))) (zB (qm V.k m1 r (qv 0) (ae (qv 1) av)))))))
def kj(d:MtD e.K cK.C "look_anew" "Keeper.look_anew" gn ["self","attempt","b"]) :mh e cK "look_anew" (k+1) ["self","attempt","b"] (fnU 3 3 (cU cK cA)):=
 d.pu ["self","attempt","b"] fun r u n=>(ak (bA (aY xQ IF (qx u (qf V.k rfl (qv 0)) (qv 2)) (qf V.a rfl (qv 1)) (aU _)) (aN (qsf V.a rfl (qv 1) (qf V.k rfl (qv 0)))) br)
   (ak (fj u (qf V.a rfl (qv 1)) (qv 2) qB)
   (qr (qx u (qf V.k rfl (qv 0)) (qv 2)))))
def oO{eV:Fn}(d:MtD e.K cK.C "begin" "Keeper.begin" jq ["self","a"])(m0:mc e cA "Attempt" k ["self","glance"] eV):mh e cK "begin" (k+1+1) ["self","a"] (fnU 2 2 (gR eV cK cA)):=
 d.pu ["self","a"] fun r u n=>(ak (bA (CD u (qv 1) (qf V.k rfl (qv 0)) (by with_unfolding_all rfl)) (aN mC) br)
   (ak (fj u (qf V.k rfl (qv 0)) (qv 1) (lY m0 r rfl (ae (qf V.k rfl (qv 0)) av)))
   (aN (ba (cL (qf V.k rfl (qv 0)) (ae (dC (ae qS (ae (qv 1) av))) av))))))
def qQ{aB cu aF cQ:Fn}(d:MtD e.K cK.C "look" "Keeper.look" j4 ["self","a","b"])(m0:mh e cK "untaken" k ["self","a"] aB)(m1:mh e cK "would_fall" k ["self","a","b"] cu)(m2:mh e cK "end" k ["self","a","word"] aF)(m3:mh e cK "look_anew" k ["self","attempt","b"] cQ):mh e cK "look" (k+1) ["self","a","b"] (fnU 5 3 (d8 aB cu aF cQ cK cA)):=
 d.pu ["self","a","b","attempt","number"] fun r u n=>(ak (qss 3 n (qm V.k m0 r (qv 0) (ae (qv 1) av)))
   (ak (bA (CD u (qv 2) (qf V.a rfl (qv 3)) (by with_unfolding_all rfl)) (aN (qss 4 n (qx u (qf V.a rfl (qv 3)) (qv 2)))) (aN (bA (gw (qm V.k m1 r (qv 0) (ae (qv 1) (ae (qv 2) av)))) (ak (ba (qm V.k m2 r (qv 0) (ae (qv 1) (ae qS av))))
   (qr (dC (ae qS av)))) (aN (qss 4 n (qm V.k m3 r (qv 0) (ae (qv 3) (ae (qv 2) av))))))))
   (ak (ba (cL (qf V.k rfl (qv 0)) (ae (dC (ae qS (ae (qv 1) (ae (qv 2) (ae (qv 4) av))))) av)))
   (qr (dC (ae qS (ae (qv 4) av)))))))
def tJ{aB:Fn}(d:MtD e.K cK.C "put" "Keeper.put" lO ["self","a","b","v"])(m0:mh e cK "untaken" k ["self","a"] aB):mh e cK "put" (k+1) ["self","a","b","v"] (fnU 5 4 (iX aB cK cA)):=
 d.pu ["self","a","b","v","attempt"] fun r u n=>(ak (qss 4 n (qm V.k m0 r (qv 0) (ae (qv 1) av)))
   (ak (fj u (qf V.a rfl (qv 4)) (qv 2) (qv 3))
   (aN (ba (cL (qf V.k rfl (qv 0)) (ae (dC (ae qS (ae (qv 1) (ae (qv 2) (ae (qv 3) av))))) av))))))
def qP{aB aF aw aA:Fn}(d:MtD e.K cK.C "take" "Keeper.take" j3 ["self","a"])(m0:mh e cK "untaken" k ["self","a"] aB)(m1:mh e cK "end" k ["self","a","word"] aF)(m2:mh e cK "is_barred" k ["self","a","boxes"] aw)(m3:mh e cK "has_changed" k ["self","a"] aA):mh e cK "take" (k+1) ["self","a"] (fnU 4 2 (iE aB aF aw aA cK cA)):=
 d.pu ["self","a","attempt","b"] fun r u n=>(ak (qss 2 n (qm V.k m0 r (qv 0) (ae (qv 1) av)))
   (ak (bA (aY eE kB (cW oE oC rfl V.B.len PySem.boot_len (ae (qf V.a rfl (qv 2)) av)) qI (aU _)) (ak (ba (qm V.k m1 r (qv 0) (ae (qv 1) (ae qS av))))
   (qr qS)) br)
   (ak (bA (CB (Mo (gw (qm V.k m2 r (qv 0) (ae (qv 1) (ae (qf V.a rfl (qv 2)) av)))) (Mo (gw (qm V.k m2 r (qv 0) (ae (qv 1) (ae (qf V.a rfl (qv 2)) av)))) (GO (gw (qm V.k m3 r (qv 0) (ae (qv 1) av))))))) (ak (ba (qm V.k m1 r (qv 0) (ae (qv 1) (ae qS av))))
   (qr qS)) br)
   (ak (qsf V.k rfl (qv 0) (fq fz fu (qf V.k rfl (qv 0)) qI))
   (ak (qsf V.a rfl (qv 2) (qf V.k rfl (qv 0)))
   (ak (qsf V.a rfl (qv 2) (cW (wm rfl) wj rfl V.B.sorted OG.jO (ae (qf V.a rfl (qv 2)) av)))
   (ak (nK PassesOwn.never rfl (jt (qf V.a rfl (qv 2))) (cg (aZ (i:=3) n rfl (by trivial))) (aN (fj u (qf V.k rfl (qv 0)) (qv 3) (qv 1))))
   (qr qS))))))))
def oK{bp aF:Fn}(d:MtD e.K cK.C "write" "Keeper.write" jn ["self","a"])(m0:mh e cK "found" k ["self","a"] bp)(m1:mh e cK "end" k ["self","a","word"] aF):mh e cK "write" (k+1) ["self","a"] (fnU 5 2 (gO bp aF cK cA)):=
 d.pu ["self","a","attempt","b","held"] fun r u n=>(ak (qss 2 n (qm V.k m0 r (qv 0) (ae (qv 1) av)))
   (ak (bA (aY sT zT (qf V.a rfl (qv 2)) qN (aU _)) (aN mC) br)
   (ak (qss 3 n (GN (qf V.a rfl (qv 2)) (ae qI av)))
   (ak (fj u (qf V.k rfl (qv 0)) (qv 3) (qx u (qf V.a rfl (qv 2)) (qv 3)))
   (ak (fj u (qf V.k rfl (qv 0)) (qv 3) (qf V.a rfl (qv 2)))
   (ak (bA (aY xQ IF (cW oE oC rfl V.B.len PySem.boot_len (ae (qf V.a rfl (qv 2)) av)) qI (aU _)) (qr qS) br)
   (ak (GK PassesOwn.never rfl (qf V.a rfl (qv 2)) (cg (aZ (i:=4) n rfl (by trivial))) (aN (ba (Kd (qf V.k rfl (qv 0)) (qv 4) ⟨rfl,rfl,rfl,rfl⟩))))
   (ak (ba (qm V.k m1 r (qv 0) (ae (qv 1) (ae qS av))))
   (qr qS)))))))))
def qT{aB aF:Fn}(d:MtD e.K cK.C "fall" "Keeper.fall" j6 ["self","a"])(m0:mh e cK "untaken" k ["self","a"] aB)(m1:mh e cK "end" k ["self","a","word"] aF):mh e cK "fall" (k+1) ["self","a"] (fnU 2 2 (iG aB aF cK)):=
 d.pu ["self","a"] fun r u n=>(ak (ba (qm V.k m0 r (qv 0) (ae (qv 1) av)))
   (aN (ba (qm V.k m1 r (qv 0) (ae (qv 1) (ae qS av))))))
def ji(d:MtD e.K cK.C "looked_into" "Keeper.looked_into" fh ["self","a"]) :mh e cK "looked_into" (k+1) ["self","a"] (fnU 2 2 (dD cA cK)):=
 d.pu ["self","a"] fun r u n=>(qr (cW (wm rfl) wj rfl V.B.sorted OG.jO (ae (qf V.a rfl (qx u (qf V.k rfl (qv 0)) (qv 1))) av)))
def tL(d:MtD e.K cK.C "log" "Keeper.log" lQ ["self"]) :mh e cK "log" (k+1) ["self"] (fnU 1 1 (iZ cK)):=
 d.pu ["self"] fun r u n=>(qr (jc l8 ET rfl V.B.list OG.ui (ae (qf V.k rfl (qv 0)) av)))
omit V in
def nF:bU ["self"] ["self"] (ax gI):=⟨rfl,rfl,rfl,by decide +kernel,rfl,by decide +kernel,by decide +kernel⟩
omit V in
abbrev zOf(p:Addr):O:=.cod p ⟨212,38,212,71⟩ ("Keeper.order"++".<locals>."++"<lambda>")
omit V in
def oM{k:Nat}{dz:Fn}{cKeeper cAttempt:Cl}{cO pO:Addr}(d:MtD K cKeeper.C "order" "Keeper.order" gI ["self"])(cd:IB K cKeeper.C "order" cO pO)(bm:BP mg base)(B:Blt mg)(TKeeper:TC K cKeeper ["boxes","marks","holders","ticks","events","known"])(TAttempt:TC K cAttempt ["glance","looked","puts","stamp","unwritten","is_open"])(M_Attempt_instant:uC P w K mg base cAttempt "instant" k ["self"] dz):uC P w K mg base cKeeper "order" (k+3+1) ["self"] (fnU 1 1 (gP dz cKeeper cAttempt (zOf pO))):=by
 have hC:=cd;obtain⟨_,_,_,_,_,_,_,hC⟩:=hC;exact d.pureC cd nF fun f A outer s H E hr=>aN (sL (GL (x:="self") (pa:="a") (k:=0) (kr:=k) (cx:=s.heap.objs.size+1) ⟨rfl,rfl,rfl,rfl,rfl,rfl,rfl,by decide,fun _ _ _ _ _=>rfl,fun f' cd' A' s' H' hr'=>zC TAttempt.cl M_Attempt_instant hr' (TAttempt.nm (by decide +kernel)) (Pf (vg hr') (GQ TKeeper.cl (TKeeper.na 5 rfl) (TKeeper.ix rfl) (CC (wpv 1))) (CC (wpv 0)) (fun _ _=>rfl) (fun _ _=>rfl))⟩ hr rfl rfl B.sorted OG.jO (GQ TKeeper.cl (TKeeper.na 5 rfl) (TKeeper.ix rfl) (CC (wpv 0))) rfl hC bm rfl rfl))
def tK(d:MtD e.K cK.C "now" "Keeper.now" lP ["self"]) :mh e cK "now" (k+1) ["self"] (fnU 1 1 (iY cK)):=
 d.pu ["self"] fun r u n=>(qr (jc ik uS rfl V.B.tuple OG.k8 (ae (qf V.k rfl (qv 0)) av)))
theorem AH(d:Def e.K e.mg "with_at" sG ["row","place","value"]) :hp e "with_at" (k+1) ["row","place","value"] (fnU 3 3 (oj )):=
 d.pu ["row","place","value"] fun r u n=>(qr (fq fz fu (fq fz fu (Mn (qv 0) ql (qk (qv 1))) (dC (ae (qv 2) av))) (Mn (qv 0) (qk (fq fz fu (qv 1) qI)) ql)))
def AI{fuel:Nat}(d:Def e.K e.mg "onwards" sH ["part"]) :hp e "onwards" (k+1) ["part"] (fnU 2 1 (om fuel)):=
 d.pu ["part","reached"] fun r u n=>(ak (qss 1 n (qv 0))
   (ak (Cw fuel PassesOwn.never (CB (xK (aY KZ Ph (qx u (qv 1) qI) (cW oE oC rfl V.B.len PySem.boot_len (ae (qx u (qv 1) qI) av)) (aU _)) (pJ (aY uU zR (qx u (qv 1) qI) qN (aU _))))) (aN (qss 1 n (qx u (qv 1) qI))))
   (qr (qv 1))))
def tR(d:MtD e.K cD.C "deed" "Doing.deed" lV ["self"]) :mh e cD "deed" (k+1) ["self"] (fnU 1 1 (gF cD)):=
 d.pu ["self"] fun r u n=>(ak (bA (aY KZ Ph (qx u (qf V.d rfl (qv 0)) qI) (cW oE oC rfl V.B.len PySem.boot_len (ae (qx u (qf V.d rfl (qv 0)) qI) av)) (aU _)) (qr qN) br)
   (qr (qx u (qx u (qf V.d rfl (qv 0)) qI) (qx u (qf V.d rfl (qv 0)) qI))))
def tV{aG:Fn}(d:MtD e.K cD.C "asks" "Doing.asks" lW ["self"])(m0:mh e cD "deed" k ["self"] aG):mh e cD "asks" (k+1) ["self"] (fnU 2 1 (gG aG cD)):=
 d.pu ["self","deed"] fun r u n=>(ak (qss 1 n (qm0 V.d m0 r (qv 0)))
   (qr (zE (oA eE kB (qx u (qv 1) qI) qS (aU _)) (zB (oA sT zT (qx u (qf V.d rfl (qv 0)) (qx u (qv 1) qI)) qN (aU _))))))
def tP{dX:Fn}(d:MtD e.K cD.C "hold" "Doing.hold" lT ["self","hand","number"])(m0:hp e "with_at" k ["row","place","value"] dX):mh e cD "hold" (k+1) ["self","hand","number"] (fnU 3 3 (i6 dX cD)):=
 d.pu ["self","hand","number"] fun r u n=>(aN (qsf V.d rfl (qv 0) (bQ m0 r rfl (ae (qf V.d rfl (qv 0)) (ae (qv 1) (ae (qv 2) av))))))
def jG(d:MtD e.K cD.C "part_behind" "Doing.part_behind" fR ["self","left_out"]) :mh e cD "part_behind" (k+1) ["self","left_out"] (fnU 3 2 (dJ cD)):=
 d.pu ["self","left_out","part"] fun r u n=>(ak (qss 2 n (qf V.d rfl (qv 0)))
   (qr (dC (ae (qx u (qv 2) qI) (ae (fq fz fu (fq fz fu (qx u (qv 2) qI) qI) (qv 1)) (ae (qx u (qv 2) qI) (ae (qx u (qv 2) qI) av)))))))
def kN{bN aX:Fn}(d:MtD e.K cD.C "go_behind" "Doing.go_behind" hU ["self","left_out"])(m0:hp e "onwards" k ["part"] bN)(m1:mh e cD "part_behind" k ["self","left_out"] aX):mh e cD "go_behind" (k+1) ["self","left_out"] (fnU 2 2 (eN bN aX cD)):=
 d.pu ["self","left_out"] fun r u n=>(aN (qsf V.d rfl (qv 0) (bQ m0 r rfl (ae (qm V.d m1 r (qv 0) (ae (qv 1) av)) av))))
def tQ{bE aG bo:Fn}(d:MtD e.K cD.C "hear" "Doing.hear" lU ["self","number"])(m0:mh e cD "hold" k ["self","hand","number"] bE)(m1:mh e cD "deed" k ["self"] aG)(m2:mh e cD "go_behind" k ["self","left_out"] bo):mh e cD "hear" (k+1) ["self","number"] (fnU 2 2 (i7 bE aG bo cD)):=
 d.pu ["self","number"] fun r u n=>(ak (ba (qm V.d m0 r (qv 0) (ae (qx u (qm0 V.d m1 r (qv 0)) qI) (ae (qv 1) av))))
   (aN (ba (qm V.d m2 r (qv 0) (ae qI av)))))
def kQ{bN aX:Fn}(d:MtD e.K cD.C "enter_try" "Doing.enter_try" hV ["self","one","other"])(m0:hp e "onwards" k ["part"] bN)(m1:mh e cD "part_behind" k ["self","left_out"] aX):mh e cD "enter_try" (k+1) ["self","one","other"] (fnU 5 3 (eP bN aX cD)):=
 d.pu ["self","one","other","behind","instead"] fun r u n=>(ak (qss 3 n (qm V.d m1 r (qv 0) (ae qI av)))
   (ak (qss 4 n (bQ m0 r rfl (ae (dC (ae (qv 2) (ae qI (ae (qv 3) (ae (qx u (qv 3) qI) av))))) av)))
   (aN (qsf V.d rfl (qv 0) (bQ m0 r rfl (ae (dC (ae (qv 1) (ae qI (ae (qv 3) (ae (dC (ae (qf V.d rfl (qv 0)) (ae (qf V.d rfl (qv 0)) (ae (qv 4) av)))) av))))) av))))))
def kM(d:MtD e.K cD.C "goes_back" "Doing.goes_back" hR ["self"]) :mh e cD "goes_back" (k+1) ["self"] (fnU 2 1 (dA cD)):=
 d.pu ["self","back"] fun r u n=>(ak (qss 1 n (qx u (qf V.d rfl (qv 0)) qI))
   (ak (bA (aY sT zT (qv 1) qN (aU _)) (qr qB) br)
   (ak (qsf V.d rfl (qv 0) (qx u (qv 1) qI))
   (ak (qsf V.d rfl (qv 0) (qx u (qv 1) qI))
   (ak (qsf V.d rfl (qv 0) (qx u (qv 1) qI))
   (qr qB))))))
def nZ{dX aG dq dr bE bo:Fn}(d:MtD e.K cD.C "do_deed" "Doing.do_deed" iT ["self"])(m0:hp e "with_at" k ["row","place","value"] dX)(m1:mh e cD "deed" k ["self"] aG)(m2:mh e cD "goes_back" k ["self"] dq)(m3:mh e cD "enter_try" k ["self","one","other"] dr)(m4:mh e cD "hold" k ["self","hand","number"] bE)(m5:mh e cD "go_behind" k ["self","left_out"] bo):mh e cD "do_deed" (k+1) ["self"] (fnU 4 1 (bq dX aG dq dr bE bo cD)):=
 d.pu ["self","deed","word","left_out"] fun r u n=>(ak (qss 1 n (qm0 V.d m1 r (qv 0)))
   (ak (qss 2 n (qx u (qv 1) qI))
   (ak (bA (aY eE kB (qv 2) qS (aU _)) (qr (qm0 V.d m2 r (qv 0))) br)
   (ak (bA (aY eE kB (qv 2) qS (aU _)) (ak (ba (qm V.d m3 r (qv 0) (ae (qx u (qv 1) qI) (ae (qx u (qv 1) qI) av))))
   (qr qB)) br)
   (ak (qss 3 n qI)
   (ak (bA (aY eE kB (qv 2) qS (aU _)) (aN (ba (qm V.d m4 r (qv 0) (ae (qx u (qv 1) qI) (ae (qx u (qf V.d rfl (qv 0)) (qx u (qv 1) qI)) av))))) (aN (bA (aY eE kB (qv 2) qS (aU _)) (aN (qsf V.d rfl (qv 0) (bQ m0 r rfl (ae (qf V.d rfl (qv 0)) (ae (qx u (qv 1) qI) (ae (qx u (qf V.d rfl (qv 0)) (qx u (qv 1) qI)) av)))))) (aN (bA (aY eE kB (qv 2) qS (aU _)) (aN (ba (qm V.d m4 r (qv 0) (ae (qx u (qv 1) qI) (ae (qx u (qv 1) qI) av))))) (aN (bA (aY eE kB (qv 2) qS (aU _)) (aN (ba (qm V.d m4 r (qv 0) (ae (qx u (qv 1) qI) (ae (fq nO uT (fq fz fu (qx u (qf V.d rfl (qv 0)) (qx u (qv 1) qI)) (qx u (qf V.d rfl (qv 0)) (qx u (qv 1) qI))) (qf V.d rfl (qv 0))) av))))) (aN (bA (aY eE kB (qx u (qf V.d rfl (qv 0)) (qx u (qv 1) qI)) qI (aU _)) (aN (qss 3 n (qx u (qv 1) qI))) br)))))))))
   (ak (ba (qm V.d m5 r (qv 0) (ae (qv 3) av)))
   (qr qB))))))))
def kL(d:MtD e.K cD.C "put_pairs" "Doing.put_pairs" hJ ["self"]) :mh e cD "put_pairs" (k+1) ["self"] (fnU 1 1 (eM cD)):=
 d.pu ["self"] fun r u n=>(qr (qp (Nc:=["box","number"]) (tn:=["box","number"]) (capN:=[]) (caps:=[]) rfl (zy rfl V.B.enumerate (qf V.d rfl (qv 0))) (fun _ _ _=>(wc rfl (fk (aZ (i:=0) (show(["box","number"]:List Str).Nodup by decide +kernel) rfl (by trivial)) (fk (aZ (i:=1) (show(["box","number"]:List Str).Nodup by decide +kernel) rfl (by trivial)) qo)))) (fun _ _ _=>(aY uU zR (qv 1) qN (aU _))) (fun _ _ _=>(dC (ae (qv 0) (ae (qv 1) av)))) rfl rfl (by decide +kernel) (by decide +kernel) trivial rfl .nil rfl rfl))
def tN{bN:Fn}(d:MkD e.K e.mg cD.C "Doing" "Doing.__init__" lS ["self","world","dealing"])(m0:hp e "onwards" k ["part"] bN):mc e cD "Doing" (k+1) ["self","world","dealing"] (fnU 3 3 (i4 bN cD)):=
 d.pu V.d ["self","world","dealing"] fun r u n=>(ak (qsf V.d rfl (qv 0) (qx u (qv 1) qI))
   (ak (qsf V.d rfl (qv 0) (dC (ae qI (ae qI (ae qI (ae qI av))))))
   (ak (qsf V.d rfl (qv 0) (fq zY zS (dC (ae qN av)) (qx u (qv 1) qI)))
   (aN (qsf V.d rfl (qv 0) (bQ m0 r rfl (ae (dC (ae (qv 2) (ae qI (ae qN (ae qN av))))) av)))))))
def qF(d:MkD e.K e.mg cY.C "Trying" "Trying.__init__" jW ["self","dealing"]) :mc e cY "Trying" (k+1) ["self","dealing"] (fnU 2 2 (iA cY)):=
 d.pu V.y ["self","dealing"] fun r u n=>(ak (qsf V.y rfl (qv 0) (qv 1))
   (ak (qsf V.y rfl (qv 0) qN)
   (ak (qsf V.y rfl (qv 0) qN)
   (ak (qsf V.y rfl (qv 0) qS)
   (ak (qsf V.y rfl (qv 0) qI)
   (aN (qsf V.y rfl (qv 0) qI)))))))
def tH{cw cq:Fn}(d:MkE e.K e.mg cT.C "Tries" "Tries.__init__" iR ["self","world","state","dealings","patience"] [])(m0:mc e cK "Keeper" k ["self","world","state"] cw)(m1:mc e cY "Trying" k ["self","dealing"] cq):mc e cT "Tries" (k+1+1) ["self","world","state","dealings","patience"] (fnU 5 5 (gD cw cq cT cK cY)):=
 d.pu V.t ["self","world","state","dealings","patience"] fun r u n=>(ak (qsf V.t rfl (qv 0) (qv 1))
   (ak (qsf V.t rfl (qv 0) (lY m0 r rfl (ae (qv 1) (ae (qv 2) av))))
   (ak (qsf V.t rfl (qv 0) (qv 4))
   (ak (qsf V.t rfl (qv 0) (nL (Nc:=["dealing"]) (tn:=["dealing"]) (capN:=[]) (caps:=[]) rfl (jt (qv 3)) (fun _ _ _=>(cg (aZ (i:=0) (show(["dealing"]:List Str).Nodup by decide +kernel) rfl (by trivial)))) (fun _ _ _=>(lY m1 r rfl (ae (qv 0) av))) rfl rfl (by decide +kernel) (by decide +kernel) trivial rfl .nil rfl rfl))
   (ak (qsf V.t rfl (qv 0) qI)
   (aN (qsf V.t rfl (qv 0) (iU av))))))))
def qJ{cw cq:Fn}(d:MkE e.K e.mg cT.C "Tries" "Tries.__init__" iR ["self","world","state","dealings","patience"] [.none])(m0:mc e cK "Keeper" k ["self","world","state"] cw)(m1:mc e cY "Trying" k ["self","dealing"] cq):Fy e.P e.w e.K e.mg e.base cT "Tries" (k+1+1) ["self","world","state","dealings","patience"] (fnU 5 5 (gD cw cq cT cK cY)):=
 d.puN V.t ["self","world","state","dealings","patience"] fun r u n=>(ak (qsf V.t rfl (qv 0) (qv 1))
   (ak (qsf V.t rfl (qv 0) (lY m0 r rfl (ae (qv 1) (ae (qv 2) av))))
   (ak (qsf V.t rfl (qv 0) (qv 4))
   (ak (qsf V.t rfl (qv 0) (nL (Nc:=["dealing"]) (tn:=["dealing"]) (capN:=[]) (caps:=[]) rfl (jt (qv 3)) (fun _ _ _=>(cg (aZ (i:=0) (show(["dealing"]:List Str).Nodup by decide +kernel) rfl (by trivial)))) (fun _ _ _=>(lY m1 r rfl (ae (qv 0) av))) rfl rfl (by decide +kernel) (by decide +kernel) trivial rfl .nil rfl rfl))
   (ak (qsf V.t rfl (qv 0) qI)
   (aN (qsf V.t rfl (qv 0) (iU av))))))))
def mj(d:MtD e.K cT.C "is_first" "Tries.is_first" iK ["self","i"]) :mh e cT "is_first" (k+1) ["self","i"] (fnU 2 2 (fb cT)):=
 d.pu ["self","i"] fun r u n=>(qr (oA (K0 r.units) Df (Mn (qf V.t rfl (qv 0)) ql (qk qI)) (iU (ae (qv 1) av)) (aU _)))
def oJ{aA:Fn}(d:MtD e.K cT.C "sleeps" "Tries.sleeps" jm ["self","one"])(m0:mh e cK "has_changed" k ["self","a"] aA):mh e cT "sleeps" (k+1) ["self","one"] (fnU 2 2 (eW aA cY cK cT)):=
 d.pu ["self","one"] fun r u n=>(qr (zE (oA eE kB (qf V.y rfl (qv 1)) qS (aU _)) (zB (J9 (qm V.k m0 r (qf V.t rfl (qv 0)) (ae (qf V.y rfl (qv 1)) av))))))
def kH(d:MtD e.K cT.C "leave_row" "Tries.leave_row" gY ["self","i"]) :mh e cT "leave_row" (k+1) ["self","i"] (fnU 2 2 (eI cT)):=
 d.pu ["self","i"] fun r u n=>(aN (qsf V.t rfl (qv 0) (qp (Nc:=["j","i"]) (tn:=["j"]) (capN:=["i"]) (caps:=[1]) rfl (jt (qf V.t rfl (qv 0))) (fun _ _ _=>(cg (aZ (i:=0) (show(["j","i"]:List Str).Nodup by decide +kernel) rfl (by trivial)))) (fun _ _ _=>(aY Hm Oa (qv 0) (qv 1) (aU _))) (fun _ _ _=>(qv 0)) rfl rfl (by decide +kernel) (by decide +kernel) ⟨rfl,trivial⟩ rfl (.cons ⟨rfl,rfl,rfl,_,rfl⟩ .nil) rfl rfl)))
def qM{eU gz:Fn}(d:MtD e.K cT.C "go_in" "Tries.go_in" j1 ["self","one"])(m0:mh e cK "begin" (k+1) ["self","a"] eU)(m1:mc e cD "Doing" k ["self","world","dealing"] gz):mh e cT "go_in" (k+1+1) ["self","one"] (fnU 2 2 (iC eU gz cT cY cD cK)):=
 d.pu ["self","one"] fun r u n=>(ak (qsf V.y rfl (qv 1) (qf V.t rfl (qv 0)))
   (ak (qsf V.y rfl (qv 1) (lY m1 r rfl (ae (qf V.t rfl (qv 0)) (ae (qf V.y rfl (qv 1)) av))))
   (ak (qsf V.y rfl (qv 1) qS)
   (ak (qsf V.t rfl (qv 0) (fq fz fu (qf V.t rfl (qv 0)) qI))
   (ak (ba (qm V.k m0 r (qf V.t rfl (qv 0)) (ae (qf V.y rfl (qv 1)) av)))
   (qr qS))))))
def kK{fH bh:Fn}(d:MtD e.K cT.C "go_asleep" "Tries.go_asleep" g9 ["self","i"])(m0:mh e cK "fall" k ["self","a"] fH)(m1:mh e cT "leave_row" k ["self","i"] bh):mh e cT "go_asleep" (k+1) ["self","i"] (fnU 3 2 (eL fH bh cT cK cY)):=
 d.pu ["self","i","one"] fun r u n=>(ak (qss 2 n (qx u (qf V.t rfl (qv 0)) (qv 1)))
   (ak (ba (qm V.k m0 r (qf V.t rfl (qv 0)) (ae (qf V.y rfl (qv 2)) av)))
   (ak (qsf V.y rfl (qv 2) qS)
   (ak (qsf V.y rfl (qv 2) qI)
   (ak (ba (qm V.t m1 r (qv 0) (ae (qv 1) av)))
   (qr qS))))))
def ki(d:MtD e.K cT.C "go_falling" "Tries.go_falling" gm ["self","i"]) :mh e cT "go_falling" (k+1) ["self","i"] (fnU 3 2 (cS cT cY)):=
 d.pu ["self","i","one"] fun r u n=>(ak (qss 2 n (qx u (qf V.t rfl (qv 0)) (qv 1)))
   (ak (qsf V.y rfl (qv 2) qS)
   (ak (qsf V.y rfl (qv 2) (fq fz fu (qf V.y rfl (qv 2)) qI))
   (ak (qsf V.y rfl (qv 2) (fq fz fu (qf V.y rfl (qv 2)) qI))
   (ak (bA (aY eE kB (qf V.y rfl (qv 2)) (qf V.t rfl (qv 0)) (aU _)) (aN (ba (cL (qf V.t rfl (qv 0)) (ae (qv 1) av)))) br)
   (qr qS))))))
def nY{bh:Fn}(d:MtD e.K cT.C "go_done" "Tries.go_done" iS ["self","i"])(m0:mh e cT "leave_row" k ["self","i"] bh):mh e cT "go_done" (k+1) ["self","i"] (fnU 3 2 (fV bh cT cY)):=
 d.pu ["self","i","one"] fun r u n=>(ak (qss 2 n (qx u (qf V.t rfl (qv 0)) (qv 1)))
   (ak (qsf V.y rfl (qv 2) qS)
   (ak (ba (qm V.t m0 r (qv 0) (ae (qv 1) av)))
   (qr qS))))
def kh{aG aQ aw fG aT gB:Fn}(d:MtD e.K cT.C "go_looking" "Tries.go_looking" gh ["self","i"])(m0:mh e cD "deed" k ["self"] aG)(m1:mh e cT "is_first" k ["self","i"] aQ)(m2:mh e cK "is_barred" k ["self","a","boxes"] aw)(m3:mh e cK "look" k ["self","a","b"] fG)(m4:mh e cT "go_falling" k ["self","i"] aT)(m5:mh e cD "hear" k ["self","number"] gB):mh e cT "go_looking" (k+1) ["self","i"] (fnU 5 2 (d7 aG aQ aw fG aT gB cT cD cY cK)):=
 d.pu ["self","i","one","box","told"] fun r u n=>(ak (qss 2 n (qx u (qf V.t rfl (qv 0)) (qv 1)))
   (ak (qss 3 n (qx u (qm0 V.d m0 r (qf V.y rfl (qv 2))) qI))
   (ak (bA (CB (xK (gw (qm V.t m1 r (qv 0) (ae (qv 1) av))) (pJ (gw (qm V.k m2 r (qf V.t rfl (qv 0)) (ae (qf V.y rfl (qv 2)) (ae (iU (ae (qv 3) av)) av))))))) (qr qS) br)
   (ak (qss 4 n (qm V.k m3 r (qf V.t rfl (qv 0)) (ae (qf V.y rfl (qv 2)) (ae (qv 3) av))))
   (ak (bA (aY eE kB (qx u (qv 4) qI) qS (aU _)) (qr (qm V.t m4 r (qv 0) (ae (qv 1) av))) br)
   (ak (ba (qm V.d m5 r (qf V.y rfl (qv 2)) (ae (qx u (qv 4) qI) av)))
   (qr qS)))))))
def jh{aQ aw bV:Fn}(d:MtD e.K cT.C "may_not_take" "Tries.may_not_take" fg ["self","i","boxes"])(m0:mh e cT "is_first" k ["self","i"] aQ)(m1:mh e cK "is_barred" k ["self","a","boxes"] aw)(m2:mh e cK "looked_into" k ["self","a"] bV):mh e cT "may_not_take" (k+1) ["self","i","boxes"] (fnU 4 3 (bW aQ aw bV cT cY cK)):=
 d.pu ["self","i","boxes","attempt"] fun r u n=>(ak (bA (gw (qm V.t m0 r (qv 0) (ae (qv 1) av))) (ak (qss 3 n (qf V.y rfl (qx u (qf V.t rfl (qv 0)) (qv 1))))
   (qr (qm V.k m1 r (qf V.t rfl (qv 0)) (ae (qv 3) (ae (fq fz fu (qm V.k m2 r (qf V.t rfl (qv 0)) (ae (qv 3) av)) (qv 2)) av))))) br)
   (qr (zE (oA xQ IF (cW oE oC rfl V.B.len PySem.boot_len (ae (qf V.t rfl (qv 0)) av)) qI (aU _)) (zB (Qg u (qf V.y rfl (qx u (qf V.t rfl (qv 0)) (qx u (qf V.t rfl (qv 0)) qI))) (dC (ae qS (ae qS av))) (by with_unfolding_all rfl))))))
def kJ{bL bu dP dk aT bb:Fn}(d:MtD e.K cT.C "go_taking" "Tries.go_taking" gZ ["self","i"])(m0:mh e cD "put_pairs" k ["self"] bL)(m1:mh e cT "may_not_take" k ["self","i","boxes"] bu)(m2:mh e cK "put" k ["self","a","b","v"] dP)(m3:mh e cK "take" k ["self","a"] dk)(m4:mh e cT "go_falling" k ["self","i"] aT)(m5:mh e cT "go_done" k ["self","i"] bb):mh e cT "go_taking" (k+1) ["self","i"] (fnU 7 2 (eJ bL bu dP dk aT bb cT cD cY cK)):=
 d.pu ["self","i","one","pairs","box","number","word"] fun r u n=>(ak (qss 2 n (qx u (qf V.t rfl (qv 0)) (qv 1)))
   (ak (qss 3 n (qm0 V.d m0 r (qf V.y rfl (qv 2))))
   (ak (bA (CB (xK (aY xQ IF (cW oE oC rfl V.B.len PySem.boot_len (ae (qv 3) av)) qI (aU _)) (pJ (gw (qm V.t m1 r (qv 0) (ae (qv 1) (ae (nL (Nc:=["pair"]) (tn:=["pair"]) (capN:=[]) (caps:=[]) rfl (jt (qv 3)) (fun _ _ _=>(cg (aZ (i:=0) (show(["pair"]:List Str).Nodup by decide +kernel) rfl (by trivial)))) (fun _ _ _=>(qx u (qv 0) qI)) rfl rfl (by decide +kernel) (by decide +kernel) trivial rfl .nil rfl rfl) av))))))) (qr qS) br)
   (ak (nK PassesOwn.never rfl (jt (qv 3)) (wc rfl (fk (aZ (i:=4) n rfl (by trivial)) (fk (aZ (i:=5) n rfl (by trivial)) qo))) (aN (ba (qm V.k m2 r (qf V.t rfl (qv 0)) (ae (qf V.y rfl (qv 2)) (ae (qv 4) (ae (qv 5) av)))))))
   (ak (qss 6 n (qm V.k m3 r (qf V.t rfl (qv 0)) (ae (qf V.y rfl (qv 2)) av)))
   (ak (bA (aY eE kB (qv 6) qS (aU _)) (qr (qm V.t m4 r (qv 0) (ae (qv 1) av))) br)
   (ak (bA (aY eE kB (qv 6) qS (aU _)) (qr (qm V.t m5 r (qv 0) (ae (qv 1) av))) br)
   (ak (qsf V.y rfl (qv 2) qS)
   (qr qS)))))))))
def kg{eR bb:Fn}(d:MtD e.K cT.C "go_writing" "Tries.go_writing" gb ["self","i"])(m0:mh e cK "write" k ["self","a"] eR)(m1:mh e cT "go_done" k ["self","i"] bb):mh e cT "go_writing" (k+1) ["self","i"] (fnU 2 2 (dZ eR bb cK cT cY)):=
 d.pu ["self","i"] fun r u n=>(ak (bA (aY eE kB (qm V.k m0 r (qf V.t rfl (qv 0)) (ae (qf V.y rfl (qx u (qf V.t rfl (qv 0)) (qv 1))) av)) qS (aU _)) (qr (qm V.t m1 r (qv 0) (ae (qv 1) av))) br)
   (qr qS))
def qL{aG dh gC cP dY dj:Fn}(d:MtD e.K cT.C "go_on" "Tries.go_on" j0 ["self","i"])(m0:mh e cD "deed" k ["self"] aG)(m1:mh e cT "go_taking" k ["self","i"] dh)(m2:mh e cD "asks" k ["self"] gC)(m3:mh e cT "go_looking" k ["self","i"] cP)(m4:mh e cD "do_deed" k ["self"] dY)(m5:mh e cT "go_asleep" k ["self","i"] dj):mh e cT "go_on" (k+1) ["self","i"] (fnU 3 2 (iB aG dh gC cP dY dj cY cT cD)):=
 d.pu ["self","i","doing"] fun r u n=>(ak (qss 2 n (qf V.y rfl (qx u (qf V.t rfl (qv 0)) (qv 1))))
   (ak (bA (aY sT zT (qm0 V.d m0 r (qv 2)) qN (aU _)) (qr (qm V.t m1 r (qv 0) (ae (qv 1) av))) br)
   (ak (bA (gw (qm0 V.d m2 r (qv 2))) (qr (qm V.t m3 r (qv 0) (ae (qv 1) av))) br)
   (ak (bA (zA (gw (qm0 V.d m4 r (qv 2)))) (qr (qm V.t m5 r (qv 0) (ae (qv 1) av))) br)
   (qr qS)))))
def xY{bB aQ fD cN fE:Fn}(d:MtD e.K cT.C "go" "Tries.go" pG ["self","i"])(m0:mh e cT "sleeps" k ["self","one"] bB)(m1:mh e cT "is_first" k ["self","i"] aQ)(m2:mh e cT "go_on" k ["self","i"] fD)(m3:mh e cT "go_writing" k ["self","i"] cN)(m4:mh e cT "go_in" k ["self","one"] fE):mh e cT "go" (k+1) ["self","i"] (fnU 3 2 (k6 bB aQ fD cN fE cT cY)):=
 d.pu ["self","i","one"] fun r u n=>(ak (qss 2 n (qx u (qf V.t rfl (qv 0)) (qv 1)))
   (ak (bA (aY eE kB (qf V.y rfl (qv 2)) qS (aU _)) (qr qS) br)
   (ak (bA (gw (qm V.t m0 r (qv 0) (ae (qv 2) av))) (qr qS) br)
   (ak (bA (CB (xK (aY eE kB (qf V.t rfl (qv 0)) qI (aU _)) (pJ (we u (qv 1) (qf V.t rfl (qv 0)) (by with_unfolding_all rfl))))) (aN (ba (cL (qf V.t rfl (qv 0)) (ae (qv 1) av)))) br)
   (ak (bA (CB (xK (CD u (qv 1) (qf V.t rfl (qv 0)) (by with_unfolding_all rfl)) (pJ (zA (gw (qm V.t m1 r (qv 0) (ae (qv 1) av))))))) (qr qS) br)
   (ak (bA (aY eE kB (qf V.y rfl (qv 2)) qS (aU _)) (qr (qm V.t m2 r (qv 0) (ae (qv 1) av))) br)
   (ak (bA (aY eE kB (qf V.y rfl (qv 2)) qS (aU _)) (qr (qm V.t m3 r (qv 0) (ae (qv 1) av))) br)
   (qr (qm V.t m4 r (qv 0) (ae (qv 2) av))))))))))
def vk{gy:Fn}(d:MtD e.K cT.C "log" "Tries.log" nJ ["self"])(m0:mh e cK "log" k ["self"] gy):mh e cT "log" (k+1) ["self"] (fnU 1 1 (jN gy cK cT)):=
 d.pu ["self"] fun r u n=>(qr (qm0 V.k m0 r (qf V.t rfl (qv 0))))
def qH{cG:Fn}(d:MtD e.K cT.C "order" "Tries.order" jY ["self"])(m0:mh e cK "order" k ["self"] cG):mh e cT "order" (k+1) ["self"] (fnU 4 1 (fK cG cT cY cK)):=
 d.pu ["self","done","i","one"] fun r u n=>(ak (qss 1 n sM)
   (ak (nK PassesOwn.never rfl (zy rfl V.B.enumerate (qf V.t rfl (qv 0))) (wc rfl (fk (aZ (i:=2) n rfl (by trivial)) (fk (aZ (i:=3) n rfl (by trivial)) qo))) (aN (bA (aY eE kB (qf V.y rfl (qv 3)) qS (aU _)) (aN (fj u (qv 1) (qf V.y rfl (qv 3)) (qv 2))) br)))
   (qr (qp (Nc:=["a","done"]) (tn:=["a"]) (capN:=["done"]) (caps:=[1]) rfl (jt (qm0 V.k m0 r (qf V.t rfl (qv 0)))) (fun _ _ _=>(cg (aZ (i:=0) (show(["a","done"]:List Str).Nodup by decide +kernel) rfl (by trivial)))) (fun _ _ _=>(CD u (qv 0) (qv 1) (by with_unfolding_all rfl))) (fun _ _ _=>(qx u (qv 1) (qv 0))) rfl rfl (by decide +kernel) (by decide +kernel) ⟨rfl,trivial⟩ rfl (.cons ⟨rfl,rfl,rfl,_,rfl⟩ .nil) rfl rfl))))
def vj{gx:Fn}(d:MtD e.K cT.C "now" "Tries.now" nI ["self"])(m0:mh e cK "now" k ["self"] gx):mh e cT "now" (k+1) ["self"] (fnU 1 1 (jM gx cK cT)):=
 d.pu ["self"] fun r u n=>(qr (qm0 V.k m0 r (qf V.t rfl (qv 0))))
def qO(d:MtD e.K cT.C "falls" "Tries.falls" j2 ["self","i"]) :mh e cT "falls" (k+1) ["self","i"] (fnU 2 2 (iD cY cT)):=
 d.pu ["self","i"] fun r u n=>(qr (qf V.y rfl (qx u (qf V.t rfl (qv 0)) (qv 1))))
def qK(d:MtD e.K cT.C "hands" "Tries.hands" jZ ["self","i"]) :mh e cT "hands" (k+1) ["self","i"] (fnU 3 2 (fL cT cY cD)):=
 d.pu ["self","i","one"] fun r u n=>(ak (qss 2 n (qx u (qf V.t rfl (qv 0)) (qv 1)))
   (ak (bA (aY eE kB (qf V.y rfl (qv 2)) qS (aU _)) (qr (qf V.d rfl (qf V.y rfl (qv 2)))) br)
   (qr qN)))
def qG{bB:Fn}(d:MtD e.K cT.C "rests" "Tries.rests" jX ["self"])(m0:mh e cT "sleeps" k ["self","one"] bB):mh e cT "rests" (k+1) ["self"] (fnU 1 1 (fJ bB cT cY)):=
 d.pu ["self"] fun r u n=>(qr (cW (Eb rfl) Og rfl V.B.all OG.Eg (ae (nL (Nc:=["one","self"]) (tn:=["one"]) (capN:=["self"]) (caps:=[0]) rfl (jt (qf V.t rfl (qv 0))) (fun _ _ _=>(cg (aZ (i:=0) (show(["one","self"]:List Str).Nodup by decide +kernel) rfl (by trivial)))) (fun _ _ _=>(J8 (oA eE kB (qf V.y rfl (qv 0)) qS (aU _)) (zB (qm V.t m0 r (qv 1) (ae (qv 0) av))))) rfl rfl (by decide +kernel) (by decide +kernel) ⟨rfl,trivial⟩ rfl (.cons ⟨rfl,rfl,rfl,_,rfl⟩ .nil) rfl rfl) av)))
def vh(d:Def e.K e.mg "_law_well" nG ["script","k"]) :hp e "_law_well" (k+1) ["script","k"] (fnU 6 2 (iq )):=
 d.pu ["script","k","number","stir","found","turn"] fun r u n=>(ak (qss 2 n (fq fz fu (fq j7 sQ qI (qv 1)) qI))
   (ak (bA (aY zV KR (qv 1) (cW oE oC rfl V.B.len PySem.boot_len (ae (qv 0) av)) (aU _)) (aN (qss 2 n (qx u (qv 0) (qv 1)))) br)
   (ak (bA (aY eE kB (fq nO uT (qv 2) qI) qI (aU _)) (qr (iU (ae (fq wk KS (qv 2) qI) av))) br)
   (ak (qss 3 n (fq nO uT (fq fz fu (fq fz fu (fq j7 sQ (qv 2) qI) (fq j7 sQ qI (qv 1))) qI) qI))
   (ak (qss 4 n qI)
   (ak (nK PassesOwn.never rfl (fS rfl V.B.range (ae qI av)) (cg (aZ (i:=5) n rfl (by trivial))) (ak (qss 3 n (fq nO uT (fq fz fu (fq fz fu (fq fz fu (fq j7 sQ (qv 3) (qv 3)) (fq j7 sQ qI (qv 3))) (fq j7 sQ qI (qv 5))) qI) qI))
   (aN (qss 4 n (fq fz fu (fq j7 sQ (qv 4) qI) (qv 3))))))
   (qr (iU (ae (qv 4) av)))))))))
theorem xW(d:Def e.K e.mg "_law_sip" pE ["well","many"]) :hp e "_law_sip" (k+1) ["well","many"] (fnU 3 2 (kY )):=
 d.pu ["well","many","digit"] fun r u n=>(ak (qss 2 n (fq nO uT (qx u (qv 0) qI) (qv 1)))
   (ak (fj u (qv 0) qI (fq wk KS (qx u (qv 0) qI) (qv 1)))
   (qr (qv 2))))
def dH(aD bc:Fn):CS:=
 (aV (dF 7 (cCB aD (ag (ah 0) (ag (cC (.int 13)) ay))))
  (aV (dF 8 (cCB aD (ag (ah 0) (ag (cOp fIx (mH (ag (cC (.int 2)) (ag (cC (.int 2)) (ag (cC (.int 4)) ay)))) (cCB aD (ag (ah 0) (ag (cC (.int 3)) ay)))) ay))))
  (aV (dF 9 (cCB aD (ag (ah 0) (ag (cOp fIx (ah 1) (cC (.int 0))) ay))))
  (aV (dQ (aR (cOp fLe (cOp fIx (ah 4) (cC (.int 0))) (cC (.int 0)))) OW bP)
  (aV (i8 (ah 4) (cC (.int 0)) (cOp HZ (cOp HZ (cOp fIx (ah 4) (cC (.int 0))) (cC (.int 1))) (cOp oR (cC (.int 2)) (cCB OJ (ag (cOp fEq (ah 7) (cC (.int 12))) ay)))))
  (dQ (aR (cOp fLt (ah 7) (cC (.int 4)))) (b8 (cBM b7 (ah 5) (ag (iN (ag (cC (.str "look")) (ag (ah 8) (ag (ah 9) ay)))) ay))) (dQ (aR (cOp fLt (ah 7) (cC (.int 7)))) (b8 (cBM b7 (ah 5) (ag (iN (ag (cC (.str "put")) (ag (ah 9) (ag (ah 8) ay)))) ay))) (dQ (aR (cOp fEq (ah 7) (cC (.int 7)))) (b8 (cBM b7 (ah 5) (ag (iN (ag (cC (.str "set")) (ag (ah 8) (ag (cCB aD (ag (ah 0) (ag (cOp fIx (ah 1) (cC (.int 1))) ay))) ay)))) ay))) (dQ (aR (cOp fEq (ah 7) (cC (.int 8)))) (b8 (cBM b7 (ah 5) (ag (iN (ag (cC (.str "plus")) (ag (ah 8) (ag (cCB aD (ag (ah 0) (ag (cC (.int 4)) ay))) ay)))) ay))) (dQ (aR (cOp fEq (ah 7) (cC (.int 9)))) (b8 (cBM b7 (ah 5) (ag (iN (ag (cC (.str "leap")) (ag (ah 8) (ag (cOp iM (cC (.int 1)) (cCB aD (ag (ah 0) (ag (cC (.int 3)) ay)))) ay)))) ay))) (dQ (yf (aR (cOp fLt (ah 7) (cC (.int 12)))) (aR (cOp fGt (ah 3) (cC (.int 0))))) (aV (dF 10 (cCB bc (ag (ah 0) (ag (ah 1) (ag (cC (.int 3)) (ag (cOp HZ (ah 3) (cC (.int 1))) (ag (ah 4) ay)))))))
  (b8 (cBM b7 (ah 5) (ag (iN (ag (cC (.str "try")) (ag (ah 10) (ag (cCB bc (ag (ah 0) (ag (ah 1) (ag (cC (.int 3)) (ag (cOp HZ (ah 3) (cC (.int 1))) (ag (ah 4) ay)))))) ay)))) ay)))) (dQ (aR (cOp fLt (ah 7) (cC (.int 12)))) (b8 (cBM b7 (ah 5) (ag (iN (ag (cC (.str "put")) (ag (ah 9) (ag (ah 8) ay)))) ay))) (dQ (aR (cOp fEq (cCB aD (ag (ah 0) (ag (cC (.int 6)) ay))) (cC (.int 0)))) (b8 (cBM b7 (ah 5) (ag (iN (ag (cC (.str "wait")) ay)) ay))) (b8 (cBM kW (ah 5) (ag (mH (ag (iN (ag (cC (.str "look")) (ag (cOp tX (cOp iM (ah 8) (cC (.int 1))) (cC (.int 4))) (ag (ah 9) ay)))) (ag (iN (ag (cC (.str "leap")) (ag (cOp tX (cOp iM (ah 8) (cC (.int 1))) (cC (.int 4))) (ag (cC (.int 1)) ay)))) (ag (iN (ag (cC (.str "wait")) ay)) ay)))) ay))))))))))))))))
def gN(aD bc:Fn):CS:=
 (aV (dF 5 (mH ay))
  (aV (oV (bS (ag (cCB aD (ag (ah 0) (ag (cOp iM (ah 2) (cC (.int 1))) ay))) ay)) (gNm 6) (dH aD bc))
  (bT (cCB lZ (ag (ah 5) ay)))))
def eQ{aD bc:Fn}(d:Def e.K e.mg "_law_dealing" jl ["well","world","most","deep","purse"])(m0:hp e "_law_sip" k ["well","many"] aD)(m1:hp e "_law_dealing" k ["well","world","most","deep","purse"] bc):hp e "_law_dealing" (k+1) ["well","world","most","deep","purse"] (fnU 11 5 (gN aD bc)):=
 d.pu ["well","world","most","deep","purse","found","k","way","h","box","one"] fun r u n=>(ak (qss 5 n (iU av))
   (ak (nK PassesOwn.never rfl (fS rfl V.B.range (ae (bQ m0 r rfl (ae (qv 0) (ae (fq fz fu (qv 2) qI) av))) av)) (cg (aZ (i:=6) n rfl (by trivial))) (ak (qss 7 n (bQ m0 r rfl (ae (qv 0) (ae qI av))))
   (ak (qss 8 n (bQ m0 r rfl (ae (qv 0) (ae (qx u (iU (ae qI (ae qI (ae qI av)))) (bQ m0 r rfl (ae (qv 0) (ae qI av)))) av))))
   (ak (qss 9 n (bQ m0 r rfl (ae (qv 0) (ae (qx u (qv 1) qI) av))))
   (ak (bA (aY KY Pg (qx u (qv 4) qI) qI (aU _)) (aN Cy) br)
   (ak (fj u (qv 4) qI (fq sR zP (fq sR zP (qx u (qv 4) qI) qI) (fq j7 sQ qI (jc Bl Of rfl V.B.int OG.Ef (ae (oA eE kB (qv 7) qI (aU _)) av)))))
   (aN (bA (aY zV KR (qv 7) qI (aU _)) (aN (ba (cL (qv 5) (ae (dC (ae qS (ae (qv 8) (ae (qv 9) av)))) av)))) (aN (bA (aY zV KR (qv 7) qI (aU _)) (aN (ba (cL (qv 5) (ae (dC (ae qS (ae (qv 9) (ae (qv 8) av)))) av)))) (aN (bA (aY eE kB (qv 7) qI (aU _)) (aN (ba (cL (qv 5) (ae (dC (ae qS (ae (qv 8) (ae (bQ m0 r rfl (ae (qv 0) (ae (qx u (qv 1) qI) av))) av)))) av)))) (aN (bA (aY eE kB (qv 7) qI (aU _)) (aN (ba (cL (qv 5) (ae (dC (ae qS (ae (qv 8) (ae (bQ m0 r rfl (ae (qv 0) (ae qI av))) av)))) av)))) (aN (bA (aY eE kB (qv 7) qI (aU _)) (aN (ba (cL (qv 5) (ae (dC (ae qS (ae (qv 8) (ae (fq fz fu qI (bQ m0 r rfl (ae (qv 0) (ae qI av)))) av)))) av)))) (aN (bA (CB (xK (aY zV KR (qv 7) qI (aU _)) (pJ (aY xQ IF (qv 3) qI (aU _))))) (ak (qss 10 n (bQ m1 r rfl (ae (qv 0) (ae (qv 1) (ae qI (ae (fq sR zP (qv 3) qI) (ae (qv 4) av)))))))
   (aN (ba (cL (qv 5) (ae (dC (ae qS (ae (qv 10) (ae (bQ m1 r rfl (ae (qv 0) (ae (qv 1) (ae qI (ae (fq sR zP (qv 3) qI) (ae (qv 4) av)))))) av)))) av))))) (aN (bA (aY zV KR (qv 7) qI (aU _)) (aN (ba (cL (qv 5) (ae (dC (ae qS (ae (qv 9) (ae (qv 8) av)))) av)))) (aN (bA (aY eE kB (bQ m0 r rfl (ae (qv 0) (ae qI av))) qI (aU _)) (aN (ba (cL (qv 5) (ae (dC (ae qS av)) av)))) (aN (ba (CF (qv 5) (ae (iU (ae (dC (ae qS (ae (fq nO uT (fq fz fu (qv 8) qI) qI) (ae (qv 9) av)))) (ae (dC (ae qS (ae (fq nO uT (fq fz fu (qv 8) qI) qI) (ae qI av)))) (ae (dC (ae qS av)) av)))) av))))))))))))))))))))))))))
   (qr (jc ik uS rfl V.B.tuple OG.k8 (ae (qv 5) av)))))
def jL(aD bc:Fn):CS:=
 (aV (dF 2 (cOp iM (cC (.int 1)) (cCB aD (ag (ah 0) (ag (cC (.int 3)) ay)))))
  (aV (dF 3 (iN (ag (ah 2) (ag (cOp fIx (mH (ag (cC (.int 2)) (ag (cC (.int 3)) (ag (cC (.int 5)) (ag (cC (.int 1000)) ay))))) (cCB aD (ag (ah 0) (ag (cC (.int 4)) ay)))) ay))))
  (aV (dF 4 (cCB lZ (ag (dG (bS (ag (ah 2) ay)) (gNm 0) (cCB aD (ag (ah 1) (ag (cOp fIx (ah 2) (cC (.int 1))) ay))) 1 [0,3]) ay)))
  (aV (dF 5 (cOp iM (cC (.int 2)) (cCB aD (ag (ah 0) (ag (cOp HZ (ah 1) (cC (.int 1))) ay)))))
  (bT (iN (ag (ah 3) (ag (ah 4) (ag (dG (bS (ag (ah 5) ay)) (gNm 0) (cCB bc (ag (ah 1) (ag (ah 2) (ag (cC (.int 4)) (ag (cOp fIx (mH (ag (cC (.int 2)) (ag (cC (.int 2)) (ag (cC (.int 3)) ay)))) (cCB aD (ag (ah 1) (ag (cC (.int 3)) ay)))) (ag (mH (ag (cC (.int 12)) ay)) ay)))))) 1 [0,3]) ay)))))))))
def vi{aD bc:Fn}(d:Def e.K e.mg "_law_some" nH ["well","most"])(m0:hp e "_law_sip" k ["well","many"] aD)(m1:hp e "_law_dealing" k ["well","world","most","deep","purse"] bc):hp e "_law_some" (k+1) ["well","most"] (fnU 6 2 (jL aD bc)):=
 d.pu ["well","most","n","world","state","many"] fun r u n=>(ak (qss 2 n (fq fz fu qI (bQ m0 r rfl (ae (qv 0) (ae qI av)))))
   (ak (qss 3 n (dC (ae (qv 2) (ae (qx u (iU (ae qI (ae qI (ae qI (ae qI av))))) (bQ m0 r rfl (ae (qv 0) (ae qI av)))) av))))
   (ak (qss 4 n (jc ik uS rfl V.B.tuple OG.k8 (ae (nL (Nc:=["box","well","world"]) (tn:=["box"]) (capN:=["well","world"]) (caps:=[0,3]) rfl (fS rfl V.B.range (ae (qv 2) av)) (fun _ _ _=>(cg (aZ (i:=0) (show(["box","well","world"]:List Str).Nodup by decide +kernel) rfl (by trivial)))) (fun _ _ _=>(bQ m0 r rfl (ae (qv 1) (ae (qx u (qv 2) qI) av)))) rfl rfl (by decide +kernel) (by decide +kernel) ⟨rfl,rfl,trivial⟩ rfl (.cons ⟨rfl,rfl,rfl,_,rfl⟩ (.cons ⟨rfl,rfl,rfl,_,rfl⟩ .nil)) rfl rfl) av)))
   (ak (qss 5 n (fq fz fu qI (bQ m0 r rfl (ae (qv 0) (ae (fq sR zP (qv 1) qI) av)))))
   (qr (dC (ae (qv 3) (ae (qv 4) (ae (nL (Nc:=["k","well","world"]) (tn:=["k"]) (capN:=["well","world"]) (caps:=[0,3]) rfl (fS rfl V.B.range (ae (qv 5) av)) (fun _ _ _=>(cg (aZ (i:=0) (show(["k","well","world"]:List Str).Nodup by decide +kernel) rfl (by trivial)))) (fun _ _ _=>(bQ m1 r rfl (ae (qv 1) (ae (qv 2) (ae qI (ae (qx u (iU (ae qI (ae qI (ae qI av)))) (bQ m0 r rfl (ae (qv 1) (ae qI av)))) (ae (iU (ae qI av)) av))))))) rfl rfl (by decide +kernel) (by decide +kernel) ⟨rfl,rfl,trivial⟩ rfl (.cons ⟨rfl,rfl,rfl,_,rfl⟩ (.cons ⟨rfl,rfl,rfl,_,rfl⟩ .nil)) rfl rfl) av)))))))))
def kZ(fC fF fA ie fB ig:Fn)(cTries:Cl):CS:=
 (aV (dF 2 (dG (bS (ag (ah 1) ay)) (gNm 0) (iN (ag (aM cTries fF (ah 1) (ag (ah 0) ay)) (ag (aM cTries fC (ah 1) (ag (ah 0) ay)) ay))) 1 [0]))
  (bT (iN (ag (aM cTries ig (ah 0) ay) (ag (aM cTries fB (ah 0) ay) (ag (aM cTries ie (ah 0) ay) (ag (ah 2) (ag (aM cTries fA (ah 0) ay) ay))))))))
def xX{fC fF fA ie fB ig:Fn}(d:Def e.K e.mg "_law_all" pF ["tries","many"])(m0:mh e cT "hands" k ["self","i"] fC)(m1:mh e cT "falls" k ["self","i"] fF)(m2:mh e cT "rests" k ["self"] fA)(m3:mh e cT "now" k ["self"] ie)(m4:mh e cT "order" k ["self"] fB)(m5:mh e cT "log" k ["self"] ig):hp e "_law_all" (k+1) ["tries","many"] (fnU 3 2 (kZ fC fF fA ie fB ig cT)):=
 d.pu ["tries","many","own"] fun r u n=>(ak (pI (Nc:=["i","tries"]) (tn:=["i"]) (capN:=["tries"]) (caps:=[0]) rfl (fS rfl V.B.range (ae (qv 1) av)) (fun _ _ _=>(cg (aZ (i:=0) (show(["i","tries"]:List Str).Nodup by decide +kernel) rfl (by trivial)))) (fun _ _ _=>(dC (ae (qm V.t m1 r (qv 1) (ae (qv 0) av)) (ae (qm V.t m0 r (qv 1) (ae (qv 0) av)) av)))) rfl rfl (by decide +kernel) (by decide +kernel) ⟨rfl,trivial⟩ rfl (.cons ⟨rfl,rfl,rfl,_,rfl⟩ .nil) rfl rfl n rfl rfl rfl)
   (qr (dC (ae (qm0 V.t m5 r (qv 0)) (ae (qm0 V.t m4 r (qv 0)) (ae (qm0 V.t m3 r (qv 0)) (ae (qv 2) (ae (qm0 V.t m2 r (qv 0)) av))))))))
omit V in
def EN:bU ["script","k","well","world","state","dealings","many","three","turn","i","words"] ["script"] (ax GH):=⟨rfl,rfl,rfl,by decide +kernel,rfl,by decide +kernel,by decide +kernel⟩
def rp(cZ dc aD bZ dN bD:Fn)(cTries:Cl):CS:=
 (aV (dF 9 (cCB aD (ag (ah 2) (ag (ah 6) ay))))
  (aV (dF 10 (dG (iTp (ah 7)) (gNm 0) (aM cTries dN (ah 0) (ag (ah 1) ay)) 1 [9]))
  (dQ (cOr (aR (cOp (tZ true) (ah 10) (cOp n6 (cSl (ah 10) none (some (cC (.int 1)))) (cC (.int 3))))) (aR (cOp (tZ true) (cCB bZ (ag (cOp fIx (ah 7) (cC (.int 1))) (ag (ah 6) ay))) (cCB bZ (ag (cOp fIx (ah 7) (cC (.int 0))) (ag (ah 6) ay)))))) (bT (cC (.bl false))) bP)))
def rn(cZ dc aD bZ dN bD:Fn)(cTries:Cl):CS:=
 (aV (dF 2 (cCB cZ (ag (ah 0) (ag (ah 1) ay))))
  (aV (LY (cCB dc (ag (ah 2) (ag (cC (.int 4)) ay))) (gTp [3,4,5]))
  (aV (dF 6 (cCB jI (ag (ah 5) ay)))
  (aV (dF 7 (mH (ag (cCB (tY cTries bD) (ag (ah 3) (ag (ah 4) (ag (ah 5) ay)))) (ag (cCB (fU cTries bD) (ag (ah 3) (ag (ah 4) (ag (ah 5) (ag (cC (.int 20)) ay))))) (ag (cCB (fU cTries bD) (ag (ah 3) (ag (ah 4) (ag (ah 5) (ag (cC .non) ay))))) ay)))))
  (aV (oV (bS (ag (cC (.int 30)) ay)) (gNm 8) (rp cZ dc aD bZ dN bD cTries))
  (dQ (aR (cOp (tZ true) (cCB bZ (ag (cOp fIx (ah 7) (cC (.int 2))) (ag (ah 6) ay))) (cCB bZ (ag (cOp fIx (ah 7) (cC (.int 0))) (ag (ah 6) ay))))) (bT (cC (.bl false))) bP))))))
def Im(cZ dc aD bZ dN bD:Fn)(cTries:Cl):CS:=
 (aV (oV (bS (ag (cCB IK (ag (cC (.int 2)) (ag (cCB IJ (ag (cC (.int 3)) (ag (cCB jI (ag (ah 0) ay)) ay))) ay))) ay)) (gNm 1) (rn cZ dc aD bZ dN bD cTries))
  (bT (cC (.bl true))))
omit V in
def OF{k:Nat}{cZ dc aD bZ dN bD:Fn}{cTries:Cl}{fa pO:Addr}{fd:Zu}(F:Fun K "law" "law" GH fa fd)(B:Blt mg)(TTries:TC K cTries ["world","keeper","patience","ones","begun","row"])(vI:yp P w K mg base "_law_well" (k+1) ["script","k"] cZ)(vJ:yp P w K mg base "_law_some" (k+1) ["well","most"] dc)(yj:yp P w K mg base "_law_sip" (k+1) ["well","many"] aD)(jf:yp P w K mg base "_law_all" (k+1) ["tries","many"] bZ)(M_Tries_go:uC P w K mg base cTries "go" (k+1) ["self","i"] dN)(M_Tries:CMk P w K mg base cTries "Tries" k ["self","world","state","dealings","patience"] bD)(N_Tries:Fy P w K mg base cTries "Tries" k ["self","world","state","dealings","patience"] bD)
  (ok:∀(ns:List Int),ns.length<=63->∃ρ' S',Im cZ dc aD bZ dN bD cTries [some (.kl ns),none,none,none,none,none,none,none,none,none,none] [zOf pO]=some (.rt (.bl true),ρ',S')):kC P w K mg base CX0 (k+1+1) fa fd ["script"] (wb pO K):=by
 refine Fun.okW F EN (fun vs H Q E h=>(by obtain⟨a,ns,rfl,_⟩:=h;rfl)) fun cdv A outer s H vs Q E hr h=>?_;obtain⟨a,ns,rfl,hS,hlen,hpO,q⟩:=h;have hu:=vg hr;have nd:=EN.nd;exact⟨_,(ak (nK PassesOwn.never rfl (fS rfl B.range (ae (cW (Bj rfl) Oe rfl B.max OG.Ee (ae qI (ae (cW (Bi rfl) Oc rfl B.min OG.Ed (ae qI (ae (cW oE oC rfl B.len PySem.boot_len (ae (qv 0) av)) av))) av))) av)) (cg (aZ (i:=1) nd rfl (by trivial))) (ak (qss 2 nd (bQ vI hr rfl (ae (qv 0) (ae (qv 1) av))))
   (ak (J7 (bQ vJ hr rfl (ae (qv 2) (ae qI av))) (wc rfl (fk (aZ (i:=3) nd rfl (by trivial)) (fk (aZ (i:=4) nd rfl (by trivial)) (fk (aZ (i:=5) nd rfl (by trivial)) qo)))))
   (ak (qss 6 nd (cW oE oC rfl B.len PySem.boot_len (ae (qv 5) av)))
   (ak (qss 7 nd (iU (ae (GP N_Tries hr rfl (ae (qv 3) (ae (qv 4) (ae (qv 5) av)))) (ae (lY M_Tries hr rfl (ae (qv 3) (ae (qv 4) (ae (qv 5) (ae qI av))))) (ae (lY M_Tries hr rfl (ae (qv 3) (ae (qv 4) (ae (qv 5) (ae qN av))))) av)))))
   (ak (nK PassesOwn.never rfl (fS rfl B.range (ae qI av)) (cg (aZ (i:=8) nd rfl (by trivial))) (ak (qss 9 nd (bQ yj hr rfl (ae (qv 2) (ae (qv 6) av))))
   (ak (pI (Nc:=["tries","i"]) (tn:=["tries"]) (capN:=["i"]) (caps:=[9]) rfl (jt (qv 7)) (fun _ _ _=>(cg (aZ (i:=0) (show(["tries","i"]:List Str).Nodup by decide +kernel) rfl (by trivial)))) (fun _ _ _=>(qm TTries M_Tries_go hr (qv 0) (ae (qv 1) av))) rfl rfl (by decide +kernel) (by decide +kernel) ⟨rfl,trivial⟩ rfl (.cons ⟨rfl,rfl,rfl,_,rfl⟩ .nil) rfl rfl nd rfl rfl rfl)
   (aN (bA (CB (Mo (aY (zU hr.units) Df (qv 10) (fq zY zS (Mn (qv 10) ql (qk qI)) qI) (aU _)) (GO (aY (zU hr.units) Df (bQ jf hr rfl (ae (qx hu (qv 7) qI) (ae (qv 6) av))) (bQ jf hr rfl (ae (qx hu (qv 7) qI) (ae (qv 6) av))) (aU _))))) (aN (sL qB)) br)))))
   (aN (bA (aY (zU hr.units) Df (bQ jf hr rfl (ae (qx hu (qv 7) qI) (ae (qv 6) av))) (bQ jf hr rfl (ae (qx hu (qv 7) qI) (ae (qv 6) av))) (aU _)) (aN (sL qB)) br))))))))
   (aN (sL qB))),Dw hS hpO (ok ns hlen) q⟩
end
end OL
local macro_rules
 | `(tactic| rwa $s:rwRuleSeq) => do
  let ts : Array (Lean.TSyntax `term) := s.raw[1].getSepArgs.map fun r => ⟨r[1]⟩
  let us : Array (Lean.TSyntax `term) := (("uE mK x_c Jd yu yt vL qd Jt EB EA PX MR MQ MS Jf Js FP FO MP Jc Jb Je FE uF lu jA jy MF IW Jg Ex FN xw Eu xq vM I0 IZ Jn FK FC Ja xv vO vN FA yr NA Jr Jq Nj Nh Jv Ju PU ML MK MJ MI MY MZ M9 Nd MH IX IY Ji Jj Jk Jh FQ MG MW PY Ni PZ Nn MU Nm MT Np MV Nl Nk at0 at1 at2 at3 ix0 ix1 ix2 Option.bind_some List.getElem?_cons_zero List.getElem?_cons_succ List.set_cons_zero List.set_cons_succ List.length_cons List.length_nil List.map_cons List.map_nil decide_true decide_false Bool.not_true Bool.not_false FJ vQ vP PV MO MN MM Ew yy yx yw FF Jm Ng MX P5 Nz Ny Nw NB P4 Nv Nu Nt Nr Nq Jo IT IU IV FG FH FI Jl ga ga0 gs gs0 Option.join_some Nat.add_zero List.cons_append List.nil_append List.append_assoc" : String).splitOn " ").toArray.map fun x => ⟨(Lean.mkIdent ((x.splitOn ".").foldl Lean.Name.str Lean.Name.anonymous)).raw⟩
  let vs:=ts++us
  `(tactic| simp only [$[$vs:term],*])
namespace OQ
open PySem PySem.Spec PyProof.Rows L2 OG OP
def l9{m:Int}(h0:0<=m)(h:m<2^60):m.natAbs.log2<9000:=Ae h0 h
inductive lj where
 |look (h b:Int)|put (b h:Int)|set (h v:Int)|plus (h g:Int)|leap (h k:Int)|wait
def lj.u:lj->U
 |.look h b=>.tup [.str "look",.int h,.int b]
 |.put b h=>.tup [.str "put",.int b,.int h]
 |.set h v=>.tup [.str "set",.int h,.int v]
 |.plus h g=>.tup [.str "plus",.int h,.int g]
 |.leap h k=>.tup [.str "leap",.int h,.int k]
 |.wait=>.tup [.str "wait"]
def lj.ok(n w:Int):lj->Prop
 |.look h b=>0<=h/\h<4/\0<=b/\b<n
 |.put b h=>0<=h/\h<4/\0<=b/\b<n
 |.set h v=>0<=h/\h<4/\0<=v/\v<w
 |.plus h g=>0<=h/\h<4/\0<=g/\g<4
 |.leap h k=>0<=h/\h<4/\1<=k/\k<=12
 |.wait=>True
def lD:decide (("wait":Str)="leap")=false:=by decide +kernel
def mP:decide (("wait":Str)="try")=false:=by decide +kernel
def lC:decide (("wait":Str)="look")=false:=by decide +kernel
def mR:decide (("wait":Str)="put")=false:=by decide +kernel
def mQ:decide (("wait":Str)="set")=false:=by decide +kernel
def lB:decide (("wait":Str)="plus")=false:=by decide +kernel
def lK:decide (("leap":Str)="wait")=false:=by decide +kernel
def nB:decide (("leap":Str)="try")=false:=by decide +kernel
def lM:decide (("leap":Str)="look")=false:=by decide +kernel
def nD:decide (("leap":Str)="put")=false:=by decide +kernel
def nC:decide (("leap":Str)="set")=false:=by decide +kernel
def lL:decide (("leap":Str)="plus")=false:=by decide +kernel
def mS:decide (("try":Str)="wait")=false:=by decide +kernel
def mW:decide (("try":Str)="leap")=false:=by decide +kernel
def mV:decide (("try":Str)="look")=false:=by decide +kernel
def o7:decide (("try":Str)="put")=false:=by decide +kernel
def oZ:decide (("try":Str)="set")=false:=by decide +kernel
def mU:decide (("try":Str)="plus")=false:=by decide +kernel
def lH:decide (("look":Str)="wait")=false:=by decide +kernel
def lJ:decide (("look":Str)="leap")=false:=by decide +kernel
def ny:decide (("look":Str)="try")=false:=by decide +kernel
def nA:decide (("look":Str)="put")=false:=by decide +kernel
def nz:decide (("look":Str)="set")=false:=by decide +kernel
def lI:decide (("look":Str)="plus")=false:=by decide +kernel
def m8:decide (("put":Str)="wait")=false:=by decide +kernel
def ni:decide (("put":Str)="leap")=false:=by decide +kernel
def pj:decide (("put":Str)="try")=false:=by decide +kernel
def ng:decide (("put":Str)="look")=false:=by decide +kernel
def pq:decide (("put":Str)="set")=false:=by decide +kernel
def m9:decide (("put":Str)="plus")=false:=by decide +kernel
def mX:decide (("set":Str)="wait")=false:=by decide +kernel
def m7:decide (("set":Str)="leap")=false:=by decide +kernel
def o9:decide (("set":Str)="try")=false:=by decide +kernel
def mZ:decide (("set":Str)="look")=false:=by decide +kernel
def ph:decide (("set":Str)="put")=false:=by decide +kernel
def mY:decide (("set":Str)="plus")=false:=by decide +kernel
def lE:decide (("plus":Str)="wait")=false:=by decide +kernel
def lG:decide (("plus":Str)="leap")=false:=by decide +kernel
def nj:decide (("plus":Str)="try")=false:=by decide +kernel
def lF:decide (("plus":Str)="look")=false:=by decide +kernel
def nv:decide (("plus":Str)="put")=false:=by decide +kernel
def nq:decide (("plus":Str)="set")=false:=by decide +kernel
def SNX:type_of% @lD/\type_of% @mP/\type_of% @lC/\type_of% @mR/\type_of% @mQ/\type_of% @lB/\type_of% @lK/\type_of% @nB/\type_of% @lM/\type_of% @nD/\type_of% @nC/\type_of% @lL/\type_of% @mS/\type_of% @mW/\type_of% @mV/\type_of% @o7/\type_of% @oZ/\type_of% @mU/\type_of% @lH/\type_of% @lJ/\type_of% @ny/\type_of% @nA/\type_of% @nz/\type_of% @lI/\type_of% @m8/\type_of% @ni/\type_of% @pj/\type_of% @ng/\type_of% @pq/\type_of% @m9/\type_of% @mX/\type_of% @m7/\type_of% @o9/\type_of% @mZ/\type_of% @ph/\type_of% @mY/\type_of% @lE/\type_of% @lG/\type_of% @nj/\type_of% @lF/\type_of% @nv/\type_of% @nq:=⟨@lD,@mP,@lC,@mR,@mQ,@lB,@lK,@nB,@lM,@nD,@nC,@lL,@mS,@mW,@mV,@o7,@oZ,@mU,@lH,@lJ,@ny,@nA,@nz,@lI,@m8,@ni,@pj,@ng,@pq,@m9,@mX,@m7,@o9,@mZ,@ph,@mY,@lE,@lG,@nj,@lF,@nv,@nq⟩
structure M where
 hs:List Int
 ps:List (Int×Int)
 lk:List Int
def oW(lk:List Int)(b:Int):List Int:=if b∈lk then lk else lk++[b]
def Lf(first:List Int)(m:M)(b:Int):Int:=(bC m.ps b).getD (first.getD b.toNat 0)
def step(w:Int)(first:List Int)(m:M):lj->M
 |.look h b=>⟨m.hs.set h.toNat (Lf first m b),m.ps,if (bC m.ps b).isSome then m.lk else oW m.lk b⟩
 |.put b h=>⟨m.hs,fZ m.ps b (m.hs.getD h.toNat 0),m.lk⟩
 |.set h v=>⟨m.hs.set h.toNat v,m.ps,m.lk⟩
 |.plus h g=>⟨m.hs.set h.toNat ((m.hs.getD h.toNat 0+m.hs.getD g.toNat 0) % w),m.ps,m.lk⟩
 |.leap _ _=>m
 |.wait=>m
def Ie(lk:List Int):List (Key×U):=lk.map fun b=>(.inl b,.bl true)
def CJ(b:Int)(lk:List Int):fZ (Ie lk) (.inl b) (.bl true)=Ie (oW lk b):=by
 have ha:((Ie lk).any fun kv=>decide (kv.1=Sum.inl b))=decide (b∈lk):=by
  unfold Ie;induction lk with
  |nil=>rfl
  |cons k r ih=>
   simp only[QU,Zf,ih];by_cases e:k=b;subst e;simp;rw[XZ (fun z:(Sum.inl k:Key)=Sum.inl b=>e (Sum.inl.inj z))];simp[Ne.symm e]
 unfold fZ oW;rw[ha];by_cases c:b∈lk
 ·rw[X9 (XX c),X9 c];unfold Ie;rw[ZG];refine Zb fun p _=>?_;simp only[Function.comp];split<;>rfl
 rw[XQ (by simpa using c),XQ c];simp[Ie]
def at4{hs:List Int}{h:Int}(l:hs.length=4)(h0:0<=h)(h1:h<4):atI (hs.map U.int) h=some (.int (hs.getD h.toNat 0)):=by
 have hk:h.toNat<hs.length:=by omega
 refine Bv h0 ?_;rw[QL,QQ hk,X8,QQ hk];rfl
def map_set{hs:List Int}{k:Nat}{v:Int}:(hs.map U.int).set k (.int v)=(hs.set k v).map U.int:=by rw[List.map_set]
structure Wf(n:Int)(m:M):Prop where
 h4:m.hs.length=4
 pk:(m.ps.map (·.1)).Nodup
 pb:∀k∈m.ps.map (·.1),0<=k/\k<n
 lk:m.lk.Nodup
 lb:∀k∈m.lk,0<=k/\k<n
def few:∀(n:Nat) (l:List Int),l.Nodup->(∀k∈l,0<=k/\k<n)->l.length<=n
 |0,l,_,h=>by
  cases l with
  |nil=>simp
  |cons a r=>have:=h a (by simp);omega
 |n+1,l,nd,h=>by
  have ih:=few n (l.erase (n:Int)) (nd.erase _) fun k hk=>by
   have h1:=h k (List.mem_of_mem_erase hk);have h2:k≠(n:Int):=fun z=>by subst z;exact(nd.not_mem_erase) hk
   omega
  rw[List.length_erase]at ih;split at ih<;>omega
def Wf.few{n:Int}{m:M}(h:Wf n m)(n0:0<=n)(n1:n<=6):m.ps.length<=6/\m.lk.length<=6:=by
 have a:=OQ.few n.toNat _ h.pk fun k hk=>by have:=h.pb k hk;omega
 have b:=OQ.few n.toNat _ h.lk fun k hk=>by have:=h.lb k hk;omega
 rw[Q9]at a;omega
def Bz{l:List Int}{b:Int}(h:l.Nodup):(oW l b).Nodup:=by
 unfold oW;split;exact h;rename_i c;rw[X4];exact⟨h,by simp,fun x hx y hy z=>by simp at hy;subst hy;subst z;exact c hx⟩
def xj{l:List Int}{b k:Int}(h:k∈oW l b):k∈l\/k=b:=by
 unfold oW at h;split at h;exact .inl h;simpa using h
def sN(b v:Int)(ps:List (Int×Int)):(fZ ps b v).map (·.1)=oW (ps.map (·.1)) b:=by
 have ha:(ps.any fun kv=>decide (kv.1=b))=decide (b∈ps.map (·.1)):=by
  induction ps with
  |nil=>rfl
  |cons p r ih=>
   simp only[Zf,ih,QU];by_cases e:p.1=b;simp[e];simp[e,Ne.symm e]
 unfold fZ oW;rw[ha];by_cases c:b∈ps.map (·.1)
 ·rw[X9 (XX c),X9 c,ZG];refine Zb fun p _=>?_;simp only[Function.comp];split<;>rfl
 rw[XQ (by simpa using c),XQ c];simp
def Gz{n w:Int}{first:List Int}{m:M}{d:lj}(h:Wf n m)(od:d.ok n w):Wf n (step w first m d):=by
 cases d with
 |look g b=>
  obtain⟨_,_,b0,b1⟩:=od;refine⟨by simpa [step] using h.h4,h.pk,h.pb,?_,?_⟩;simp only[step];split;exact h.lk;exact Bz h.lk;simp only[step];split;exact h.lb;exact fun k hk=>(xj hk).elim (h.lb k) fun e=>by subst e;exact⟨b0,b1⟩
 |put b g=>
  obtain⟨b0,b1,b2,b3⟩:=od;refine⟨h.h4,?_,?_,h.lk,h.lb⟩;simp only[step];rw[sN];exact Bz h.pk
  ·simp only[step];rw[sN];exact fun k hk=>(xj hk).elim (h.pb k) fun e=>by subst e;constructor<;>omega
 |set g v=>exact⟨by simpa [step] using h.h4,h.pk,h.pb,h.lk,h.lb⟩
 |plus g v=>exact⟨by simpa [step] using h.h4,h.pk,h.pb,h.lk,h.lb⟩
 |leap g k=>exact h
 |wait=>exact h
def kb{α:Type}{l:List α}{k:Nat}{x:α}(h:l[k]?=some x):k<l.length:=(Q4.mp h).1
def aC{α:Type}{l r:List α}{k:Nat}{x:α}(h:l[k]?=some x):(l++r)[k]?=some x:=by rw[ZJ (kb h)];exact h
def inI(b:Int):∀l:List Int,inU (.int b) (l.map U.int)=decide (b∈l)
 |[]=>by simp[inU]
 |x::r=>by
  have ih:=inI b r;unfold inU at ih ⊢;rw[QU,Zf,ih,show eqF (.int x) (.int b)=(x == b)from rfl];by_cases e:x=b;subst e;simp;have:(x == b)=false:=by simpa using e
  rw[this];simp[Ne.symm e]
def Om(b:Int):∀ps:List (Int×Int),decide (b∈ps.map (·.1))=(bC ps b).isSome
 |[]=>rfl
 |(k,v)::r=>by
  have ih:=Om b r;unfold bC at ih ⊢;simp only[QU,ZX];by_cases e:k=b
  ·subst e;simp
  ·rw[XZ e,<-ih];simp[Ne.symm e]
def yY(b v j:Int)(ps:List (Int×Int)):bC (fZ ps b v) j=if j=b then some v else bC ps j:=by
 have e1:∀ps:List (Int×Int),bC ps j=(jg (ps.map fun p=>(p.1,V.int p.2)) j).map fun x=>match x with|.int i=>i|_=>0:=fun ps=>by
  unfold bC jg;induction ps with
  |nil=>rfl
  |cons p r ih=>
   simp only[QU,ZX];by_cases e:p.1=j;simp[e];rw[XZ e];exact ih
 have e2:(fZ ps b v).map (fun p=>(p.1,V.int p.2))=rO (ps.map fun p=>(p.1,V.int p.2)) b (.int v):=by
  unfold fZ rO;have:(ps.map fun p=>(p.1,V.int p.2)).any (fun kv=>decide (kv.1=b))=ps.any fun kv=>decide (kv.1=b):=by rw[List.any_map];rfl
  rw[this];split
  ·rw[ZG,ZG];refine Zb fun p _=>?_;simp only[Function.comp];split<;>rfl
  simp
 rw[e1,e2,Cj];split;rfl;exact(e1 ps).symm
def rS{x:U}{S:Sto}:E8 x .non S=some (.bl (oH x),S):=rfl
def yv{x:U}{S:Sto}:tW x .non S=some (.bl (!oH x),S):=rfl
def pW:oH .non=true:=rfl
def E2{us:List U}:oH (.tup us)=false:=rfl
def AB{i:Int}:oH (.int i)=false:=rfl
def NH{us:List U}{k:Nat}{S:Sto}(h:k<us.length):fSl (.tup us) none (some (k:Int)) S=some (.tup (us.take k),S):=by
 have e:HT.sIx us.length us.length (some (k:Int))=k:=by rw[HT.sIx_nat];omega
 simp only[fSl,HT.sIx_none,e,Fp,List.drop_zero,Nat.sub_zero];rw[XQ (by omega)]
def GF{us:List U}{k:Nat}{S:Sto}(h0:0<k)(h:k<=us.length):fSl (.tup us) (some (k:Int)) none S=some (.tup (us.drop k),S):=by
 have e:HT.sIx us.length 0 (some (k:Int))=k:=by rw[HT.sIx_nat];omega
 simp only[fSl,HT.sIx_none,e,Fp];rw[XQ (by omega),List.take_of_length_le (by simp)]
def xk:Fn:=fnU 3 3 oj
def yT{us:List U}{k:Int}{v:U}{S:Sto}(k0:0<=k)(h:k<us.length)(hl:us.length<=50):xk [.tup us,.int k,v] S=some (.tup (us.set k.toNat v),S):=by
 unfold xk;rw[t7];have ek:k=((k.toNat:Nat):Int):=by omega
 have hk:k.toNat<us.length:=by omega
 have e1:k+1=((k.toNat+1:Nat):Int):=by omega
 have a1:fSl (.tup us) none (some k) S=some (.tup (us.take k.toNat),S):=by rw[ek];exact NH hk
 have a2:fSl (.tup us) (some (k+1)) none S=some (.tup (us.drop (k.toNat+1)),S):=by rw[e1];exact GF (by omega) (by omega)
 have b1:iM (.tup (us.take k.toNat)) (.tup [v]) S=some (.tup (us.take k.toNat++[v]),S):=by
  unfold iM;simp only;rw[X9 (by simp;unfold LIM;omega)]
 have b2:iM (.tup (us.take k.toNat++[v])) (.tup (us.drop (k.toNat+1))) S=some (.tup (us.take k.toNat++[v]++us.drop (k.toNat+1)),S):=by
  unfold iM;simp only;rw[X9 (by simp;unfold LIM;omega)]
 rw[List.set_eq_take_append_cons_drop,X9 hk];rwa[oj,cSl,ug,a1,a2,b1,b2]
def pt(ds:List U)(q:Int)(A B:U):U:=.tup [.tup ds,.int q,A,B]
inductive Onw:Nat->U->U->Prop
 |stop {d:Nat} {ds:List U} {q:Int} {A B:U}:q<ds.length->Onw d (pt ds q A B) (pt ds q A B)
 |top {d:Nat} {ds:List U} {q:Int} {B:U}:Onw d (pt ds q .non B) (pt ds q .non B)
 |up {d:Nat} {ds ds':List U} {q q':Int} {A' B B' y:U}:(ds.length:Int)<=q->Onw d (pt ds' q' A' B') y->Onw (d+1) (pt ds q (pt ds' q' A' B') B) y
def yi:Fn:=fnU 2 1 (om 100)
def Dj{F:Nat}{d:Nat}{x y:U}{S:Sto}{r:Option U}(h:Onw d x y):∀(fuel:Nat),d<fuel->
  f7 (yf (aR (cOp fGe (cOp fIx (ah 1) (cC (.int 1))) (cCB jI (ag (cOp fIx (ah 1) (cC (.int 0))) ay)))) (aR (cOp tW (cOp fIx (ah 1) (cC (.int 2))) (cC .non)))) (jP F) fuel [r,some x] S=some (.nx,[r,some y],S):=by
 induction h with
 |@stop d ds q A B h=>
  intro fuel hf;obtain⟨f,rfl⟩:∃f,fuel=f+1:=⟨fuel-1,by omega⟩;have c:¬(ds.length:Int)<=q:=by omega
  refine rV ?_;unfold pt;rwa[c]
 |@top d ds q B=>
  intro fuel hf;obtain⟨f,rfl⟩:∃f,fuel=f+1:=⟨fuel-1,by omega⟩;refine rV ?_;unfold pt;by_cases c:(ds.length:Int)<=q;rwa[c,yv,pW];rwa[c]
 |@up d ds ds' q q' A' B B' y h _ ih=>
  intro fuel hf;obtain⟨f,rfl⟩:∃f,fuel=f+1:=⟨fuel-1,by omega⟩;refine(Cd (ρ1:=[r,some (pt ds' q' A' B')]) (S1:=S) (S0:=S) ?_ ?_).trans (ih f (by omega));unfold pt;rwa[h,yv,E2];unfold pt;rwa[jP]
def sV{d:Nat}{x y:U}{S:Sto}(h:Onw d x y)(hd:d<100):yi [x] S=some (y,S):=by
 unfold yi;rw[AZ];rwa[om,Dj h 100 hd]
def wW(n:Nat)(ps:List (Int×Int)):List U:=(QF n).map fun b:Nat=>((bC ps (b:Int)).map U.int).getD .non
def ko{n:Nat}{ps:List (Int×Int)}:(wW n ps).length=n:=by simp[wW]
def AY{n:Nat}{ps:List (Int×Int)}{b:Int}(b0:0<=b)(b1:b<n):atI (wW n ps) b=some (((bC ps b).map U.int).getD .non):=by
 refine Bv b0 ?_;unfold wW;rw[QL,Zn (by omega)];have:((b.toNat:Nat):Int)=b:=by omega
 simp[this]
def DY{n:Nat}{ps:List (Int×Int)}{b v:Int}(b0:0<=b)(b1:b<n):(wW n ps).set b.toNat (.int v)=wW n (fZ ps b v):=by
 refine List.ext_getElem? fun i=>?_;by_cases hi:i<n;rw[ZR,ko];unfold wW;rw[QL,QL,Zn hi];simp only[Zj,yY];by_cases e:b.toNat=i;have:(i:Int)=b:=by omega
 rw[X9 e,X9 (by omega),this,X9 rfl];rfl;rw[XQ e,XQ (by omega)];rw[Zx (by rw[Qs,ko];omega),Zx (by rw[ko];omega)]
def DZ{n:Nat}:wW n []=QX n .non:=by
 unfold wW;refine List.ext_getElem? fun i=>?_;by_cases hi:i<n;rw[QL,Zn hi,Zy,X9 hi];rfl;rw[Zx (by simp;omega),Zx (by simp;omega)]
def dO(cD:Cl)(w:Int)(n:Nat)(m:M)(x:U):O:=.ins cD [some (.int w),some (.tup (m.hs.map U.int)),some (.tup (wW n m.ps)),some x]
structure Cf(cD:Cl)(w:Int)(n i ll:Nat)(m:M)(x:U)(S:Sto):Prop where
 ei:S[i]?=some (dO cD w n m x)
 el:S[ll]?=some (.dic (Ie m.lk))
variable{cD:Cl}{n i ll:Nat}{m:M}{x A B:U}{S:Sto}{q:Int}
section
variable{w:Int}{ds:List U}
def Cf.ne(h:Cf cD w n i ll m x S):i≠ll:=fun z=>by have a:=h.ei;have b:=h.el;rw[z,b]at a;cases a
def Cf.setI(h:Cf cD w n i ll m x S)(hs:List Int)(ps:List (Int×Int))(y:U):Cf cD w n i ll ⟨hs,ps,m.lk⟩ y (S.set i (dO cD w n ⟨hs,ps,m.lk⟩ y)):=
 ⟨ZK (kb h.ei),by rw[Qt h.ne];exact h.el⟩
def ja(cD:Cl):Fn:=fnU 1 1 (gF cD)
def jK{u:U}(h:Cf cD w n i ll m (pt ds q A B) S)(q0:0<=q)(hu:ds[q.toNat]?=some u):ja cD [.ref i] S=some (u,S):=by
 unfold ja;rw[oS];have hl:=kb hu;have c:¬(ds.length:Int)<=q:=by omega
 have ha:atI ds q=some u:=Bv q0 hu;have e:=h.ei;unfold dO pt at e;rwa[gF,e,c,ha]
def D4(h:Cf cD w n i ll m (pt ds q A B) S)(hq:(ds.length:Int)<=q):ja cD [.ref i] S=some (.non,S):=by
 unfold ja;rw[oS];have e:=h.ei;unfold dO pt at e;rwa[gF,e,hq]
def xl(cD:Cl):Fn:=fnU 3 3 (i6 xk cD)
def qD{k v:Int}(h:Cf cD w n i ll m x S)(h4:m.hs.length=4)(k0:0<=k)(k1:k<4):xl cD [.ref i,.int k,.int v] S=some (.non,S.set i (dO cD w n ⟨m.hs.set k.toNat v,m.ps,m.lk⟩ x)):=by
 unfold xl;rw[t7];have e:=h.ei;unfold dO at e ⊢;have hw:=yT (us:=m.hs.map U.int) (v:=.int v) (S:=S) k0 (by simp;omega) (by simp;omega);rw[map_set]at hw;rwa[i6,e,hw]
def MB(cD:Cl):Fn:=fnU 3 2 (dJ cD)
def KP{k:Int}(h:Cf cD w n i ll m (pt ds q A B) S):MB cD [.ref i,.int k] S=some (pt ds (q+1+k) A B,S):=by
 unfold MB;rw[oe];have e:=h.ei;unfold dO pt at e;unfold pt;rwa[dJ,e]
def MC(cD:Cl):Fn:=fnU 2 2 (eN yi (MB cD) cD)
def x4{k:Int}{d:Nat}{y:U}(h:Cf cD w n i ll m (pt ds q A B) S)(ho:Onw d (pt ds (q+1+k) A B) y)(hd:d<100):MC cD [.ref i,.int k] S=some (.non,S.set i (dO cD w n m y)):=by
 unfold MC;rw[kq];have e:=h.ei;have ep:=KP (k:=k) h;have eo:=sV (S:=S) ho hd;unfold dO at e ⊢;rwa[eN,e,ep,eo]
def xm(cD:Cl):Fn:=fnU 2 2 (i7 (xl cD) (ja cD) (MC cD) cD)
def HS{g b v:Int}{d:Nat}{y:U}(h:Cf cD w n i ll m (pt ds q A B) S)(h4:m.hs.length=4)(q0:0<=q)(hu:ds[q.toNat]?=some (lj.u (.look g b)))(g0:0<=g)(g1:g<4)(ho:Onw d (pt ds (q+1+0) A B) y)(hd:d<100) :
  xm cD [.ref i,.int v] S=some (.non,S.set i (dO cD w n ⟨m.hs.set g.toNat v,m.ps,m.lk⟩ y)):=by
 unfold xm;rw[kq];have e:=h.ei;have ed:=jK h q0 hu;have eh:=qD (v:=v) h h4 g0 g1;have h2:=h.setI (m.hs.set g.toNat v) m.ps (pt ds q A B);have e2:=h2.ei;have eg:=x4 h2 ho hd;unfold dO at e e2 eh eg ⊢;rw[ZL]at eg;unfold lj.u at ed;rwa[i7,e,ed,eh,e2,eg]
def qb(cD:Cl):Fn:=fnU 2 1 (dA cD)
def Bt(h:Cf cD w n i ll m (pt ds q A .non) S):qb cD [.ref i] S=some (.bl false,S):=by
 unfold qb;rw[AZ];have e:=h.ei;unfold dO pt at e;rwa[dA,e,rS,pW]
def bk(n:Nat)(hs:List Int)(ps:List (Int×Int))(y:U):U:=.tup [.tup (hs.map U.int),.tup (wW n ps),y]
def Bs{hs:List Int}{ps:List (Int×Int)}{y:U}(h:Cf cD w n i ll m (pt ds q A (bk n hs ps y)) S):qb cD [.ref i] S=some (.bl true,S.set i (dO cD w n ⟨hs,ps,m.lk⟩ y)):=by
 unfold qb;rw[AZ];have l:=kb h.ei;have e:=h.ei;unfold dO pt bk at e;unfold dO;have g:∀o:O,(S.set i o)[i]?=some o:=fun o=>ZK l;rwa[dA,e,rS,E2,g,ZL]
def vG(cD:Cl):Fn:=fnU 5 3 (eP yi (MB cD) cD)
def DX{a b:List U}{d d':Nat}{y z:U}(h:Cf cD w n i ll m (pt ds q A B) S)(ho:Onw d (pt b 0 (pt ds (q+1+0) A B) B) z)(hd:d<100)
  (ho':Onw d' (pt a 0 (pt ds (q+1+0) A B) (bk n m.hs m.ps z)) y) (hd':d'<100):vG cD [.ref i,.tup a,.tup b] S=some (.non,S.set i (dO cD w n m y)):=by
 unfold vG;rw[LO];have e:=h.ei;have ep:=KP (k:=0) h;have e1:=sV (S:=S) ho hd;have e2:=sV (S:=S) ho' hd';unfold dO at e ⊢;unfold pt at ep e1 e2 e;unfold bk at e2;rwa[eP,e,ep,e1,e2]
end
def lv(m:M):lj->Int
 |.leap h k=>if m.hs.getD h.toNat 0=0 then k else 0
 |_=>0
section
variable{w n:Int}{first:List Int}{ds:List U}
def qc(cD:Cl):Fn:=fnU 2 1 (gG (ja cD) cD)
def Iq{x:Str}{r:List U}(h:Cf cD w n.toNat i ll m (pt ds q A B) S)(q0:0<=q)(hu:ds[q.toNat]?=some (.tup (.str x::r)))(hx:decide (x=("look":Str))=false):qc cD [.ref i] S=some (.bl false,S):=by
 unfold qc;rw[AZ];have e:=h.ei;have ed:=jK h q0 hu;unfold dO at e;rwa[gG,e,ed,hx]
def Bx{g b:Int}(h:Cf cD w n.toNat i ll m (pt ds q A B) S)(q0:0<=q)(hu:ds[q.toNat]?=some (lj.u (.look g b)))(b0:0<=b)(b1:b<n):qc cD [.ref i] S=some (.bl (!(bC m.ps b).isSome),S):=by
 unfold qc;rw[AZ];have e:=h.ei;have ed:=jK h q0 hu;have ea:=AY (n:=n.toNat) (ps:=m.ps) b0 (by omega);have ei:oH (((bC m.ps b).map U.int).getD .non)=!(bC m.ps b).isSome:=by cases bC m.ps b<;>rfl
 unfold dO at e;unfold lj.u at ed;rwa[gG,e,ed,ea,rS,ei,SNX]
def Fv(cD:Cl):Fn:=fnU 4 1 (bq xk (ja cD) (qb cD) (vG cD) (xl cD) (MC cD) cD)
def A6(h:Cf cD w n.toNat i ll m (pt ds q A B) S)(q0:0<=q)(hu:ds[q.toNat]?=some (lj.u .wait)){r:U×Sto}(hb:qb cD [.ref i] S=some r):Fv cD [.ref i] S=some r:=by
 unfold Fv;rw[D0];have e:=h.ei;have ed:=jK h q0 hu;unfold dO at e;unfold lj.u at ed;obtain⟨u,S'⟩:=r;rwa[bq,e,ed,hb,SNX]
def LS{a b:List U}{d d':Nat}{y z:U}(h:Cf cD w n.toNat i ll m (pt ds q A B) S)(q0:0<=q)(hu:ds[q.toNat]?=some (.tup [.str "try",.tup a,.tup b]))(ho:Onw d (pt b 0 (pt ds (q+1+0) A B) B) z)(hd:d<100)
  (ho':Onw d' (pt a 0 (pt ds (q+1+0) A B) (bk n.toNat m.hs m.ps z)) y) (hd':d'<100):Fv cD [.ref i] S=some (.bl true,S.set i (dO cD w n.toNat m y)):=by
 unfold Fv;rw[D0];have e:=h.ei;have ed:=jK h q0 hu;have en:=DX h ho hd ho' hd';unfold dO at e en ⊢;rwa[bq,e,ed,en,SNX]
def D2{d:lj}{dd:Nat}{y:U}(nw:d≠.wait)(h:Cf cD w n.toNat i ll m (pt ds q A B) S)(wf:Wf n m)(w0:2<=w)(n1:n<=6)(od:d.ok n w)(q0:0<=q)(hu:ds[q.toNat]?=some d.u)(ha:∀g b,d=.look g b->(bC m.ps b).isSome=true)(ho:Onw dd (pt ds (q+1+lv m d) A B) y)(hd:dd<100) :
  Fv cD [.ref i] S=some (.bl true,S.set i (dO cD w n.toNat (step w first m d) y)):=by
 unfold Fv;rw[D0];have e:=h.ei;have ed:=jK h q0 hu;have h4:=wf.h4;cases d with
 |wait=>exact absurd rfl nw
 |look g b=>
  obtain⟨g0,g1,b0,b1⟩:=od;obtain⟨v,hv⟩:=ZF.mp (ha g b rfl);have ea:=AY (n:=n.toNat) (ps:=m.ps) b0 (by omega);rw[hv,Zj,ZP]at ea;have eh:=qD (v:=v) h h4 g0 g1;have h2:=h.setI (m.hs.set g.toNat v) m.ps (pt ds q A B);have e2:=h2.ei;have eg:=x4 h2 ho hd;unfold dO at e e2 eh eg ⊢;rw[ZL]at eg;unfold lj.u at ed;simp only[step,Lf,hv,ZP,Option.isSome_some,if_true];simp only[lv]at eg;rwa[bq,e,ed,ea,eh,e2,eg,SNX]
 |put b g=>
  obtain⟨g0,g1,b0,b1⟩:=od;have hw:=yT (us:=wW n.toNat m.ps) (v:=.int (m.hs.getD g.toNat 0)) (S:=S) b0 (by rw[ko];omega) (by rw[ko];omega);rw[DY b0 (by omega)]at hw;have h2:=h.setI m.hs (fZ m.ps b (m.hs.getD g.toNat 0)) (pt ds q A B);have e2:=h2.ei;have eg:=x4 h2 ho hd;unfold dO at e e2 eg ⊢;rw[ZL]at eg;unfold lj.u at ed;simp only[lv]at eg;simp only[step];rwa[bq,e,ed,at4 h4 g0 g1,hw,e2,eg,SNX]
 |set g v=>
  obtain⟨g0,g1,b0,b1⟩:=od;have eh:=qD (v:=v) h h4 g0 g1;have h2:=h.setI (m.hs.set g.toNat v) m.ps (pt ds q A B);have e2:=h2.ei;have eg:=x4 h2 ho hd;unfold dO at e e2 eh eg ⊢;rw[ZL]at eg;unfold lj.u at ed;simp only[lv]at eg;simp only[step];rwa[bq,e,ed,eh,e2,eg,SNX]
 |plus g k=>
  obtain⟨g0,g1,b0,b1⟩:=od;have eh:=qD (v:=(m.hs.getD g.toNat 0+m.hs.getD k.toNat 0) % w) h h4 g0 g1;have h2:=h.setI (m.hs.set g.toNat ((m.hs.getD g.toNat 0+m.hs.getD k.toNat 0) % w)) m.ps (pt ds q A B);have e2:=h2.ei;have eg:=x4 h2 ho hd;unfold dO at e e2 eh eg ⊢;rw[ZL]at eg;unfold lj.u at ed;simp only[lv]at eg;simp only[step];rwa[bq,e,ed,at4 h4 g0 g1,at4 h4 b0 b1,xt (show 0<w by omega),eh,e2,eg,SNX]
 |leap g k=>
  obtain⟨g0,g1,b0,b1⟩:=od;have eg:=x4 h ho hd;unfold dO at e eg ⊢;unfold lj.u at ed;simp only[step];simp only[lv]at eg;by_cases z:m.hs.getD g.toNat 0=0;rw[X9 z]at eg;rwa[bq,e,ed,at4 h4 g0 g1,z,eg,SNX];rw[XQ z]at eg;rwa[bq,e,ed,at4 h4 g0 g1,z,eg,SNX]
def JI(d:lj):∃x r,d.u=.tup (.str x::r):=by cases d<;>exact⟨_,_,rfl⟩
end
def prs:List (Option Int)->Nat->List (Int×Int)
 |[],_=>[]
 |none::r,k=>prs r (k+1)
 |some v::r,k=>((k:Int),v)::prs r (k+1)
def oq(n:Nat)(ps:List (Int×Int)):List (Option Int):=(QF n).map fun b:Nat=>bC ps (b:Int)
def ou:Option Int->U
 |none=>.non
 |some v=>.int v
def Ib{n:Nat}{ps:List (Int×Int)}:wW n ps=(oq n ps).map ou:=by
 unfold wW oq;rw[ZG];refine Zb fun b _=>?_;simp only[Function.comp];cases bC ps (b:Int)<;>rfl
def pU(p:Int×Int):U:=.tup [.int p.1,.int p.2]
def p7{ok:Sto->Prop}{g:CG}{ct:CT}{ce:CE}{l:Nat}{ρ:Rho}{S:Sto}(h:ok S):dg ok g ct ce l [] ρ S=some S:=by rw[dg,X9 h]
def ue{ok:Sto->Prop}{g:CG}{ct:CT}{ce:CE}{l:Nat}{ρ ρ0:Rho}{S S0 S1:Sto}{u:U}{us:List U}(h:ok S)(hg:g u ρ S=some (ρ0,S0))(ht:ct ρ0 S0=some (false,S1)):dg ok g ct ce l (u::us) ρ S=dg ok g ct ce l us ρ0 S1:=by
 rw[dg,X9 h,hg,Q8,ht,Q8,XQ QZ]
def pZ{ok:Sto->Prop}{g:CG}{ct:CT}{ce:CE}{l:Nat}{ρ ρ0:Rho}{S S0 S1 S2:Sto}{u x:U}{us ys:List U}(h:ok S)(hg:g u ρ S=some (ρ0,S0))(ht:ct ρ0 S0=some (true,S1))(he:ce ρ0 S1=some (x,S2))(hl:S2[l]?=some (.lst ys))(hn:ys.length<LIM) :
  dg ok g ct ce l (u::us) ρ S=dg ok g ct ce l us ρ0 (S2.set l (.lst (ys++[x]))):=by
 rw[dg,X9 h,hg,Q8,ht,Q8,X9 rfl,he,Q8];simp only[hl,hn,if_true]
def uP(S:Sto):∀(qs:List (Option Int)) (k:Nat) (ys:List (Int×Int)) (r0 r1:Option U),ys.length+qs.length<=1000->
  dg (fun _=>True) (gTp [0,1]) (aR (cOp tW (ah 1) (cC .non))) (iN (ag (ah 0) (ag (ah 1) ay))) S.length (((qs.map ou).zipIdx k).map fun p=>.tup [.int p.2,p.1]) [r0,r1] (S++[.lst (ys.map pU)])
   = some (S++[.lst ((ys++prs qs k).map pU)])
 |[],k,ys,r0,r1,hl=>by
  simp only[Zv,List.zipIdx_nil,prs,Z8];exact p7 trivial
 |none::qs,k,ys,r0,r1,hl=>by
  have ih:=uP S qs (k+1) ys (some (.int k)) (some .non) (by simp at hl ⊢;omega);simp only[QU,List.zipIdx_cons,prs,ou];refine(ue (ρ0:=[some (.int k),some .non]) (S0:=S++[.lst (ys.map pU)]) (S1:=S++[.lst (ys.map pU)]) trivial rfl ?_).trans ih;rwa[yv,pW]
 |some v::qs,k,ys,r0,r1,hl=>by
  have ih:=uP S qs (k+1) (ys++[((k:Int),v)]) (some (.int k)) (some (.int v)) (by simp at hl ⊢;omega);simp only[QU,List.zipIdx_cons,prs,ou];refine(pZ (ρ0:=[some (.int k),some (.int v)]) (S0:=S++[.lst (ys.map pU)]) (S1:=S++[.lst (ys.map pU)]) (S2:=S++[.lst (ys.map pU)]) (x:=pU (k,v)) (ys:=ys.map pU) trivial rfl ?_ ?_ ?_ (by simp at hl ⊢;unfold LIM;omega)).trans ?_;rwa[yv,AB];rwa[pU];rwa[];have e5:(S++[O.lst (ys.map pU)]).set S.length (.lst (ys.map pU++[pU ((k:Int),v)]))=S++[.lst ((ys++[((k:Int),v)]).map pU)]:=by
   rwa[Zg,QU,Zv]
  rw[e5,ih];simp
section
variable{w n:Int}
def MA(cD:Cl):Fn:=fnU 1 1 (eM cD)
def ppL(n:Int)(m:M):List (Int×Int):=prs (oq n.toNat m.ps) 0
def NX(h:Cf cD w n.toNat i ll m x S)(n1:n<=6):MA cD [.ref i] S=some (.ref S.length,S++[.lst ((ppL n m).map pU)]):=by
 unfold MA;rw[oS];have e:=h.ei;unfold dO at e;have hb:=uP S (oq n.toNat m.ps) 0 [] none none (by simp[oq];omega);simp only[Zq,Zv]at hb;rw[Ib]at e;unfold ppL;rwa[eM,iH,ve,IE,x8,qj,e,hb,QX]
def qt:∀(qs:List (Option Int)) (k:Nat) (p:Int×Int),p∈prs qs k->∃j:Nat,p.1=((k+j:Nat):Int)/\qs[j]?=some (some p.2)
 |[],k,p,h=>by simp[prs]at h
 |none::r,k,p,h=>by
  obtain⟨j,e1,e2⟩:=qt r (k+1) p (by simpa [prs] using h);exact⟨j+1,by rw[e1];omega,by simpa using e2⟩
 |some v::r,k,p,h=>by
  simp only[prs,Qz]at h;rcases h with rfl|h;exact⟨0,by simp,by simp⟩;obtain⟨j,e1,e2⟩:=qt r (k+1) p h;exact⟨j+1,by rw[e1];omega,by simpa using e2⟩
def zG:∀(qs:List (Option Int)) (k j:Nat) (v:Int),qs[j]?=some (some v)->(((k+j:Nat):Int),v)∈prs qs k
 |[],k,j,v,h=>by simp at h
 |o::r,k,0,v,h=>by
  simp at h;subst h;simp[prs]
 |o::r,k,j+1,v,h=>by
  have:=zG r (k+1) j v (by simpa using h);rw[show k+1+j=k+(j+1)by omega]at this;cases o with
  |none=>simpa [prs] using this
  |some z=>simp only[prs,Qz];exact .inr this
def mD:∀(qs:List (Option Int)) (k:Nat),((prs qs k).map (·.1)).Pairwise (· < ·)
 |[],k=>by simp[prs]
 |none::r,k=>by simpa [prs] using mD r (k+1)
 |some v::r,k=>by
  simp only[prs,QU,List.pairwise_cons];refine⟨fun a ha=>?_,mD r (k+1)⟩;obtain⟨p,hp,rfl⟩:=ZV.mp ha;obtain⟨j,e1,_⟩:=qt r (k+1) p hp;rw[e1];omega
def EU{ps:List (Int×Int)}{j:Nat}{v:Int}:(oq n.toNat ps)[j]?=some (some v)↔(j<n.toNat/\bC ps (j:Int)=some v):=by
 unfold oq;rw[QL];by_cases c:j<n.toNat;rw[Zn c];simp[c];rw[Zx (by simpa using c)];simp[c]
def uQ{p:Int×Int}(h:p∈ppL n m):0<=p.1/\p.1<n/\bC m.ps p.1=some p.2:=by
 obtain⟨j,e1,e2⟩:=qt _ _ _ h;obtain⟨e3,e4⟩:=EU.mp e2;rw[Nat.zero_add]at e1;rw[e1];exact⟨by omega,by omega,e4⟩
def GZ{b v:Int}(b0:0<=b)(b1:b<n)(h:bC m.ps b=some v):(b,v)∈ppL n m:=by
 have e:((0+b.toNat:Nat):Int)=b:=by omega
 have:=zG (oq n.toNat m.ps) 0 b.toNat v (EU.mpr ⟨by omega,by rw[show((b.toNat:Nat):Int)=b by omega];exact h⟩);rw[e]at this;exact this
def CV(wf:Wf n m):(ppL n m).map (·.1)=bI (m.ps.map (·.1)):=by
 have nd:((ppL n m).map (·.1)).Nodup:=(mD _ _).imp fun h=>Int.ne_of_lt h;refine qh ((List.perm_ext_iff_of_nodup nd wf.pk).mpr fun b=>⟨fun h=>?_,fun h=>?_⟩) ((mD _ _).imp fun h=>Int.le_of_lt h);obtain⟨p,hp,rfl⟩:=ZV.mp h;obtain⟨_,_,e⟩:=uQ hp;have:=Om p.1 m.ps;rw[e]at this;simpa using this;have:=Om b m.ps;rw[XX h]at this;obtain⟨v,e⟩:=ZF.mp this.symm;obtain⟨b0,b1⟩:=wf.pb b h;exact ZV.mpr ⟨_,GZ b0 b1 e,rfl⟩
def zH(wf:Wf n m)(n0:0<=n)(n1:n<=6):(ppL n m).length<=6:=by
 have:=(wf.few n0 n1).1;have e:=congrArg List.length (CV wf);rw[(gX _).length_eq,Q9,Q9]at e;omega
end
def BI(cD:Cl):Fn:=fnU 3 3 (i4 yi cD)
def Lay(k:Nat)(S:Sto)(u:U):Prop:=∃d,Dt S u d/\d.canLay0=true/\d.depth<=k
def jk(k:Nat)(S:Sto)(u v:U):Prop:=∃d,Dt S u d/\Dt S v d/\d.canLay0=true/\d.depth<=k
def fX(k:Nat)(S:Sto)(us vs:List U):Prop:=∃ds,DtL S us ds/\DtL S vs ds/\PyData.canLayAll0 ds=true/\PyData.depthAll ds<=k
variable{j:Nat}{us:List U}
section
variable{k:Nat}{u v:U}{vs:List U}
def Lay.mono(h:Lay k S u)(l:k<=j):Lay j S u:=by obtain⟨d,a,b,c⟩:=h;exact⟨d,a,b,ZQ c l⟩
def Lay.int{i:Int}:Lay k S (.int i):=⟨_,.int i,rfl,ZC _⟩
def Lay.str{x:Str}(h:PyData.strOk x=true):Lay k S (.str x):=⟨_,.str x,h,ZC _⟩
def jk.refl(h:Lay k S u):jk k S u u:=by obtain⟨d,a,b,c⟩:=h;exact⟨d,a,a,b,c⟩
def fX.nil:fX k S [] []:=⟨[],.nil,.nil,rfl,ZC _⟩
def fX.cons(h:jk k S u v)(t:fX k S us vs):fX k S (u::us) (v::vs):=by
 obtain⟨d,a,b,c,e⟩:=h;obtain⟨ds,a',b',c',e'⟩:=t;refine⟨d::ds,.cons a a',.cons b b',by unfold PyData.canLayAll0;rw[c,c'];rfl,?_⟩;unfold PyData.depthAll;exact Nat.max_le.mpr ⟨e,e'⟩
def fX.all:∀{us:List U},(∀u∈us,Lay k S u)->fX k S us us
 |[],_=>.nil
 |u::us,h=>.cons (.refl (h u QN)) (fX.all fun x hx=>h x (QY _ hx))
def jk.tup(h:fX k S us vs):jk (k+1) S (.tup us) (.tup vs):=by
 obtain⟨ds,a,b,c,e⟩:=h;refine⟨.tuple ds,.tup a,.tup b,by unfold PyData.canLay0;exact c,?_⟩;unfold PyData.depth;omega
def jk.lst{l l':Nat}(h1:S[l]?=some (.lst us))(h2:S[l']?=some (.lst vs))(h:fX k S us vs):jk (k+1) S (.ref l) (.ref l'):=by
 obtain⟨ds,a,b,c,e⟩:=h;refine⟨.list ds,.lst h1 a,.lst h2 b,by unfold PyData.canLay0;exact c,?_⟩;unfold PyData.depth;omega
def Lay.tup(h:∀u∈us,Lay k S u):Lay (k+1) S (.tup us):=by
 obtain⟨d,a,_,b,c⟩:=jk.tup (fX.all h);exact⟨d,a,b,c⟩
def jk.ne(h:jk k S u v)(hk:k<=60):tZ true u v S=some (.bl false,S):=by
 obtain⟨d,a,b,c,e⟩:=h;exact AU true (.inl ⟨d,d,a,b,⟨c,ZQ e hk⟩,⟨c,ZQ e hk⟩,(SeqAt.eqv_refl d c).symm⟩)
def Lay.ints{ns:List Int}:Lay 1 S (.tup (ns.map U.int)):=.tup fun u hu=>by
 obtain⟨i,_,rfl⟩:=ZV.mp hu;exact .int
end
variable{l:Nat}
section
variable{u:U}{i:Int}
def wH(l:Nat)(i:Int)(S:Sto):Option O->Option (U×Sto)
 |some (.lst us)=>if 0<=i/\i<us.length/\us.length<=LIM then(us[i.toNat]?).bind fun u=>some (u,S.set l (.lst (us.eraseIdx i.toNat)))else none
 |_=>none
def FD:pY (.ref l) [.int i] S=wH l i S S[l]?:=by
 unfold pY wH;rfl
def BX(h0:0<=i)(h1:i<us.length)(hL:us.length<=LIM)(hu:us[i.toNat]?=some u):wH l i S (some (.lst us))=some (u,S.set l (.lst (us.eraseIdx i.toNat))):=by
 simp only[wH];rw[X9 ⟨h0,h1,hL⟩,hu,Q8]
end
def sJ(n:Nat):js 0 n=((QF n).map fun i:Nat=>(i:Int)).map U.int:=by
 unfold js;rw[ZG];refine Zb fun i _=>?_;simp
inductive Ev where
 |beg (a:Int)|look (a b x:Int)|put (a b x:Int)|fin (d:Bool) (a:Int)
def yZ{κ α:Type}[DecidableEq κ]{ps:List (κ×α)}{k:κ}:bC ps k=none↔k∉ps.map (·.1):=by
 unfold bC;rw[Option.map_eq_none_iff,List.find?_eq_none];simp only[decide_eq_true_eq,ZV,not_exists,not_and]
def CK{κ α:Type}[DecidableEq κ]{ps:List (κ×α)}{k:κ}{v:α}(h:k∉ps.map (·.1)):fZ ps k v=ps++[(k,v)]:=by
 unfold fZ;rw[XQ];simp only[List.any_eq_true,decide_eq_true_eq,not_exists,not_and];intro p hp e;exact h (ZV.mpr ⟨p,hp,e⟩)
section
variable{c:Cl}
def Ez{i:Nat}{u:U}{fus:List (Option U)}{Z:Sto}{l:Nat}(h:Z[l]?=some (.ins c fus))(hu:fus[i]?=some (some u)):IG c i (.ref l,Z)=some (u,Z):=by
 rw[vQ,h,vP,hu];rfl
end
def kX{α:Type}{ok:Sto->Prop}{gg:CG}{ct:CT}{ce:CE}{S:Sto}{f:α->U}{p:α->Bool}{v:α->U}{Rel:Rho->Prop}(hok:∀ys G,ok (S++(.lst ys::G))) :
  ∀(xs:List α) (ys:List U) (G:Sto) (ρ:Rho),Rel ρ->ys.length+xs.length<=9999->
  (∀x∈xs,∀ys G ρ,Rel ρ->∃ρ0 G1,Rel ρ0/\gg (f x) ρ (S++(.lst ys::G))=some (ρ0,S++(.lst ys::G))/\ct ρ0 (S++(.lst ys::G))=some (p x,S++(.lst ys::(G++G1)))/\
   (p x=true->∃G2,ce ρ0 (S++(.lst ys::(G++G1)))=some (v x,S++(.lst ys::(G++G1++G2)))))->
  ∃G',dg ok gg ct ce S.length (xs.map f) ρ (S++(.lst ys::G))=some (S++(.lst (ys++(xs.filter p).map v)::(G++G')))
 |[],ys,G,ρ,_,_,_=>⟨[],by simp only[Zv,List.filter_nil,Z8];exact p7 (hok ys G)⟩
 |x::xs,ys,G,ρ,hr,hl,hb=>by
  rw[QK]at hl;obtain⟨ρ0,G1,r0,h1,h2,h3⟩:=hb x QN ys G ρ hr;have hb':=fun x (hx:x∈xs)=>hb x (QY _ hx);cases hp:p x with
  |false=>
   rw[hp]at h2;obtain⟨G',h⟩:=kX hok xs ys (G++G1) ρ0 r0 (by omega) hb';refine⟨G1++G',?_⟩;rw[QU,List.filter_cons_of_neg (by simp[hp])];refine(ue (hok ys G) h1 h2).trans ?_;rw[h,Qw]
  |true=>
   rw[hp]at h2;obtain⟨G2,h4⟩:=h3 hp;obtain⟨G',h⟩:=kX hok xs (ys++[v x]) (G++G1++G2) ρ0 r0 (by simp;omega) hb';refine⟨G1++(G2++G'),?_⟩;rw[QU,List.filter_cons_of_pos hp];refine(pZ (hok ys G) h1 h2 h4 (by rw[ga0];rfl) (by unfold LIM;omega)).trans ?_;rw[gs0];simp only[List.set_cons_zero];rw[h];simp only[QU,Qw,Zw,Zq]
def wZ{α:Type}{ok:Sto->Prop}{gg:CG}{ce:CE}{S:Sto}{f:α->U}{v:α->U}{Rel:Rho->Prop}(hok:∀ys G,ok (S++(.lst ys::G))) :
  ∀(xs:List α) (ys:List U) (G:Sto) (ρ:Rho),Rel ρ->ys.length+xs.length<=9999->
  (∀x∈xs,∀ys G ρ,Rel ρ->∃ρ0 G1,Rel ρ0/\gg (f x) ρ (S++(.lst ys::G))=some (ρ0,S++(.lst ys::G))/\ce ρ0 (S++(.lst ys::G))=some (v x,S++(.lst ys::(G++G1))))->
  ∃G',ic ok gg ce S.length (xs.map f) ρ (S++(.lst ys::G))=some (S++(.lst (ys++xs.map v)::(G++G')))
 |[],ys,G,ρ,_,_,_=>⟨[],by simp only[Zv,Z8];exact je (hok ys G)⟩
 |x::xs,ys,G,ρ,hr,hl,hb=>by
  rw[QK]at hl;obtain⟨ρ0,G1,r0,h1,h2⟩:=hb x QN ys G ρ hr;obtain⟨G',h⟩:=wZ hok xs (ys++[v x]) (G++G1) ρ0 r0 (by simp;omega) (fun x hx=>hb x (QY _ hx));refine⟨G1++G',?_⟩;rw[QU];refine(ib (hok ys G) h1 h2 (by rw[ga0];rfl) (by unfold LIM;omega)).trans ?_;rw[gs0];simp only[List.set_cons_zero];rw[h];simp only[QU,Qw,Zw,Zq]
def Cs{Z:Sto}{r:Nat}{o o':O}(h:Z[r]?=some o):(Z.set r o').set r o=Z:=by
 rw[ZL];refine List.ext_getElem? fun i=>?_;rw[ZR];split;subst i;obtain⟨h1,h2⟩:=Q4.mp h;simp[h1,h2];rfl
def wV:∀ns ms:List Int,PyData.eqv (.list (ns.map PyData.int)) (.list (ms.map PyData.int))=decide (ns=ms)
 |[],[]=>rfl
 |[],_::_=>rfl
 |_::_,[]=>rfl
 |n::ns,m::ms=>by
  have e:PyData.eqv (.list ((n::ns).map PyData.int)) (.list ((m::ms).map PyData.int))=((n == m)&&PyData.eqv (.list (ns.map PyData.int)) (.list (ms.map PyData.int))):=rfl;rw[e,wV ns ms,Zc];simp
def qY{S:Sto}:∀ns:List Int,DtL S (ns.map U.int) (ns.map PyData.int)
 |[]=>.nil
 |n::ns=>.cons (.int n) (qY ns)
def wD(ns:List Int):BL (.list (ns.map PyData.int)):=by
 have h:∀ns:List Int,PyData.canLayAll0 (ns.map PyData.int)=true/\PyData.depthAll (ns.map PyData.int)<=0:=fun ns=>by
  induction ns with
  |nil=>exact⟨rfl,Q7 _⟩
  |cons n r ih=>
   refine⟨by unfold PyData.canLayAll0;rw[QU];exact ih.1,?_⟩;rw[QU];unfold PyData.depthAll;exact Nat.max_le.mpr ⟨Q7 _,ih.2⟩
 refine⟨by unfold PyData.canLay0;exact(h ns).1,?_⟩;unfold PyData.depth;have:=(h ns).2;omega
def DO(neg:Bool){S:Sto}{l l':Nat}{ns ms:List Int}(h:S[l]?=some (.lst (ns.map U.int)))(h':S[l']?=some (.lst (ms.map U.int))):tZ neg (.ref l) (.ref l') S=some (.bl (if neg then !decide (ns=ms)else decide (ns=ms)),S):=
 AU neg (.inl ⟨_,_,.lst h (qY ns),.lst h' (qY ms),wD ns,wD ms,(wV ns ms).symm⟩)
def jR:Fn:=fnU 3 2 kY
def ux:Fn:=fnU 6 2 iq
def rW{r0 r1 r2:Option U}:∀(ts:List Int) (a f:Int) (r5:Option U),0<=a->a<2147483563->∃a' f' r5',eY (fun _=>True) (gNm 5) fM (ts.map U.int) [r0,r1,r2,some (.int a),some (.int f),r5] S=some (.nx,[r0,r1,r2,some (.int a'),some (.int f'),r5'],S)
 |[],a,f,r5,_,_=>⟨a,f,r5,jd trivial⟩
 |t::ts,a,f,r5,h0,h1=>by
  obtain⟨a',f',r5',ih⟩:=rW (r0:=r0) (r1:=r1) (r2:=r2) ts ((a*a+50021*a+19*t+7) % 2147483563) (f*2147483563+(a*a+50021*a+19*t+7) % 2147483563) (some (.int t)) (Int.emod_nonneg _ (by decide)) (Int.emod_lt_of_pos _ (by decide));refine⟨a',f',r5',(kF trivial rfl ?_).trans ih⟩;have m1:oR (.int a) (.int a) S=some (.int (a*a),S):=rQ (.inl ⟨by omega,by omega⟩);have m2:oR (.int 50021) (.int a) S=some (.int (50021*a),S):=rQ (.inl (by decide));have m3:oR (.int 19) (.int t) S=some (.int (19*t),S):=rQ (.inl (by decide));have m4:oR (.int f) (.int 2147483563) S=some (.int (f*2147483563),S):=rQ (.inr (by decide));have m5:∀j:Int,tX (.int j) (.int 2147483563) S=some (.int (j % 2147483563),S):=fun j=>xt (by decide);rwa[fM,m1,m2,m3,m4,m5]
def Gq(ns:List Int){k:Int}(k0:0<=k):∃z,ux [.kl ns,.int k] S=some (.ref S.length,S++[.lst [.int z]]):=by
 unfold ux;rw[LN];have m1:oR (.int 5) (.int k) S=some (.int (5*k),S):=rQ (.inl (by decide));have m2:∀j:Int,tX (.int j) (.int 2) S=some (.int (j % 2),S):=fun j=>xt (by decide);have m3:∀j:Int,E9 (.int j) (.int 2) S=some (.int (j / 2),S):=fun j=>Jp ⟨by decide,by decide +kernel⟩;have m4:∀j:Int,oR (.int j) (.int 30011) S=some (.int (j*30011),S):=fun j=>rQ (.inr (by decide));have m5:oR (.int 977) (.int k) S=some (.int (977*k),S):=rQ (.inl (by decide));have m6:∀j:Int,tX (.int j) (.int 2147483563) S=some (.int (j % 2147483563),S):=fun j=>xt (by decide);have r60:bS (ag (cC (.int 60)) ay)=fun ρ S=>some (js 0 60,fun _=>True,S):=rfl;have er:js 0 60=((QF 60).map fun i:Nat=>(i:Int)).map U.int:=by rw[sJ,ZG]
 have key:∀num:Int,∃z,((aV (dQ (aR (cOp fEq (cOp tX (ah 2) (cC (.int 2))) (cC (.int 0)))) (bT (mH (ag (cOp E9 (ah 2) (cC (.int 2))) ay))) bP)
  (aV (dF 3 (cOp tX (cOp iM (cOp iM (cOp oR (ah 2) (cC (.int 30011))) (cOp oR (cC (.int 977)) (ah 1))) (cC (.int 41))) (cC (.int 2147483563))))
  (aV (dF 4 (cC (.int 0)))
  (aV (oV (bS (ag (cC (.int 60)) ay)) (gNm 5) fM)
  (bT (mH (ag (ah 4) ay))))))) [some (.kl ns),some (.int k),some (.int num),none,none,none] S).bind kFn=some (.ref S.length,S++[.lst [.int z]]):=fun num=>by
  by_cases e:num % 2=0;refine⟨num / 2,?_⟩;have e':decide (num % 2=0)=true:=XX e;rwa[m2,m3,e'];have e':decide (num % 2=0)=false:=XZ e;obtain⟨a',f',r5',h⟩:=rW (S:=S) (r0:=some (.kl ns)) (r1:=some (.int k)) (r2:=some (.int num)) ((QF 60).map fun i:Nat=>(i:Int)) ((num*30011+977*k+41) % 2147483563) 0 none (Int.emod_nonneg _ (by decide)) (Int.emod_lt_of_pos _ (by decide));rw[<-er]at h;refine⟨f',?_⟩;rwa[m2,e',m4,m5,m6,oV,r60,h]
 by_cases hk:k<(ns.length:Int);have hk':decide (k<(ns.length:Int))=true:=XX hk;have hi:k.toNat<ns.length:=by omega
 have ha:atI (ns.map U.int) k=some (.int ns[k.toNat]):=by
  have:=i9 (xs:=ns.map U.int) (j:=k.toNat) (v:=.int ns[k.toNat]) (by rw[QL,QQ hi];rfl);rw[show((k.toNat:Nat):Int)=k from by omega]at this;exact this
 obtain⟨z,h⟩:=key ns[k.toNat];refine⟨z,?_⟩;rw[<-h];simp only[iq,m1,Ey,Na,hk',ha,xq,vM,FA,yr,Jd,yu,yt,uE,mK,x_c,FQ,xv,vO,vN,vL,qd,MW,FN,xw,lu,jA,jy,uF,Q8,ZI,ZO,List.set_cons_zero,List.set_cons_succ,Option.join_some];have hk':decide (k<(ns.length:Int))=false:=XZ hk;obtain⟨z,h⟩:=key (5*k+3);refine⟨z,?_⟩;rw[<-h];simp only[iq,m1,Ey,hk',xq,vM,FA,yr,Jd,yu,yt,uE,mK,x_c,FQ,xv,vO,vN,vL,qd,MW,FN,xw,lu,jA,jy,uF,Eu,Q8,ZI,ZO,List.set_cons_zero,List.set_cons_succ,Option.join_some]
section
variable{G:Sto}{x:List Int}
def ub{α:Type}{ok:Sto->Prop}{gg:CG}{ce:CE}{S:Sto}{f:α->U}{v:α->U}{Rel:Rho->Prop}(hok:∀ys G,ok (S++(.lst ys::G))) :
  ∀(xs:List α) (ys:List U) (G:Sto) (ρ:Rho),Rel ρ->ys.length+xs.length<=9999->
  (∀x∈xs,∀ys G ρ,Rel ρ->∃ρ0,Rel ρ0/\gg (f x) ρ (S++(.lst ys::G))=some (ρ0,S++(.lst ys::G))/\ce ρ0 (S++(.lst ys::G))=some (v x,S++(.lst ys::G)))->
  ic ok gg ce S.length (xs.map f) ρ (S++(.lst ys::G))=some (S++(.lst (ys++xs.map v)::G))
 |[],ys,G,ρ,_,_,_=>by simp only[Zv,Z8];exact je (hok ys G)
 |x::xs,ys,G,ρ,hr,hl,hb=>by
  rw[QK]at hl;obtain⟨ρ0,r0,h1,h2⟩:=hb x QN ys G ρ hr;have h:=ub hok xs (ys++[v x]) G ρ0 r0 (by simp;omega) (fun x hx=>hb x (QY _ hx));rw[QU];refine(ib (hok ys G) h1 h2 (by rw[ga0];rfl) (by unfold LIM;omega)).trans ?_;rw[gs0];simp only[List.set_cons_zero];rw[h];simp only[QU,Qw,Zw,Zq]
end
variable{α:Type}
section
variable{κ κ' β:Type}[DecidableEq κ][DecidableEq κ']
def CM(kf:κ->κ')(vf:α->β)(inj:∀a b,kf a=kf b->a=b)(ps:List (κ×α))(k:κ)(v:α):fZ (ps.map fun p=>(kf p.1,vf p.2)) (kf k) (vf v)=(fZ ps k v).map fun p=>(kf p.1,vf p.2):=by
 have hd:∀a,decide (kf a=kf k)=decide (a=k):=fun a=>by
  rw[Zc,decide_eq_true_eq,decide_eq_true_eq];exact⟨inj a k,fun h=>by rw[h]⟩
 have ha:((ps.map fun p=>(kf p.1,vf p.2)).any fun kv=>decide (kv.1=kf k))=ps.any fun kv=>decide (kv.1=k):=by
  rw[List.any_map];congr 1;funext p;exact hd p.1
 unfold fZ;rw[ha];by_cases h:(ps.any fun kv=>decide (kv.1=k))=true;rw[X9 h,X9 h,ZG,ZG];refine Zb fun p _=>?_;show(if kf p.1=kf k then(kf p.1,vf v)else(kf p.1,vf p.2))=_;by_cases e:p.1=k;simp[e];have e':¬kf p.1=kf k:=fun z=>e (inj _ _ z);simp[e,e'];rw[XQ h,XQ h,Zg];rfl
def GS{ps:List (κ×α)}{k:κ}{v:α}(h:(ps.map (·.1)).Nodup):((fZ ps k v).map (·.1)).Nodup:=by
 unfold fZ;by_cases e:(ps.any fun kv=>decide (kv.1=k))=true
 ·rw[X9 e,ZG];have:((fun x:κ×α=>x.1) ∘ fun kv=>if kv.1=k then(kv.1,v)else kv)=fun x=>x.1:=by
   funext p;show(if p.1=k then(p.1,v)else p).1=p.1;split<;>rfl
  rw[this];exact h
 rw[XQ e,Zg,X4];refine⟨h,by simp,fun a ha b hb z=>?_⟩;rw[List.map_singleton,Qu]at hb;obtain⟨p,hp,hp2⟩:=ZV.mp ha;exact e (List.any_eq_true.mpr ⟨p,hp,XX (by rw[hp2,z,hb])⟩)
def CL{ps:List (κ×α)}{k:κ}{v:α}{q:κ×α}(h:q∈fZ ps k v):q.1=k\/∃p∈ps,p.1=q.1:=by
 unfold fZ at h;split at h;obtain⟨p,hp,e⟩:=ZV.mp h;by_cases z:p.1=k;rw[X9 z]at e;rw[<-e];exact .inl z;rw[XQ z]at e;rw[<-e];exact .inr ⟨p,hp,rfl⟩;rcases Z6.mp h with z|z;exact .inr ⟨q,z,rfl⟩;rw[Qu.mp z];exact .inl rfl
end
def fY{ca cb:CS}{ρ ρ':Rho}{S S':Sto}(h:ca ρ S=some (.nx,ρ',S')):aV ca cb ρ S=cb ρ' S':=by rw[xq,h,Q8,vM]
def Wp{α:Type}(x:Option α)(Q:α->Prop):Prop:=∃r,x=some r/\Q r
section
variable{x:Option α}{Q P:α->Prop}
def Wp.mono(h:Wp x P)(i:∀r,P r->Q r):Wp x Q:=let ⟨r,e,p⟩:=h;⟨r,e,i r p⟩
def Wp.of{r:α}(h:x=some r)(q:Q r):Wp x Q:=⟨r,h,q⟩
end
section
variable{ci:CI}{ca:CE}{gg:CG}{ct t:CT}{ce:CE}{cb:CS}{caps:List Nat}{ρ:Rho}{cs:Rho}{S1:Sto}{ok:Sto->Prop}{xs:List α}{f v:α->U}{p:α->Bool}{Q:U×Sto->Prop}{R:Out×Rho×Sto->Prop}
def tD(h:ca ρ S=some (.ref l,S1))(hl:S1[l]?=some (.lst us)):iTp ca ρ S=some (us,fun S=>S[l]?=some (.lst us),S1):=by
 unfold iTp;rw[h,Q8];simp only[hl]
def kG{cr:CA}{n:Int}(h:cr ρ S=some ([.int n],S1))(n0:0<=n)(n1:n<=1000):bS cr ρ S=some (js 0 n.toNat,fun _=>True,S1):=by
 have hb:-(2^62)<=n/\n<2^62:=by omega
 unfold bS;rw[h,Q8];simp only[hb,and_self,if_true]
def pH(n:Nat):js 0 n=(QF n).map fun i:Nat=>U.int (i:Int):=by rw[sJ,ZG];rfl
def yX(hi:ci ρ S=some (xs.map f,ok,S1))(hok:∀G,ok (S1++G))(hn:xs.length<=9000)(hr:qj 1 caps ρ=none::cs)
  (hb:∀x∈xs,∀G,Wp (ct (some (f x)::cs) (S1++G)) fun s=>s.1=p x/\∃G1,s.2=S1++G++G1/\(p x=true->Wp (ce (some (f x)::cs) (S1++G++G1)) fun t=>t.1=v x/\∃G2,t.2=S1++G++G1++G2))
  (hQ:∀G,Q (.ref S1.length,S1++(.lst ((xs.filter p).map v)::G))):Wp (iH ci (gNm 0) ct ce 1 caps ρ S) Q:=by
 obtain⟨G,e⟩:=kX (S:=S1) (ok:=ok) (gg:=gNm 0) (ct:=ct) (ce:=ce) (f:=f) (p:=p) (v:=v) (Rel:=fun ρ=>∃r0,ρ=r0::cs) (fun ys G=>hok _) xs [] [] (none::cs) ⟨_,rfl⟩ (by simp;omega) (fun x hx ys G ρ hρ=>by
  obtain⟨r0,rfl⟩:=hρ;obtain⟨⟨b,S2⟩,e1,e2,G1,e3,h⟩:=hb x hx (.lst ys::G);dsimp only at e2 e3;subst e2 e3;refine⟨some (f x)::cs,G1,⟨_,rfl⟩,rfl,by rw[e1,Qw,Zw],fun hp=>?_⟩;obtain⟨⟨b,S2⟩,e4,e5,G2,e6⟩:=h hp;dsimp only at e5 e6;subst e5 e6;refine⟨G2,?_⟩;simp only[Qw,Zw]at e4 ⊢;exact e4)
 refine⟨_,?_,hQ G⟩;unfold iH;rw[hi,Q8,hr];dsimp only;rw[e];rfl
def Gs(hi:ci ρ S=some (xs.map f,ok,S1))(hok:∀G,ok (S1++G))(hn:xs.length<=9000)(hr:qj 1 caps ρ=none::cs)
  (hb:∀x∈xs,∀G,Wp (ce (some (f x)::cs) (S1++G)) fun t=>t.1=v x/\∃G2,t.2=S1++G++G2)
  (hQ:∀G,Q (.ref S1.length,S1++(.lst (xs.map v)::G))):Wp (dG ci (gNm 0) ce 1 caps ρ S) Q:=by
 obtain⟨G,e⟩:=wZ (S:=S1) (ok:=ok) (gg:=gNm 0) (ce:=ce) (f:=f) (v:=v) (Rel:=fun ρ=>∃r0,ρ=r0::cs) (fun ys G=>hok _) xs [] [] (none::cs) ⟨_,rfl⟩ (by simp;omega) (fun x hx ys G ρ hρ=>by
  obtain⟨r0,rfl⟩:=hρ;obtain⟨⟨b,S2⟩,e1,e2,G1,e3⟩:=hb x hx (.lst ys::G);dsimp only at e2 e3;subst e2 e3;exact⟨some (f x)::cs,G1,⟨_,rfl⟩,rfl,by rw[e1,Qw,Zw]⟩)
 refine⟨_,?_,hQ G⟩;unfold dG;rw[hi,Q8,hr];dsimp only;rw[e];rfl
def P7{F:Fn}(h:Wp (ce ρ S) fun r=>Wp (F [r.1] r.2) Q):Wp (cCB F (ag ce ay) ρ S) Q:=by
 obtain⟨⟨u,S2⟩,e,r,e2,q⟩:=h;refine⟨r,?_,q⟩;rw[FN,lu,e];exact e2
def P8{bs:List Bool}(hl:S[l]?=some (.lst (bs.map U.bl)))(q:Q (.bl (bs.all id),S)):Wp (LH [.ref l] S) Q:=
 .of (by simp only[LH,hl,rm,Q8]) q
def Me(hi:ci ρ S=some (us,ok,S1))(h:Wp (eY ok gg cb us ρ S1) R):Wp (oV ci gg cb ρ S) R:=by
 unfold oV;rw[hi];exact h
def Cg(I:List α->Rho->Sto->Prop)(h0:∀ρ S,I [] ρ S->ok S/\R (.nx,ρ,S))
  (h1:∀x xs ρ S,I (x::xs) ρ S->ok S/\Wp (gg (f x) ρ S) fun r=>Wp (cb r.1 r.2) fun s=>(s.1=.nx/\I xs s.2.1 s.2.2)\/∃v,s.1=.rt v/\R s) :
  ∀(xs:List α) (ρ:Rho) (S:Sto),I xs ρ S->Wp (eY ok gg cb (xs.map f) ρ S) R
 |[],ρ,S,h=>by
  obtain⟨a,b⟩:=h0 ρ S h;exact .of (jd a) b
 |x::xs,ρ,S,h=>by
  obtain⟨a,⟨ρ0,S0⟩,e1,⟨o,ρ1,S1⟩,e2,c⟩:=h1 x xs ρ S h;rcases c with⟨c,i⟩|⟨v,c,q⟩;cases c;obtain⟨r,e3,q⟩:=Cg I h0 h1 xs ρ1 S1 i;exact⟨r,(kF a e1 e2).trans e3,q⟩;cases c;exact⟨_,Hu a e1 e2,q⟩
end
abbrev uR(l:Nat):Option U:=some (.ref l)
abbrev uI(i:Int):Option U:=some (.int i)
inductive Pl where
 |k (j f:Nat)|a (j:Nat) (a:Int) (f:Nat)|x (n i:Nat)
deriving DecidableEq
def aE(c:Pl->O)(s:Pl)(o:O):Pl->O:=fun s'=>if s'=s then o else c s'
def eD(pos:Pl->Option Nat)(s:Pl)(p:Nat):Pl->Option Nat:=fun s'=>if s'=s then some p else pos s'
structure Mm(pos:Pl->Option Nat)(c:Pl->O)(T:Sto):Prop where
 at_:∀s p,pos s=some p->T[p]?=some (c s)
 inj:∀s s' p,pos s=some p->pos s'=some p->s=s'
variable{pos:Pl->Option Nat}{c:Pl->O}{T:Sto}{s:Pl}{o:O}
section
variable{s':Pl}{p:Nat}
def aJ:aE c s o s=o:=X9 rfl
def aq(h:s'≠s):aE c s o s'=c s':=XQ h
def cX:eD pos s p s=some p:=X9 rfl
def aK(h:s'≠s):eD pos s p s'=pos s':=XQ h
def Mm.lt(M:Mm pos c T)(h:pos s=some p):p<T.length:=(Q4.mp (M.at_ s p h)).1
def Mm.get(M:Mm pos c T)(h:pos s=some p)(e:c s=o):T[p]?=some o:=by rw[M.at_ s p h,e]
def Mm.set(M:Mm pos c T)(h:pos s=some p)(o:O):Mm pos (aE c s o) (T.set p o):=by
 refine⟨fun s' q hq=>?_,M.inj⟩;by_cases e:s'=s;subst e;rw[h]at hq;cases hq;rw[aJ,ZR,X9 rfl,X9 (M.lt h)];rw[aq e,Qt (fun z=>by subst z;exact e (M.inj _ _ _ hq h))];exact M.at_ s' q hq
def Mm.app(M:Mm pos c T)(X:Sto):Mm pos c (T++X):=⟨fun s p h=>aC (M.at_ s p h),M.inj⟩
def Mm.newP(M:Mm pos c T)(h:T[p]?=some o)(hp:∀s',pos s'≠some p)(s:Pl):Mm (eD pos s p) (aE c s o) T:=by
 refine⟨fun s' q hq=>?_,fun s1 s2 q h1 h2=>?_⟩;by_cases e:s'=s;subst e;rw[cX]at hq;cases hq;rw[aJ];exact h;rw[aK e]at hq;rw[aq e];exact M.at_ s' q hq;by_cases e1:s1=s;by_cases e2:s2=s;rw[e1,e2];rw[e1,cX]at h1;rw[aK e2]at h2;cases h1;exact absurd h2 (hp s2);rw[aK e1]at h1;by_cases e2:s2=s;rw[e2,cX]at h2;cases h2;exact absurd h1 (hp s1);rw[aK e2]at h2;exact M.inj s1 s2 q h1 h2
def Mm.new(M:Mm pos c T)(s:Pl)(o:O)(X:Sto):Mm (eD pos s T.length) (aE c s o) (T++(o::X)):=
 (M.app (o::X)).newP (by rw[ga0];rfl) (fun s' e=>absurd (M.lt e) (Zr _)) s
end
structure Ac where
 g:Int
 lk:List Int
 pu:List (Int×Int)
 st:Option Int
 un:List Int
 op:Bool
structure Kc where
 bx:List Int
 ma:List Int
 ho:List (Int×Int)
 tk:Int
 ev:List U
 ids:List Int
 A:Int->Ac
def dI(l:List (Int×Int)):List (Key×U):=l.map fun p=>(.inl p.1,.int p.2)
def dT(l:List Int):List (Key×U):=l.map fun b=>(.inl b,.bl true)
def stU:Option Int->U
 |none=>.non
 |some t=>.int t
def Kc.up(K:Kc)(a:Int)(v:Ac):Kc:={ K with A:=fun x=>if x=a then v else K.A x }
abbrev kO(cK:Cl)(p:Nat->Nat)(tk:Int):O:=.ins cK [uR (p 1),uR (p 2),uR (p 3),uI tk,uR (p 4),uR (p 5)]
abbrev aO(cA:Cl)(r:Nat->Nat)(g:Int)(s:U)(u:Nat)(o:Bool):O:=.ins cA [uI g,uR (r 1),uR (r 2),some s,uR u,some (.bl o)]
structure Kr(cK cA:Cl)(j:Nat)(pos:Pl->Option Nat)(c:Pl->O)(K:Kc)(p:Nat->Nat)(q:Int->Nat->Nat):Prop where
 pk:∀f,f<6->pos (.k j f)=some (p f)
 c0:c (.k j 0)=kO cK p K.tk
 c1:c (.k j 1)=.lst (K.bx.map U.int)
 c2:c (.k j 2)=.lst (K.ma.map U.int)
 c3:c (.k j 3)=.dic (dI K.ho)
 c4:c (.k j 4)=.lst K.ev
 c5:c (.k j 5)=.dic (K.ids.map fun a=>(.inl a,.ref (q a 0)))
 pa:∀a∈K.ids,∀f,f<4->pos (.a j a f)=some (q a f)
 a0:∀a∈K.ids,c (.a j a 0)=aO cA (q a) ((K.A a).g) (stU (K.A a).st) (q a 3) ((K.A a).op)
 a1:∀a∈K.ids,c (.a j a 1)=.dic (dT (K.A a).lk)
 a2:∀a∈K.ids,c (.a j a 2)=.dic (dI (K.A a).pu)
 a3:∀a∈K.ids,c (.a j a 3)=.lst ((K.A a).un.map U.int)
def own(j:Nat):Pl->Prop
 |.k i _=>i=j
 |.a i _ _=>i=j
 |.x _ _=>False
def Fm(j:Nat)(pos:Pl->Option Nat)(c:Pl->O)(pos':Pl->Option Nat)(c':Pl->O):Prop:=∀s,¬own j s->pos' s=pos s/\c' s=c s
variable{cK cA:Cl}{pos' pos'':Pl->Option Nat}{c' c'':Pl->O}{K:Kc}{p:Nat->Nat}{a b:Int}
section
variable{q:Int->Nat->Nat}
def Fm.refl:Fm j pos c pos c:=fun _ _=>⟨rfl,rfl⟩
def Fm.trans(h:Fm j pos c pos' c')(h':Fm j pos' c' pos'' c''):Fm j pos c pos'' c'':=fun s n=>⟨(h' s n).1.trans (h s n).1,(h' s n).2.trans (h s n).2⟩
def Fm.upd(h:Fm j pos c pos' c')(hs:own j s):Fm j pos c pos' (aE c' s o):=fun s' n'=>⟨(h s' n').1,by rw[aq (fun e=>n' (by rw[e];exact hs))];exact(h s' n').2⟩
def Fm.pn(h:Fm j pos c pos' c')(hs:own j s):Fm j pos c (eD pos' s n) c':=fun s' n'=>⟨by rw[aK (fun e=>n' (by rw[e];exact hs))];exact(h s' n').1,(h s' n').2⟩
def Fm.uk(h:Fm j pos c pos' c')(f:Nat):Fm j pos c pos' (aE c' (.k j f) o):=h.upd rfl
def Fm.ua(h:Fm j pos c pos' c')(a:Int)(f:Nat):Fm j pos c pos' (aE c' (.a j a f) o):=h.upd rfl
def Kr.ev(R:Kr cK cA j pos c K p q)(ev:List U):Kr cK cA j pos (aE c (.k j 4) (.lst ev)) { K with ev:=ev } p q:=
 ⟨R.pk,by simpa [aE,Kc.up] using R.c0,by simpa [aE,Kc.up] using R.c1,by simpa [aE,Kc.up] using R.c2,by simpa [aE,Kc.up] using R.c3,by simp[aE],by simpa [aE,Kc.up] using R.c5,R.pa,fun a h=>by simpa [aE] using R.a0 a h,fun a h=>by simpa [aE] using R.a1 a h,fun a h=>by simpa [aE] using R.a2 a h,fun a h=>by simpa [aE] using R.a3 a h⟩
def Kr.bx(R:Kr cK cA j pos c K p q)(bx:List Int):Kr cK cA j pos (aE c (.k j 1) (.lst (bx.map U.int))) { K with bx:=bx } p q:=
 ⟨R.pk,by simpa [aE,Kc.up] using R.c0,by simp[aE],by simpa [aE,Kc.up] using R.c2,by simpa [aE,Kc.up] using R.c3,by simpa [aE,Kc.up] using R.c4,by simpa [aE,Kc.up] using R.c5,R.pa,fun a h=>by simpa [aE] using R.a0 a h,fun a h=>by simpa [aE] using R.a1 a h,fun a h=>by simpa [aE] using R.a2 a h,fun a h=>by simpa [aE] using R.a3 a h⟩
def Kr.ma(R:Kr cK cA j pos c K p q)(ma:List Int):Kr cK cA j pos (aE c (.k j 2) (.lst (ma.map U.int))) { K with ma:=ma } p q:=
 ⟨R.pk,by simpa [aE,Kc.up] using R.c0,by simpa [aE,Kc.up] using R.c1,by simp[aE],by simpa [aE,Kc.up] using R.c3,by simpa [aE,Kc.up] using R.c4,by simpa [aE,Kc.up] using R.c5,R.pa,fun a h=>by simpa [aE] using R.a0 a h,fun a h=>by simpa [aE] using R.a1 a h,fun a h=>by simpa [aE] using R.a2 a h,fun a h=>by simpa [aE] using R.a3 a h⟩
def Kr.ho(R:Kr cK cA j pos c K p q)(ho:List (Int×Int)):Kr cK cA j pos (aE c (.k j 3) (.dic (dI ho))) { K with ho:=ho } p q:=
 ⟨R.pk,by simpa [aE,Kc.up] using R.c0,by simpa [aE,Kc.up] using R.c1,by simpa [aE,Kc.up] using R.c2,by simp[aE],by simpa [aE,Kc.up] using R.c4,by simpa [aE,Kc.up] using R.c5,R.pa,fun a h=>by simpa [aE] using R.a0 a h,fun a h=>by simpa [aE] using R.a1 a h,fun a h=>by simpa [aE] using R.a2 a h,fun a h=>by simpa [aE] using R.a3 a h⟩
def Kr.tk(R:Kr cK cA j pos c K p q)(tk:Int):Kr cK cA j pos (aE c (.k j 0) (kO cK p tk)) { K with tk:=tk } p q:=
 ⟨R.pk,by simp[aE],by simpa [aE,Kc.up] using R.c1,by simpa [aE,Kc.up] using R.c2,by simpa [aE,Kc.up] using R.c3,by simpa [aE,Kc.up] using R.c4,by simpa [aE,Kc.up] using R.c5,R.pa,fun a h=>by simpa [aE] using R.a0 a h,fun a h=>by simpa [aE] using R.a1 a h,fun a h=>by simpa [aE] using R.a2 a h,fun a h=>by simpa [aE] using R.a3 a h⟩
def Kr.ao(R:Kr cK cA j pos c K p q)(g:Int)(st:Option Int)(op:Bool) :
  Kr cK cA j pos (aE c (.a j a 0) (aO cA (q a) g (stU st) (q a 3) op)) (K.up a { K.A a with g:=g,st:=st,op:=op }) p q:=by
 refine⟨R.pk,by simpa [aE,Kc.up] using R.c0,by simpa [aE,Kc.up] using R.c1,by simpa [aE,Kc.up] using R.c2,by simpa [aE,Kc.up] using R.c3,by simpa [aE,Kc.up] using R.c4,by simpa [aE,Kc.up] using R.c5,R.pa,fun b h=>?_,fun b h=>?_,fun b h=>?_,fun b h=>?_⟩;by_cases e:b=a;subst e;simp[aE,Kc.up];have:=R.a0 b h;simpa [aE,Kc.up,e] using this;have:=R.a1 b h;by_cases e:b=a;subst e;simpa [aE,Kc.up] using this;simpa [aE,Kc.up,e] using this;have:=R.a2 b h;by_cases e:b=a;subst e;simpa [aE,Kc.up] using this;simpa [aE,Kc.up,e] using this;have:=R.a3 b h;by_cases e:b=a;subst e;simpa [aE,Kc.up] using this;simpa [aE,Kc.up,e] using this
def Kr.al(R:Kr cK cA j pos c K p q)(lk:List Int):Kr cK cA j pos (aE c (.a j a 1) (.dic (dT lk))) (K.up a { K.A a with lk:=lk }) p q:=by
 refine⟨R.pk,by simpa [aE,Kc.up] using R.c0,by simpa [aE,Kc.up] using R.c1,by simpa [aE,Kc.up] using R.c2,by simpa [aE,Kc.up] using R.c3,by simpa [aE,Kc.up] using R.c4,by simpa [aE,Kc.up] using R.c5,R.pa,fun b h=>?_,fun b h=>?_,fun b h=>?_,fun b h=>?_⟩;have:=R.a0 b h;by_cases e:b=a;subst e;simpa [aE,Kc.up] using this;simpa [aE,Kc.up,e] using this;have:=R.a1 b h;by_cases e:b=a;subst e;simp[aE,Kc.up];simpa [aE,Kc.up,e] using this;have:=R.a2 b h;by_cases e:b=a;subst e;simpa [aE,Kc.up] using this;simpa [aE,Kc.up,e] using this;have:=R.a3 b h;by_cases e:b=a;subst e;simpa [aE,Kc.up] using this;simpa [aE,Kc.up,e] using this
def Kr.ap(R:Kr cK cA j pos c K p q)(pu:List (Int×Int)):Kr cK cA j pos (aE c (.a j a 2) (.dic (dI pu))) (K.up a { K.A a with pu:=pu }) p q:=by
 refine⟨R.pk,by simpa [aE,Kc.up] using R.c0,by simpa [aE,Kc.up] using R.c1,by simpa [aE,Kc.up] using R.c2,by simpa [aE,Kc.up] using R.c3,by simpa [aE,Kc.up] using R.c4,by simpa [aE,Kc.up] using R.c5,R.pa,fun b h=>?_,fun b h=>?_,fun b h=>?_,fun b h=>?_⟩;have:=R.a0 b h;by_cases e:b=a;subst e;simpa [aE,Kc.up] using this;simpa [aE,Kc.up,e] using this;have:=R.a1 b h;by_cases e:b=a;subst e;simpa [aE,Kc.up] using this;simpa [aE,Kc.up,e] using this;have:=R.a2 b h;by_cases e:b=a;subst e;simp[aE,Kc.up];simpa [aE,Kc.up,e] using this;have:=R.a3 b h;by_cases e:b=a;subst e;simpa [aE,Kc.up] using this;simpa [aE,Kc.up,e] using this
def Kr.au(R:Kr cK cA j pos c K p q)(un:List Int):Kr cK cA j pos (aE c (.a j a 3) (.lst (un.map U.int))) (K.up a { K.A a with un:=un }) p q:=by
 refine⟨R.pk,by simpa [aE,Kc.up] using R.c0,by simpa [aE,Kc.up] using R.c1,by simpa [aE,Kc.up] using R.c2,by simpa [aE,Kc.up] using R.c3,by simpa [aE,Kc.up] using R.c4,by simpa [aE,Kc.up] using R.c5,R.pa,fun b h=>?_,fun b h=>?_,fun b h=>?_,fun b h=>?_⟩;have:=R.a0 b h;by_cases e:b=a;subst e;simpa [aE,Kc.up] using this;simpa [aE,Kc.up,e] using this;have:=R.a1 b h;by_cases e:b=a;subst e;simpa [aE,Kc.up] using this;simpa [aE,Kc.up,e] using this;have:=R.a2 b h;by_cases e:b=a;subst e;simpa [aE,Kc.up] using this;simpa [aE,Kc.up,e] using this;have:=R.a3 b h;by_cases e:b=a;subst e;simp[aE,Kc.up];simpa [aE,Kc.up,e] using this
end
def w9{S:Sto}{ci:CE}{el:CE}{n:Nat}{caps:List Nat}{ρ:Rho}{ld:Nat}{kus:List (Key×U)}{v:Key×U->U}{r:Rho}(hi:ci ρ S=some (.ref ld,S))(hd:S[ld]?=some (.dic kus))(hr:qj 1 caps ρ=none::r)(hl:kus.length<=900)
  (he:∀ep ys,∀p∈kus,el (some (kU p.1)::r) (S.set ld (.fdc ep kus)++[.lst ys])=some (v p,S.set ld (.fdc ep kus)++[.lst ys])) :
  ju ci (gNm 0) el 1 caps ρ S=some (.ref S.length,S++[.lst (kus.map v)]):=by
 have lk:ld<S.length:=(Q4.mp hd).1;unfold ju Bm;rw[hi,Q8];simp only[hd];refine EE fun ep=>?_;have ek:∀X:Sto,(S.set ld (.fdc ep kus)++X)[ld]?=some (.fdc ep kus):=fun X=>aC (by rw[ZR,X9 rfl,X9 lk]);have key:∀(ks:List (Key×U)) (ys:List U) (r0:Option U),(∀p∈ks,p∈kus)->ys.length+ks.length<=9999->ic (fun S'=>S'[ld]?=some (.fdc ep kus)) (gNm 0) el S.length (ks.map fun p=>kU p.1) (r0::r) (S.set ld (.fdc ep kus)++[.lst ys])=some (S.set ld (.fdc ep kus)++[.lst (ys++ks.map v)]):=by
  intro ks;induction ks with
  |nil=>intro ys r0 _ _;rw[Zv,Zv,Z8];exact je (ek _)
  |cons p ks ih=>
   intro ys r0 hm hn;rw[QK]at hn;rw[QU,QU];refine(ib (ρ0:=some (kU p.1)::r) (S0:=S.set ld (.fdc ep kus)++[.lst ys]) (S1:=S.set ld (.fdc ep kus)++[.lst ys]) (x:=v p) (ys:=ys) (ek _) rfl (he ep ys p (hm p QN)) ?_ (by unfold LIM;omega)).trans ?_;have:=ga0 (S:=S.set ld (.fdc ep kus)) (X:=[.lst ys]);rw[Qs]at this;rw[this];rfl;have:=gs0 (S:=S.set ld (.fdc ep kus)) (X:=[.lst ys]) (o:=.lst (ys++[v p]));rw[Qs]at this;rw[this];show ic _ _ _ _ _ _ (S.set ld (.fdc ep kus)++[.lst (ys++[v p])])=_;rw[ih (ys++[v p]) _ (fun q hq=>hm q (QY _ hq)) (by simp;omega),Qw];rfl
 rw[hr,key kus [] none (fun p h=>h) (by simp;omega),Q8];have e2:(S.set ld (.fdc ep kus)++[O.lst ([]++kus.map v)]).set ld (.dic kus)=S++[.lst (kus.map v)]:=by
  rw[List.set_append_left _ _ (by rw[Qs];exact lk),Cs hd,Zq]
 simp only[ek,e2]
section
variable{q:Int->Nat->Nat}{ids:List Int}{l:List (Int×Int)}{xs:List Int}
def jB:∀{ids:List Int},a∈ids->bC (ids.map fun a=>((.inl a:Key),U.ref (q a 0))) (.inl a)=uR (q a 0)
 |x::r,h=>by
  unfold bC;rw[QU,ZX];by_cases e:x=a;subst e;simp;have hd:decide ((.inl x:Key)=.inl a)=false:=XZ fun z=>e (Sum.inl.inj z);rw[hd];exact jB (ids:=r) ((Qz.mp h).resolve_left fun z=>e z.symm)
def oX:∀{ids:List Int},a∉ids->bC (ids.map fun a=>((.inl a:Key),U.ref (q a 0))) (.inl a)=none
 |[],_=>rfl
 |x::r,h=>by
  unfold bC;rw[QU,ZX];have hd:decide ((.inl x:Key)=.inl a)=false:=XZ fun z=>h (by rw[<-Sum.inl.inj z];exact QN);rw[hd];exact oX (ids:=r) fun z=>h (QY _ z)
def jS(b:Int):∀(l:List (Int×Int)),bC (dI l) (.inl b)=(bC l b).map U.int
 |[]=>rfl
 |(x,v)::r=>by
  have ih:=jS b r;unfold bC dI at *;rw[QU,ZX,ZX];by_cases e:x=b
  ·subst e;simp
  ·have hd:decide ((.inl x:Key)=.inl b)=false:=XZ fun z=>e (Sum.inl.inj z);have hd':decide (x=b)=false:=XZ e;dsimp only;rw[hd,hd'];exact ih
def zF(l:List (Int×Int))(b v:Int):fZ (dI l) (.inl b) (.int v)=dI (fZ l b v):=CM (κ':=Key) Sum.inl U.int (fun _ _ h=>Sum.inl.inj h) l b v
def ES(l:List Int)(b:Int):fZ (dT l) (.inl b) (.bl true)=dT (oW l b):=CJ b l
def Ig(l:List (Int×Int))(b:Int):jJ (dI l) (.inl b)=dI (jJ l b):=by
 unfold jJ dI;rw[List.filter_map];congr 1;refine List.filter_congr fun p _=>?_;simp
def My(b0:0<=b)(b1:b<xs.length):atI (xs.map U.int) b=uI (xs.getD b.toNat 0):=by
 have hi:b.toNat<xs.length:=by omega
 have:=i9 (xs:=xs.map U.int) (j:=b.toNat) (v:=.int xs[b.toNat]) (by rw[QL,QQ hi];rfl);rw[show((b.toNat:Nat):Int)=b from by omega]at this;rw[this,X8,QQ hi];rfl
def Py(b0:0<=b)(b1:b<xs.length):ixN (xs.map U.int).length b=some b.toNat:=by
 unfold ixN;rw[X9 b0,X9 (by rw[Q9];exact b1)]
end
def brd(K:Kc)(a:Int)(bs:List Int):Bool:=bs.any fun b=>!decide ((bC K.ho b).getD a=a)
def HF(K:Kc)(a:Int):Bool:=(K.A a).lk.any fun b=>decide ((K.A a).g<K.ma.getD b.toNat 0)
def Md(K:Kc)(a b:Int):Bool:=brd K a [b]||(!decide (K.ma.getD b.toNat 0<=(K.A a).g)&&(brd K a (K.A a).lk||HF K a))
structure Kw(K:Kc)(n:Nat):Prop where
 lb:K.bx.length=n
 lm:K.ma.length=n
 few:n<=900
 ids:K.ids.Nodup
 lk:∀a∈K.ids,(K.A a).lk.length<=900/\∀b∈(K.A a).lk,0<=b/\b<n
 pu:∀a∈K.ids,(K.A a).pu.length<64/\((K.A a).pu.map (·.1)).Nodup/\∀e∈(K.A a).pu,0<=e.1/\e.1<n
def Nx(cK cA:Cl)(j:Nat)(pos:Pl->Option Nat)(c:Pl->O)(p:Nat->Nat)(K':Kc)(T':Sto):Prop:=∃pos' c' q',Mm pos' c' T'/\Kr cK cA j pos' c' K' p q'/\Fm j pos c pos' c'
section
variable{q:Int->Nat->Nat}
def Kc.end(K:Kc)(a:Int)(w:Str):Kc:={ K.up a { K.A a with op:=false } with ev:=K.ev++[.tup [.str w,.int a]] }
def jw(cK cA:Cl):Fn:=fnU 4 3 (i0 cK cA)
def nV{w:Str}(M:Mm pos c T)(R:Kr cK cA j pos c K p q)(ha:a∈K.ids)(hl:K.ev.length<=9000):Wp (jw cK cA [.ref (p 0),.int a,.str w] T) fun r=>r.1=.non/\Nx cK cA j pos c p (K.end a w) r.2:=by
 have t0:=M.get (R.pk 0 (by decide)) R.c0;have t5:=M.get (R.pk 5 (by decide)) R.c5;have tr:=M.get (R.pa a ha 0 (by decide)) (R.a0 a ha);have v:=jB (q:=q) ha;have M1:=M.set (R.pa a ha 0 (by decide)) (aO cA (q a) ((K.A a).g) (stU (K.A a).st) (q a 3) false);have R1:=R.ao (a:=a) (K.A a).g (K.A a).st false;have s0:=M1.get (R1.pk 0 (by decide)) R1.c0;have s4:=M1.get (R1.pk 4 (by decide)) R1.c4;have hL:K.ev.length<LIM:=by unfold LIM;omega
 refine⟨(.non,_),?_,rfl,pos,_,q,M1.set (R1.pk 4 (by decide)) (.lst (K.ev++[.tup [.str w,.int a]])),R1.ev _,(Fm.refl.ua a 0).uk 4⟩;unfold jw;rw[LQ];rwa[i0,t0,t5,v,tr,s0,s4,Kc.up,fO hL]
def lh(cK cA:Cl):Fn:=fnU 2 2 (gQ cK cA)
def wR(M:Mm pos c T)(R:Kr cK cA j pos c K p q)(ha:a∈K.ids)(op:(K.A a).op=true):lh cK cA [.ref (p 0),.int a] T=some (.ref (q a 0),T):=by
 have t0:=M.get (R.pk 0 (by decide)) R.c0;have t5:=M.get (R.pk 5 (by decide)) R.c5;have tr:=M.get (R.pa a ha 0 (by decide)) (R.a0 a ha);have v:=jB (q:=q) ha;rw[op]at tr;unfold lh;rw[kq];rwa[gQ,t0,t5,v,tr,Option.isSome_some,if_true]
def iI(cK cA:Cl):Fn:=fnU 3 2 (fc (lh cK cA) cK cA)
def mx(M:Mm pos c T)(R:Kr cK cA j pos c K p q)(ha:a∈K.ids)(op:(K.A a).op=true)(st:(K.A a).st=none):iI cK cA [.ref (p 0),.int a] T=some (.ref (q a 0),T):=by
 have t0:=M.get (R.pk 0 (by decide)) R.c0;have tr:=M.get (R.pa a ha 0 (by decide)) (R.a0 a ha);have f:=wR M R ha op;rw[st]at tr;unfold iI;rw[oe];rwa[fc,t0,f,tr,stU,yv,pW]
def xi(cK:Cl):CE:=cOp fNe (yd (aS cK 2 (ah 2)) (ah 0) (ah 1)) (ah 1)
def Br{S:Sto}{k0 k3:Nat}{fs:List (Option U)}{ho:List (Int×Int)}(h0:S[k0]?=some (.ins cK fs))(hf:fs[2]?=some (uR k3))(h3:S[k3]?=some (.dic (dI ho))):xi cK [uI b,uI a,uR k0] S=some (.bl (!decide ((bC ho b).getD a=a)),S):=by
 have F:IG cK 2 (.ref k0,S)=some (.ref k3,S):=Ez h0 hf;have g:((bC ho b).map U.int).getD (.int a)=.int ((bC ho b).getD a):=by cases bC ho b<;>rfl
 unfold xi;rwa[F,h3,jS,g]
def cE(cK:Cl):Fn:=fnU 3 3 (gE cK)
def any_map{α:Type}{l:Nat}{S:Sto}{xs:List α}{f:α->Bool}(h:S[l]?=some (.lst (xs.map fun x=>U.bl (f x)))):DV [.ref l] S=some (.bl (xs.any f),S):=by
 have em:(xs.map fun x=>U.bl (f x))=(xs.map f).map U.bl:=by rw[ZG];rfl
 simp only[DV,h,em,rm,Q8,List.any_map];rfl
def vA{lb:Nat}{bs:List Int}(M:Mm pos c T)(R:Kr cK cA j pos c K p q)(hb:T[lb]?=some (.lst (bs.map U.int)))(hl:bs.length<=900):∃X,cE cK [.ref (p 0),.int a,.ref lb] T=some (.bl (brd K a bs),T++X):=by
 have t0:=M.get (R.pk 0 (by decide)) R.c0;have t3:=M.get (R.pk 3 (by decide)) R.c3;have key:=ub (S:=T) (ok:=fun S=>S[lb]?=some (.lst (bs.map U.int))) (gg:=gNm 0) (ce:=xi cK) (f:=U.int) (v:=fun b=>.bl (!decide ((bC K.ho b).getD a=a))) (Rel:=fun ρ=>∃r0,ρ=[r0,uI a,uR (p 0)]) (fun ys G=>aC hb) bs [] [] [none,uI a,uR (p 0)] ⟨_,rfl⟩ (by simp;omega) (fun b hb' ys G ρ hρ=>by
  obtain⟨r0,rfl⟩:=hρ;exact⟨[uI b,uI a,uR (p 0)],⟨_,rfl⟩,rfl,Br (aC t0) rfl (aC t3)⟩)
 simp only[Zq]at key;have hc:dG (iTp (ah 2)) (gNm 0) (xi cK) 1 [1,0] [uR (p 0),uI a,uR lb] T=some (.ref T.length,T++[.lst (bs.map fun b=>.bl (!decide ((bC K.ho b).getD a=a)))]):=by
  have hv:ah 2 [uR (p 0),uI a,uR lb] T=some (.ref lb,T):=rfl;unfold dG iTp;rw[hv,Q8];simp only[hb,Q8,qj,QX,QU,Zv,ZI,ZO,ZP,Zw,Zq,key]
 have he:rk (dG (iTp (ah 2)) (gNm 0) (xi cK) 1 [1,0]) (ju (ah 2) (gNm 0) (xi cK) 1 [1,0]) [uR (p 0),uI a,uR lb] T=some (.ref T.length,T++[.lst (bs.map fun b=>.bl (!decide ((bC K.ho b).getD a=a)))]):=by
  unfold rk;rw[hc]
 have ha:=any_map (S:=T++[.lst (bs.map fun b=>.bl (!decide ((bC K.ho b).getD a=a)))]) (l:=T.length) (xs:=bs) (by rw[ga0];rfl);refine⟨[.lst (bs.map fun b=>.bl (!decide ((bC K.ho b).getD a=a)))],?_⟩;unfold cE;rw[t7];show((bT (cCB DV (ag (rk (dG (iTp (ah 2)) (gNm 0) (xi cK) 1 [1,0]) (ju (ah 2) (gNm 0) (xi cK) 1 [1,0])) ay))) _ T).bind kFn=_;rwa[he,ha];rfl
def vB{s:Pl}{ld:Nat}{α:Type}{xs:List α}{kf:α->Int}{vf:α->U}(M:Mm pos c T)(R:Kr cK cA j pos c K p q)(hs:pos s=some ld)(hc:c s=.dic (xs.map fun x=>(.inl (kf x),vf x)))(s1:s≠.k j 0)(s2:s≠.k j 3)(hl:xs.length<=900):∃X,cE cK [.ref (p 0),.int a,.ref ld] T=some (.bl (brd K a (xs.map kf)),T++X):=by
 have td:=M.get hs hc;have hcd:=w9 (S:=T) (ci:=ah 2) (el:=xi cK) (n:=1) (caps:=[1,0]) (ρ:=[uR (p 0),uI a,uR ld]) (r:=[uI a,uR (p 0)]) (v:=fun e=>match e.1 with|.inl b=>.bl (!decide ((bC K.ho b).getD a=a))|.inr _=>.non) rfl td rfl (by simpa using hl) (fun ep ys e he=>by
  obtain⟨x,hx,rfl⟩:=ZV.mp he;have M1:=M.set hs (.fdc ep (xs.map fun x=>(.inl (kf x),vf x)));have t0:=M1.get (R.pk 0 (by decide)) ((aq (Ne.symm s1)).trans R.c0);have t3:=M1.get (R.pk 3 (by decide)) ((aq (Ne.symm s2)).trans R.c3);exact Br (aC t0) rfl (aC t3))
 rw[ZG]at hcd;have he:rk (dG (iTp (ah 2)) (gNm 0) (xi cK) 1 [1,0]) (ju (ah 2) (gNm 0) (xi cK) 1 [1,0]) [uR (p 0),uI a,uR ld] T=some (.ref T.length,T++[.lst (xs.map fun x=>.bl (!decide ((bC K.ho (kf x)).getD a=a)))]):=by
  have h1:dG (iTp (ah 2)) (gNm 0) (xi cK) 1 [1,0] [uR (p 0),uI a,uR ld] T=none:=by
   have hv:ah 2 [uR (p 0),uI a,uR ld] T=some (.ref ld,T):=rfl;unfold dG iTp;rw[hv,Q8];simp only[td];rfl
  unfold rk;rw[h1];exact hcd
 have ha:=any_map (S:=T++[.lst (xs.map fun x=>.bl (!decide ((bC K.ho (kf x)).getD a=a)))]) (l:=T.length) (xs:=xs) (by rw[ga0];rfl);refine⟨[.lst (xs.map fun x=>.bl (!decide ((bC K.ho (kf x)).getD a=a)))],?_⟩;have eb:brd K a (xs.map kf)=xs.any fun x=>!decide ((bC K.ho (kf x)).getD a=a):=by unfold brd;rw[List.any_map];rfl
 rw[eb];unfold cE;rw[t7];show((bT (cCB DV (ag (rk (dG (iTp (ah 2)) (gNm 0) (xi cK) 1 [1,0]) (ju (ah 2) (gNm 0) (xi cK) 1 [1,0])) ay))) _ T).bind kFn=_;rwa[he,ha]
def Mx(cK cA:Cl):CE:=cOp fGt (cOp fIx (aS cK 1 (ah 2)) (ah 0)) (aS cA 0 (ah 1))
def rN(cK cA:Cl):Fn:=fnU 3 2 (dE cK cA)
def Bh(M:Mm pos c T)(R:Kr cK cA j pos c K p q)(W:Kw K n)(ha:a∈K.ids):∃X,rN cK cA [.ref (p 0),.int a] T=some (.bl (HF K a),T++X):=by
 have t0:=M.get (R.pk 0 (by decide)) R.c0;have t5:=M.get (R.pk 5 (by decide)) R.c5;have tr:=M.get (R.pa a ha 0 (by decide)) (R.a0 a ha);have tl:=M.get (R.pa a ha 1 (by decide)) (R.a1 a ha);have v:=jB (q:=q) ha;obtain⟨l1,l2⟩:=W.lk a ha;have hi:aS cA 1 (ah 2) [uR (p 0),uI a,uR (q a 0)] T=some (.ref (q a 1),T):=by
  rwa[tr]
 have hcd:=w9 (S:=T) (ci:=aS cA 1 (ah 2)) (el:=Mx cK cA) (n:=1) (caps:=[2,0]) (ρ:=[uR (p 0),uI a,uR (q a 0)]) (r:=[uR (q a 0),uR (p 0)]) (v:=fun e=>match e.1 with|.inl b=>.bl (decide ((K.A a).g<K.ma.getD b.toNat 0))|.inr _=>.non) hi tl rfl (by unfold dT;simpa using l1) (fun ep ys e he=>by
  obtain⟨b,hb,rfl⟩:=ZV.mp he;obtain⟨b0,b1⟩:=l2 b hb;have M1:=M.set (R.pa a ha 1 (by decide)) (.fdc ep (dT (K.A a).lk));have s0:=aC (r:=[O.lst ys]) (M1.get (R.pk 0 (by decide)) ((aq (by simp)).trans R.c0));have s2:=aC (r:=[O.lst ys]) (M1.get (R.pk 2 (by decide)) ((aq (by simp)).trans R.c2));have sr:=aC (r:=[O.lst ys]) (M1.get (R.pa a ha 0 (by decide)) ((aq (by simp)).trans (R.a0 a ha)));have am:=My (xs:=K.ma) b0 (by rw[W.lm];exact b1);show Mx cK cA [uI b,uR (q a 0),uR (p 0)] _=_;unfold Mx;rwa[s0,s2,sr,am])
 have em:((dT (K.A a).lk).map fun e=>match e.1 with|.inl b=>U.bl (decide ((K.A a).g<K.ma.getD b.toNat 0))|.inr _=>.non)=(K.A a).lk.map fun b=>U.bl (decide ((K.A a).g<K.ma.getD b.toNat 0)):=by unfold dT;rw[ZG];rfl
 rw[em]at hcd;have hn:=any_map (S:=T++[.lst ((K.A a).lk.map fun b=>U.bl (decide ((K.A a).g<K.ma.getD b.toNat 0)))]) (l:=T.length) (xs:=(K.A a).lk) (by rw[ga0];rfl);refine⟨[.lst ((K.A a).lk.map fun b=>U.bl (decide ((K.A a).g<K.ma.getD b.toNat 0)))],?_⟩;unfold rN;rw[oe];unfold dE;rw[fY (ρ':=[uR (p 0),uI a,uR (q a 0)]) (S':=T) (by rwa[t0,t5,v])];show((bT (cCB DV (ag (ju (aS cA 1 (ah 2)) (gNm 0) (Mx cK cA) 1 [2,0]) ay))) _ T).bind kFn=_;rwa[hcd,hn];rfl
def O1(cK cA:Cl):Fn:=fnU 3 3 (bw (cE cK) (rN cK cA) cK cA)
def NF(M:Mm pos c T)(R:Kr cK cA j pos c K p q)(W:Kw K n)(ha:a∈K.ids)(b0:0<=b)(b1:b<n):∃X,O1 cK cA [.ref (p 0),.int a,.int b] T=some (.bl (Md K a b),T++X):=by
 have t0:=M.get (R.pk 0 (by decide)) R.c0;have t2:=M.get (R.pk 2 (by decide)) R.c2;have t5:=M.get (R.pk 5 (by decide)) R.c5;have tr:=M.get (R.pa a ha 0 (by decide)) (R.a0 a ha);have v:=jB (q:=q) ha;have am:=My (xs:=K.ma) b0 (by rw[W.lm];exact b1);have g0:∀Y,(T++Y)[p 0]?=_:=fun Y=>aC t0;have g2:∀Y,(T++Y)[p 2]?=_:=fun Y=>aC t2;have g5:∀Y,(T++Y)[p 5]?=_:=fun Y=>aC t5;have gr:∀Y,(T++Y)[q a 0]?=_:=fun Y=>aC tr;obtain⟨X1,e1⟩:=vA (a:=a) (lb:=T.length) (bs:=[b]) (M.app [.lst [.int b]]) R (by rw[ga0];rfl) (by simp);rw[Qw]at e1;have M1:=M.app ([.lst [.int b]]++X1);obtain⟨X2,e2⟩:=vB (a:=a) (xs:=(K.A a).lk) (kf:=fun b=>b) (vf:=fun _=>.bl true) M1 R (R.pa a ha 1 (by decide)) (R.a1 a ha) (by simp) (by simp) (W.lk a ha).1;obtain⟨X3,e3⟩:=Bh (M1.app X2) R W ha;rw[List.map_id']at e2;simp only[Qw,Zw,Zq]at e1 e2 e3;unfold O1 Md;rw[t7];cases h1:brd K a [b]with
 |true=>
  rw[h1]at e1;exact⟨.lst [.int b]::X1,by rwa[bw,t0,e1,Bool.true_or]⟩
 |false=>
  rw[h1]at e1;cases h2:decide (K.ma.getD b.toNat 0<=(K.A a).g)with
  |true=>exact⟨.lst [.int b]::X1,by rwa[bw,t0,e1,g0,g2,g5,v,gr,am,h2,Bool.not_true,Bool.false_and,Bool.or_false]⟩
  |false=>
   cases h3:brd K a (K.A a).lk with
   |true=>
    rw[h3]at e2;exact⟨.lst [.int b]::(X1++X2),by rwa[bw,t0,e1,g0,g2,g5,v,gr,am,h2,e2,Bool.not_false,Bool.true_and,Bool.true_or,Bool.false_or]⟩
   |false=>
    rw[h3]at e2;exact⟨.lst [.int b]::(X1++(X2++X3)),by rwa[bw,t0,e1,g0,g2,g5,v,gr,am,h2,e2,e3,Bool.not_false,Bool.true_and,Bool.false_or]⟩
def Kc.anew(K:Kc)(a b:Int):Kc:=K.up a { K.A a with g:=if (K.A a).g<K.ma.getD b.toNat 0 then K.tk else(K.A a).g,lk:=oW (K.A a).lk b }
def Kc.say(K:Kc)(e:U):Kc:={ K with ev:=K.ev++[e] }
def up2{v w:Ac}:(K.up a v).up a w=K.up a w:=by
 unfold Kc.up;congr 1;funext x;by_cases h:x=a<;>simp[h]
def kE{v:Ac}:(K.up a v).A a=v:=X9 rfl
def BK(cK cA:Cl):Fn:=fnU 3 3 (cU cK cA)
def Iu(M:Mm pos c T)(R:Kr cK cA j pos c K p q)(W:Kw K n)(ha:a∈K.ids)(b0:0<=b)(b1:b<n):Wp (BK cK cA [.ref (p 0),.ref (q a 0),.int b] T) fun r=>r.1=.int (K.bx.getD b.toNat 0)/\∃c',Mm pos c' r.2/\Kr cK cA j pos c' (K.anew a b) p q/\Fm j pos c pos c':=by
 have t0:=M.get (R.pk 0 (by decide)) R.c0;have t1:=M.get (R.pk 1 (by decide)) R.c1;have t2:=M.get (R.pk 2 (by decide)) R.c2;have tr:=M.get (R.pa a ha 0 (by decide)) (R.a0 a ha);have tl:=M.get (R.pa a ha 1 (by decide)) (R.a1 a ha);have am:=My (xs:=K.ma) b0 (by rw[W.lm];exact b1);have ab:=My (xs:=K.bx) b0 (by rw[W.lb];exact b1);have hL:(dT (K.A a).lk).length<LIM:=by unfold LIM dT;rw[Q9];have:=(W.lk a ha).1;omega
 unfold BK Kc.anew;rw[t7];by_cases h:(K.A a).g<K.ma.getD b.toNat 0;have hd:decide ((K.A a).g<K.ma.getD b.toNat 0)=true:=XX h;rw[X9 h];have M1:=M.set (R.pa a ha 0 (by decide)) (aO cA (q a) K.tk (stU (K.A a).st) (q a 3) ((K.A a).op));have R1:=R.ao (a:=a) K.tk (K.A a).st (K.A a).op;have s0:=M1.get (R1.pk 0 (by decide)) R1.c0;have sr:=M1.get (R1.pa a ha 0 (by decide)) (R1.a0 a ha);have sl:=M1.get (R1.pa a ha 1 (by decide)) (R1.a1 a ha);rw[kE]at sr sl;have M2:=M1.set (R1.pa a ha 1 (by decide)) (.dic (dT (oW (K.A a).lk b)));have R2:=R1.al (a:=a) (oW (K.A a).lk b);have w0:=M2.get (R2.pk 0 (by decide)) R2.c0;have w1:=M2.get (R2.pk 1 (by decide)) R2.c1;rw[kE,up2]at R2;refine⟨(_,_),?_,rfl,_,M2,R2,(Fm.refl.ua a 0).ua a 1⟩;rwa[cU,t0,t2,am,tr,hd,s0,sr,sl,hL,if_true,ES,w0,w1,Kc.up,ab];have hd:decide ((K.A a).g<K.ma.getD b.toNat 0)=false:=XZ h;rw[XQ h];have M2:=M.set (R.pa a ha 1 (by decide)) (.dic (dT (oW (K.A a).lk b)));have R2:=R.al (a:=a) (oW (K.A a).lk b);have w0:=M2.get (R2.pk 0 (by decide)) R2.c0;have w1:=M2.get (R2.pk 1 (by decide)) R2.c1;refine⟨(_,_),?_,rfl,_,M2,R2,Fm.refl.ua a 1⟩;rwa[cU,t0,t2,am,tr,hd,tl,hL,if_true,ES,w0,w1,Kc.up,ab]
def cV(K:Kc)(a b:Int):U×Kc:=match bC (K.A a).pu b with
 |some v=>(.tup [.str "number",.int v],K.say (.tup [.str "look",.int a,.int b,.int v]))
 |none=>if Md K a b=true then(.tup [.str "falls"],K.end a "fall")else(.tup [.str "number",.int (K.bx.getD b.toNat 0)],(K.anew a b).say (.tup [.str "look",.int a,.int b,.int (K.bx.getD b.toNat 0)]))
def BF(cK cA:Cl):Fn:=fnU 5 3 (d8 (iI cK cA) (O1 cK cA) (jw cK cA) (BK cK cA) cK cA)
def Hv(M:Mm pos c T)(R:Kr cK cA j pos c K p q)(W:Kw K n)(ha:a∈K.ids)(op:(K.A a).op=true)(st:(K.A a).st=none)(b0:0<=b)(b1:b<n)(hl:K.ev.length<=9000):Wp (BF cK cA [.ref (p 0),.int a,.int b] T) fun r=>r.1=(cV K a b).1/\Nx cK cA j pos c p (cV K a b).2 r.2:=by
 have t0:=M.get (R.pk 0 (by decide)) R.c0;have t4:=M.get (R.pk 4 (by decide)) R.c4;have tr:=M.get (R.pa a ha 0 (by decide)) (R.a0 a ha);have tp:=M.get (R.pa a ha 2 (by decide)) (R.a2 a ha);have u:=mx M R ha op st;have hL:K.ev.length<LIM:=by unfold LIM;omega
 unfold BF cV;rw[LO];cases hv:bC (K.A a).pu b with
 |some v=>
  refine⟨(_,_),?_,rfl,pos,_,q,M.set (R.pk 4 (by decide)) (.lst (K.ev++[.tup [.str "look",.int a,.int b,.int v]])),R.ev _,Fm.refl.uk 4⟩;rwa[d8,t0,u,tr,tp,jS,hv,Zj,Option.isSome_some,Zt,if_false,t4,fO hL]
 |none=>
  obtain⟨X,e1⟩:=NF M R W ha b0 b1;have M1:=M.app X;have g0:=M1.get (R.pk 0 (by decide)) R.c0;dsimp only;cases hw:Md K a b with
  |true=>
   rw[hw]at e1;rw[X9 rfl];obtain⟨⟨u1,T1⟩,e2,rfl,pos',c',q',M2,R2,F2⟩:=nV (w:="fall") M1 R ha hl;refine⟨(_,_),?_,rfl,pos',c',q',M2,R2,F2⟩;rwa[d8,t0,u,tr,tp,jS,hv,Option.map_none,Option.isSome_none,Zt,if_false,e1,g0,e2]
  |false=>
   rw[hw]at e1;rw[XQ QZ];obtain⟨⟨u1,T1⟩,e2,rfl,c',M2,R2,F2⟩:=Iu M1 R W ha b0 b1;have s0:=M2.get (R2.pk 0 (by decide)) R2.c0;have s4:=M2.get (R2.pk 4 (by decide)) R2.c4;refine⟨(_,_),?_,rfl,pos,_,q,M2.set (R2.pk 4 (by decide)) (.lst (K.ev++[.tup [.str "look",.int a,.int b,.int (K.bx.getD b.toNat 0)]])),R2.ev _,F2.uk 4⟩;rwa[d8,t0,u,tr,tp,jS,hv,Option.map_none,Option.isSome_none,Zt,if_false,e1,g0,e2,s0,s4,Kc.anew,Kc.up,fO hL]
def va(K:Kc)(a b v:Int):Kc:=(K.up a { K.A a with pu:=fZ (K.A a).pu b v }).say (.tup [.str "put",.int a,.int b,.int v])
def uz(cK cA:Cl):Fn:=fnU 5 4 (iX (iI cK cA) cK cA)
def HA{v:Int}(M:Mm pos c T)(R:Kr cK cA j pos c K p q)(W:Kw K n)(ha:a∈K.ids)(op:(K.A a).op=true)(st:(K.A a).st=none)(hl:K.ev.length<=9000):Wp (uz cK cA [.ref (p 0),.int a,.int b,.int v] T) fun r=>r.1=.non/\Nx cK cA j pos c p (va K a b v) r.2:=by
 have t0:=M.get (R.pk 0 (by decide)) R.c0;have tr:=M.get (R.pa a ha 0 (by decide)) (R.a0 a ha);have tp:=M.get (R.pa a ha 2 (by decide)) (R.a2 a ha);have u:=mx M R ha op st;have hL:K.ev.length<LIM:=by unfold LIM;omega
 have hP:(dI (K.A a).pu).length<LIM:=by unfold LIM dI;rw[Q9];have:=(W.pu a ha).1;omega
 have M1:=M.set (R.pa a ha 2 (by decide)) (.dic (dI (fZ (K.A a).pu b v)));have R1:=R.ap (a:=a) (fZ (K.A a).pu b v);have s0:=M1.get (R1.pk 0 (by decide)) R1.c0;have s4:=M1.get (R1.pk 4 (by decide)) R1.c4;refine⟨(_,_),?_,rfl,pos,_,q,M1.set (R1.pk 4 (by decide)) (.lst (K.ev++[.tup [.str "put",.int a,.int b,.int v]])),R1.ev _,(Fm.refl.ua a 2).uk 4⟩;unfold uz;rw[ON];rwa[iX,t0,u,tr,tp,hP,if_true,zF,s0,s4,Kc.up,fO hL]
end
def Am:∀l:List (Int×Int),nU (dI l)=some (l.map (·.1))
 |[]=>rfl
 |e::r=>by
  show(nU (dI r)).map (e.1::·)=_;rw[Am r];rfl
def vV{l:List (Int×Int)}{b d:Int}(h:d≠b):bC (jJ l b) d=bC l d:=by
 unfold bC jJ;induction l with
 |nil=>rfl
 |cons e r ih=>
  rw[List.filter_cons];by_cases z:e.1=b;rw[XQ (by simpa using z),ZX,show decide (e.1=d)=false from XZ (by rw[z];exact Ne.symm h)];exact ih;rw[X9 (by simpa using z),ZX,ZX];cases decide (e.1=d);exact ih;rfl
section
variable{q:Int->Nat->Nat}
def rG(cA:Cl):Fn:=fnU 2 2 (gS cA)
def Dr{S:Sto}{tk:Int}(hns:cA.ns.length=6):fU cA (rG cA) [.int tk] S=some (.ref S.length,S++[.ins cA [uI tk,some (.ref (S.length+1)),some (.ref (S.length+2)),some .non,some (.ref (S.length+3)),some (.bl true)],.dic [],.dic [],.lst []]):=by
 rw[rR,hns];unfold rG;rw[kq];have l1:∀o:O,(S++[o]).length=S.length+1:=fun o=>by rw[QH];rfl
 have l2:∀o o':O,(S++[o,o']).length=S.length+2:=fun o o'=>by rw[QH];rfl
 have l3:∀o o' o2:O,(S++[o,o',o2]).length=S.length+3:=fun o o' o2=>by rw[QH];rfl
 rwa[gS,QX,l1,l2,l3]
def a0(g:Int):Ac:=⟨g,[],[],none,[],true⟩
def cM(K:Kc)(a:Int):Kc:={ K with ids:=K.ids++[a],A:=fun x=>if x=a then a0 K.tk else K.A x,ev:=K.ev++[.tup [.str "begin",.int a]] }
def vH(cK cA:Cl):Fn:=fnU 2 2 (gR (rG cA) cK cA)
def Ei(hns:cA.ns.length=6)(M:Mm pos c T)(R:Kr cK cA j pos c K p q)(ha:a∉K.ids)(hi:K.ids.length<=9000)(hl:K.ev.length<=9000):Wp (vH cK cA [.ref (p 0),.int a] T) fun r=>r.1=.non/\Nx cK cA j pos c p (cM K a) r.2:=by
 have t0:=M.get (R.pk 0 (by decide)) R.c0;have t5:=M.get (R.pk 5 (by decide)) R.c5;have v:=oX (q:=q) ha;have mk:=Dr (cA:=cA) (S:=T) (tk:=K.tk) hns;generalize ho0:O.ins cA [uI K.tk,uR (T.length+1),uR (T.length+2),some .non,uR (T.length+3),some (.bl true)]=o0 at mk;have N1:=M.new (.a j a 0) o0 [];have N2:=N1.new (.a j a 1) (.dic []) [];have N3:=N2.new (.a j a 2) (.dic []) [];have N4:=N3.new (.a j a 3) (.lst []) [];have z1:(T++[o0]).length=T.length+1:=by simp
 have z2:(T++[o0]++[O.dic []]).length=T.length+2:=by simp
 have z3:(T++[o0]++[O.dic []]++[O.dic []]).length=T.length+3:=by simp
 rw[z1,z2,z3]at N4;have eT:T++[o0]++[O.dic []]++[O.dic []]++[O.lst []]=T++[o0,.dic [],.dic [],.lst []]:=by simp
 rw[eT]at N4;generalize hpos:eD (eD (eD (eD pos (.a j a 0) T.length) (.a j a 1) (T.length+1)) (.a j a 2) (T.length+2)) (.a j a 3) (T.length+3)=pos4 at N4;generalize hcc:aE (aE (aE (aE c (.a j a 0) o0) (.a j a 1) (.dic [])) (.a j a 2) (.dic [])) (.a j a 3) (.lst [])=c4 at N4;have pk:∀f,pos4 (.k j f)=pos (.k j f):=fun f=>by rw[<-hpos];simp[eD]
 have pb:∀x,x≠a->∀f,pos4 (.a j x f)=pos (.a j x f):=fun x hx f=>by rw[<-hpos];simp[eD,hx]
 have ck:∀f,c4 (.k j f)=c (.k j f):=fun f=>by rw[<-hcc];simp[aE]
 have cb:∀x,x≠a->∀f,c4 (.a j x f)=c (.a j x f):=fun x hx f=>by rw[<-hcc];simp[aE,hx]
 have ne:∀x∈K.ids,x≠a:=fun x hx e=>ha (by rw[<-e];exact hx);have N5:=N4.set (s:=.k j 5) (p:=p 5) (by rw[pk];exact R.pk 5 (by decide)) (.dic (fZ (K.ids.map fun a=>((.inl a:Key),U.ref (q a 0))) (.inl a) (.ref T.length)));have N6:=N5.set (s:=.k j 4) (p:=p 4) (by rw[pk];exact R.pk 4 (by decide)) (.lst (K.ev++[.tup [.str "begin",.int a]]));have ep:fZ (K.ids.map fun a=>((.inl a:Key),U.ref (q a 0))) (.inl a) (.ref T.length)=K.ids.map (fun a=>((.inl a:Key),U.ref (q a 0)))++[(.inl a,.ref T.length)]:=CK fun h=>by
  rw[ZG]at h;obtain⟨x,hx,e⟩:=ZV.mp h;exact ne x hx (Sum.inl.inj e)
 have s0:=N4.get (s:=.k j 0) (p:=p 0) (by rw[pk];exact R.pk 0 (by decide)) ((ck 0).trans R.c0);have s5:=N4.get (s:=.k j 5) (p:=p 5) (by rw[pk];exact R.pk 5 (by decide)) ((ck 5).trans R.c5);have w0:=N5.get (s:=.k j 0) (p:=p 0) (by rw[pk];exact R.pk 0 (by decide)) (((aq (by simp)).trans (ck 0)).trans R.c0);have w4:=N5.get (s:=.k j 4) (p:=p 4) (by rw[pk];exact R.pk 4 (by decide)) (((aq (by simp)).trans (ck 4)).trans R.c4);have hL:K.ev.length<LIM:=by unfold LIM;omega
 have hK:(K.ids.map fun a=>((.inl a:Key),U.ref (q a 0))).length<LIM:=by unfold LIM;rw[Q9];omega
 refine⟨(.non,_),?_,rfl,pos4,_,fun x f=>if x=a then T.length+f else q x f,N6,⟨fun f hf=>by rw[pk];exact R.pk f hf,?_,?_,?_,?_,?_,?_,fun x hx f hf=>?_,fun x hx=>?_,fun x hx=>?_,fun x hx=>?_,fun x hx=>?_⟩,fun s hs=>?_⟩;unfold vH;rw[kq];rwa[gR,t0,t5,v,Option.isSome_none,Zt,if_false,mk,s0,s5,hK,if_true,w0,w4,fO hL];rw[aq (by simp),aq (by simp),ck];exact R.c0;rw[aq (by simp),aq (by simp),ck];exact R.c1;rw[aq (by simp),aq (by simp),ck];exact R.c2;rw[aq (by simp),aq (by simp),ck];exact R.c3;rw[aJ];rfl;rw[aq (by simp),aJ,ep];show _=O.dic ((K.ids++[a]).map _);rw[Zg];congr 2;exact Zb fun x hx=>by rw[XQ (ne x hx)]
 simp;rcases Z6.mp hx with hx|hx;rw[pb x (ne x hx),XQ (ne x hx)];exact R.pa x hx f hf;rw[Qu.mp hx,X9 rfl,<-hpos];match f,hf with
 |0,_=>simp[eD]
 |1,_=>simp[eD]
 |2,_=>simp[eD]
 |3,_=>simp[eD]
 rw[aq (by simp),aq (by simp)];rcases Z6.mp hx with hx|hx;have:=R.a0 x hx;rw[cb x (ne x hx)];simpa [cM,ne x hx] using this;rw[Qu.mp hx,<-hcc];simp[aE,cM,a0,stU,<-ho0];rw[aq (by simp),aq (by simp)];rcases Z6.mp hx with hx|hx;have:=R.a1 x hx;rw[cb x (ne x hx)];simpa [cM,ne x hx] using this;rw[Qu.mp hx,<-hcc];simp[aE,cM,a0,dT];rw[aq (by simp),aq (by simp)];rcases Z6.mp hx with hx|hx;have:=R.a2 x hx;rw[cb x (ne x hx)];simpa [cM,ne x hx] using this;rw[Qu.mp hx,<-hcc];simp[aE,cM,a0,dI];rw[aq (by simp),aq (by simp)];rcases Z6.mp hx with hx|hx;have:=R.a3 x hx;rw[cb x (ne x hx)];simpa [cM,ne x hx] using this;rw[Qu.mp hx,<-hcc];simp[aE,cM,a0];rw[<-hpos,<-hcc];cases s with
 |k i f=>have:i≠j:=hs;simp[eD,aE,this]
 |a i x f=>have:i≠j:=hs;simp[eD,aE,this]
 |x m i=>simp[eD,aE]
end
def qq{κ α:Type}[DecidableEq κ](l:List (κ×α))(k:κ)(v:α):(fZ l k v).length<=l.length+1:=by
 unfold fZ;split;rw[Q9];omega;simp
def hold(a:Int)(bs:List Int)(ho:List (Int×Int)):List (Int×Int):=bs.foldl (fun h b=>fZ h b a) ho
def eG(bs:List Int)(ho:List (Int×Int)):List (Int×Int):=bs.foldl (fun h b=>jJ h b) ho
section
variable{q:Int->Nat->Nat}
def rE(cK cA:Cl):Fn:=fnU 4 2 (iE (iI cK cA) (jw cK cA) (cE cK) (rN cK cA) cK cA)
def tkB(cK cA:Cl):CS:=ej (iI cK cA) (jw cK cA) (cE cK) (rN cK cA) cK cA
def tF(ha:a∈K.ids){r2:Option U}:∀(bs:List Int) (ho:List (Int×Int)) (c:Pl->O) (T:Sto) (r3:Option U),Mm pos c T->Kr cK cA j pos c { K with ho:=ho } p q->ho.length+bs.length<=90000->
  ∃r3' c' T',eY (fun S=>S[q a 3]?=some (.lst ((K.A a).un.map U.int))) (gNm 3) (tkB cK cA) (bs.map U.int) [uR (p 0),uI a,r2,r3] T=some (.nx,[uR (p 0),uI a,r2,r3'],T')/\Mm pos c' T'/\Kr cK cA j pos c' { K with ho:=hold a bs ho } p q/\Fm j pos c pos c'
 |[],ho,c,T,r3,M,R,_=>⟨r3,c,T,jd (M.get (R.pa a ha 3 (by decide)) (R.a3 a ha)),M,R,Fm.refl⟩
 |b::bs,ho,c,T,r3,M,R,hn=>by
  rw[QK]at hn;have t0:=M.get (R.pk 0 (by decide)) R.c0;have t3:=M.get (R.pk 3 (by decide)) R.c3;have hL:(dI ho).length<LIM:=by unfold LIM dI;rw[Q9];omega
  have M1:=M.set (R.pk 3 (by decide)) (.dic (dI (fZ ho b a)));have R1:=R.ho (fZ ho b a);have:=qq ho b a;obtain⟨r3',c',T',e,M2,R2,F2⟩:=tF ha bs (fZ ho b a) _ _ (uI b) M1 R1 (by omega);refine⟨r3',c',T',(kF (M.get (R.pa a ha 3 (by decide)) (R.a3 a ha)) rfl ?_).trans e,M2,R2,(Fm.refl.uk 3).trans F2⟩;rwa[tkB,ej,t0,t3,hL,if_true,zF]
def bR(K:Kc)(a:Int):Str×Kc:=
 if (K.A a).pu=[]then("done",K.end a "done")else
 if (brd K a (K.A a).lk||(brd K a ((K.A a).pu.map (·.1))||HF K a))=true then("falls",K.end a "fall")else
 ("taken",{ K.up a { K.A a with st:=some (K.tk+1),un:=bI ((K.A a).pu.map (·.1)) } with tk:=K.tk+1,ho:=hold a (bI ((K.A a).pu.map (·.1))) K.ho })
def Dz(M:Mm pos c T)(R:Kr cK cA j pos c K p q)(W:Kw K n)(ha:a∈K.ids)(op:(K.A a).op=true)(st:(K.A a).st=none)(hl:K.ev.length<=9000)(hh:K.ho.length<=80000):Wp (rE cK cA [.ref (p 0),.int a] T) fun r=>r.1=.str (bR K a).1/\Nx cK cA j pos c p (bR K a).2 r.2:=by
 have t0:=M.get (R.pk 0 (by decide)) R.c0;have tr:=M.get (R.pa a ha 0 (by decide)) (R.a0 a ha);have tp:=M.get (R.pa a ha 2 (by decide)) (R.a2 a ha);have u:=mx M R ha op st;have pl:=(W.pu a ha).1;have ln:(dI (K.A a).pu).length=(K.A a).pu.length:=by unfold dI;rw[Q9]
 rw[st]at tr;have h1:∀{d:CS},aV (dF 2 (aM cK (iI cK cA) (ah 0) (ag (ah 1) ay))) d [uR (p 0),uI a,none,none] T=d [uR (p 0),uI a,uR (q a 0),none] T:=fun{d}=>fY (by rwa[t0,u]);unfold rE bR;rw[OO];unfold iE;rw[h1];by_cases hp:(K.A a).pu=[];rw[X9 hp];obtain⟨⟨u1,T1⟩,e2,rfl,N⟩:=nV (w:="done") M R ha hl;refine⟨(_,_),?_,rfl,N⟩;have z:decide ((((dI (K.A a).pu).length:Nat):Int)=0)=true:=by rw[ln,hp];rfl
 rwa[tr,tp,z,t0,e2];rw[XQ hp];have z:decide ((((dI (K.A a).pu).length:Nat):Int)=0)=false:=XZ (by rw[ln];have:=List.length_pos_iff.mpr hp;omega);rw[fY (ρ':=[uR (p 0),uI a,uR (q a 0),none]) (S':=T) (by rwa[tr,tp,z])];obtain⟨X1,e1⟩:=vB (a:=a) (xs:=(K.A a).lk) (kf:=fun b=>b) (vf:=fun _=>.bl true) M R (R.pa a ha 1 (by decide)) (R.a1 a ha) (by simp) (by simp) (W.lk a ha).1;rw[List.map_id']at e1;obtain⟨X2,e2⟩:=vB (a:=a) (xs:=(K.A a).pu) (kf:=fun e=>e.1) (vf:=fun e=>.int e.2) (M.app X1) R (R.pa a ha 2 (by decide)) (R.a2 a ha) (by simp) (by simp) (by omega);obtain⟨X3,e3⟩:=Bh ((M.app X1).app X2) R W ha;simp only[Qw]at e2 e3;have g0:∀Y,(T++Y)[p 0]?=_:=fun Y=>aC t0;have gr:∀Y,(T++Y)[q a 0]?=_:=fun Y=>aC tr;have tst:∃Y,(cOr (aR (aM cK (cE cK) (ah 0) (ag (ah 1) (ag (aS cA 1 (ah 2)) ay)))) (cOr (aR (aM cK (cE cK) (ah 0) (ag (ah 1) (ag (aS cA 2 (ah 2)) ay)))) (aR (aM cK (rN cK cA) (ah 0) (ag (ah 1) ay))))) [uR (p 0),uI a,uR (q a 0),none] T=some ((brd K a (K.A a).lk||(brd K a ((K.A a).pu.map (·.1))||HF K a)),T++Y):=by
  cases b1:brd K a (K.A a).lk with
  |true=>rw[b1]at e1;exact⟨X1,by rwa[t0,tr,e1,Bool.true_or]⟩
  |false=>
   rw[b1]at e1;cases b2:brd K a ((K.A a).pu.map (·.1))with
   |true=>rw[b2]at e2;exact⟨X1++X2,by rwa[t0,tr,e1,g0,gr,e2,Bool.false_or,Bool.true_or]⟩
   |false=>rw[b2]at e2;exact⟨X1++(X2++X3),by rwa[t0,tr,e1,g0,gr,e2,e3,Bool.false_or]⟩
 obtain⟨Y,et⟩:=tst;have M1:=M.app Y;have s0:=M1.get (R.pk 0 (by decide)) R.c0;cases hb:(brd K a (K.A a).lk||(brd K a ((K.A a).pu.map (·.1))||HF K a))with
 |true=>
  rw[X9 rfl];rw[hb]at et;obtain⟨⟨u1,T1⟩,e4,rfl,N⟩:=nV (w:="fall") M1 R ha hl;refine⟨(_,_),?_,rfl,N⟩;have ei:∀{c1 c2:CS},dQ (cOr (aR (aM cK (cE cK) (ah 0) (ag (ah 1) (ag (aS cA 1 (ah 2)) ay)))) (cOr (aR (aM cK (cE cK) (ah 0) (ag (ah 1) (ag (aS cA 2 (ah 2)) ay)))) (aR (aM cK (rN cK cA) (ah 0) (ag (ah 1) ay))))) c1 c2 [uR (p 0),uI a,uR (q a 0),none] T=c1 [uR (p 0),uI a,uR (q a 0),none] (T++Y):=fun{c1 c2}=>by rw[xv,et];rfl
  rw[xq,ei];rwa[s0,e4]
 |false=>
  rw[XQ QZ];rw[hb]at et;rw[fY (ρ':=[uR (p 0),uI a,uR (q a 0),none]) (S':=T++Y) (by rw[xv,et];rfl)];have M2:=M1.set (R.pk 0 (by decide)) (kO cK p (K.tk+1));have R2:=R.tk (K.tk+1);have s1:=M2.get (R2.pk 0 (by decide)) R2.c0;have s2:=M2.get (R2.pa a ha 0 (by decide)) (R2.a0 a ha);have M3:=M2.set (R2.pa a ha 0 (by decide)) (aO cA (q a) ((K.A a).g) (stU (some (K.tk+1))) (q a 3) ((K.A a).op));have R3:=R2.ao (a:=a) (K.A a).g (some (K.tk+1)) (K.A a).op;have w2:=M3.get (R3.pa a ha 0 (by decide)) (R3.a0 a ha);have wp:=M3.get (R3.pa a ha 2 (by decide)) (R3.a2 a ha);rw[kE]at w2 wp;generalize hT3:((T++Y).set (p 0) (kO cK p (K.tk+1))).set (q a 0) (aO cA (q a) ((K.A a).g) (stU (some (K.tk+1))) (q a 3) ((K.A a).op))=T3 at M3 w2 wp;have st':stU (K.A a).st=.non:=by rw[st];rfl
  rw[fY (ρ':=[uR (p 0),uI a,uR (q a 0),none]) (S':=(T++Y).set (p 0) (kO cK p (K.tk+1))) (by rwa[s0])];rw[fY (ρ':=[uR (p 0),uI a,uR (q a 0),none]) (S':=T3) (by rw[<-hT3];rwa[s1,s2,stU])];have es:iW [.ref (q a 2)] T3=some (.ref T3.length,T3++[.lst ((bI ((K.A a).pu.map (·.1))).map U.int)]):=by
   have hlt:((K.A a).pu.map (·.1)).length<64:=by rw[Q9];exact pl
   simp only[iW,wp,Am,Q8,hlt,if_true]
  have M4:=M3.new (.a j a 3) (.lst ((bI ((K.A a).pu.map (·.1))).map U.int)) [];have R4:Kr cK cA j (eD pos (.a j a 3) T3.length) (aE (aE (aE c (.k j 0) (kO cK p (K.tk+1))) (.a j a 3) (.lst ((bI ((K.A a).pu.map (·.1))).map U.int))) (.a j a 0) (aO cA (q a) ((K.A a).g) (stU (some (K.tk+1))) T3.length ((K.A a).op))) { K.up a { K.A a with st:=some (K.tk+1),un:=bI ((K.A a).pu.map (·.1)) } with tk:=K.tk+1 } p (fun x f=>if x=a/\f=3 then T3.length else q x f):=by
   refine⟨fun f hf=>by simpa [eD] using R.pk f hf,by simp[aE,Kc.up],by simpa [aE,Kc.up] using R.c1,by simpa [aE,Kc.up] using R.c2,by simpa [aE,Kc.up] using R.c3,by simpa [aE,Kc.up] using R.c4,by simpa [aE,Kc.up] using R.c5,fun x hx f hf=>?_,fun x hx=>?_,fun x hx=>?_,fun x hx=>?_,fun x hx=>?_⟩;by_cases e:x=a/\f=3;obtain⟨rfl,rfl⟩:=e;simp[eD];have:=R.pa x hx f hf;rw[aK (fun z=>by cases z;exact e ⟨rfl,rfl⟩),XQ e];exact this;by_cases e:x=a;subst e;simp[aE,Kc.up];have:=R.a0 x hx;simpa [aE,Kc.up,e] using this;have:=R.a1 x hx;by_cases e:x=a;subst e;simpa [aE,Kc.up] using this;simpa [aE,Kc.up,e] using this;have:=R.a2 x hx;by_cases e:x=a;subst e;simpa [aE,Kc.up] using this;simpa [aE,Kc.up,e] using this;have:=R.a3 x hx;by_cases e:x=a;subst e;simp[aE,Kc.up];simpa [aE,Kc.up,e] using this
  have w4:=M4.get (s:=.a j a 0) (p:=q a 0) (by rw[aK (by simp)];exact R.pa a ha 0 (by decide)) ((aq (by simp)).trans aJ);have M5:=M4.set (s:=.a j a 0) (p:=q a 0) (by rw[aK (by simp)];exact R.pa a ha 0 (by decide)) (aO cA (q a) ((K.A a).g) (stU (some (K.tk+1))) T3.length ((K.A a).op));have ec:aE (aE (aE (aE c (.k j 0) (kO cK p (K.tk+1))) (.a j a 0) (aO cA (q a) ((K.A a).g) (stU (some (K.tk+1))) (q a 3) ((K.A a).op))) (.a j a 3) (.lst ((bI ((K.A a).pu.map (·.1))).map U.int))) (.a j a 0) (aO cA (q a) ((K.A a).g) (stU (some (K.tk+1))) T3.length ((K.A a).op))=aE (aE (aE c (.k j 0) (kO cK p (K.tk+1))) (.a j a 3) (.lst ((bI ((K.A a).pu.map (·.1))).map U.int))) (.a j a 0) (aO cA (q a) ((K.A a).g) (stU (some (K.tk+1))) T3.length ((K.A a).op)):=by
   funext s;by_cases e:s=.a j a 0;subst e;rw[aJ,aJ];rw[aq e,aq e];by_cases e2:s=.a j a 3;subst e2;rw[aJ,aJ];rw[aq e2,aq e2,aq e]
  rw[ec]at M5;rw[fY (ρ':=[uR (p 0),uI a,uR (q a 0),none]) (S':=(T3++[O.lst ((bI ((K.A a).pu.map (·.1))).map U.int)]).set (q a 0) (aO cA (q a) ((K.A a).g) (stU (some (K.tk+1))) T3.length ((K.A a).op))) (by rwa[w2,es,w4])];generalize hT5:(T3++[O.lst ((bI ((K.A a).pu.map (·.1))).map U.int)]).set (q a 0) (aO cA (q a) ((K.A a).g) (stU (some (K.tk+1))) T3.length ((K.A a).op))=T5 at M5;obtain⟨r3',c',T',el,M6,R6,F6⟩:=tF (K:={ K.up a { K.A a with st:=some (K.tk+1),un:=bI ((K.A a).pu.map (·.1)) } with tk:=K.tk+1 }) (a:=a) (r2:=(uR (q a 0))) ha (bI ((K.A a).pu.map (·.1))) K.ho _ T5 none M5 R4 (by rw[(gX _).length_eq,Q9];omega);have v0:=M5.get (R4.pa a ha 0 (by decide)) (R4.a0 a ha);have v3:=M5.get (R4.pa a ha 3 (by decide)) (R4.a3 a ha);have eA:({ K.up a { K.A a with st:=some (K.tk+1),un:=bI ((K.A a).pu.map (·.1)) } with tk:=K.tk+1 }:Kc).A a={ K.A a with st:=some (K.tk+1),un:=bI ((K.A a).pu.map (·.1)) }:=X9 rfl;rw[eA]at v0 v3 el;have q3:(if a=a/\3=3 then T3.length else q a 3)=T3.length:=X9 ⟨rfl,rfl⟩;have q0:(if a=a/\0=3 then T3.length else q a 0)=q a 0:=XQ (by simp);have q1:(if a=a/\1=3 then T3.length else q a 1)=q a 1:=XQ (by simp);have q2:(if a=a/\2=3 then T3.length else q a 2)=q a 2:=XQ (by simp);dsimp only[aO]at v0 v3 el;rw[q3]at v0 v3 el;rw[q0,q1,q2]at v0;have hit:iTp (aS cA 4 (ah 2)) [uR (p 0),uI a,uR (q a 0),none] T5=some ((bI ((K.A a).pu.map (·.1))).map U.int,fun S=>S[T3.length]?=some (.lst ((bI ((K.A a).pu.map (·.1))).map U.int)),T5):=tD (by rwa[v0]) v3;refine⟨(_,T'),?_,rfl,_,_,_,M6,R6,?_⟩;have ef:oV (iTp (aS cA 4 (ah 2))) (gNm 3) (ej (iI cK cA) (jw cK cA) (cE cK) (rN cK cA) cK cA) [uR (p 0),uI a,uR (q a 0),none] T5=some (.nx,[uR (p 0),uI a,uR (q a 0),r3'],T'):=by
   unfold oV;rw[hit];exact el
  rw[fY ef];rfl;exact(((((Fm.refl (j:=j) (pos:=pos) (c:=c)).uk 0).ua a 3).ua a 0).pn (s:=.a j a 3) rfl).trans F6
end
def nE{T:Sto}{p:Nat}{o:O}(h:T[p]?=some o):T.set p o=T:=by
 refine List.ext_getElem? fun i=>?_;rw[ZR];split;rename_i e;subst e;rw[X9 (Q4.mp h).1,h];rfl
section
variable{q:Int->Nat->Nat}
def rD(cK cA:Cl):Fn:=fnU 5 2 (gO (lh cK cA) (jw cK cA) cK cA)
def wrB(cK cA:Cl):CS:=fe (lh cK cA) (jw cK cA) cK cA
def FL{l:Nat}{S:Sto}{ho:List (Int×Int)}{v:Int}{co ck:CE}{ρ:Rho}(h1:co ρ S=some (.ref l,S))(h2:ck ρ S=some (.int b,S))(hl:S[l]?=some (.dic (dI ho)))(hv:bC ho b=some v):Bo co ck ρ S=some (.int v,S.set l (.dic (dI (jJ ho b)))):=by
 unfold Bo;rw[h1,Q8];simp only[hl,h2,Q8,H0,oG,jS,hv,Zj,Ig]
def Hy:List Int->Option U->Option U
 |[],r=>r
 |b::bs,_=>Hy bs (uI b)
def t8{k0 k3:Nat}{ok:Sto->Prop}{r1 r2 r3:Option U}{fs:List (Option U)}(hf:fs[2]?=some (uR k3))(n0:k0≠k3)(hok:∀Y x,ok Y->ok (Y.set k3 x)):∀(bs:List Int) (ho:List (Int×Int)) (Y:Sto) (r4:Option U),ok Y->Y[k0]?=some (.ins cK fs)->Y[k3]?=some (.dic (dI ho))->bs.Nodup->(∀b∈bs,(bC ho b).isSome=true)->
  eY ok (gNm 4) (wrB cK cA) (bs.map U.int) [uR k0,r1,r2,r3,r4] Y=some (.nx,[uR k0,r1,r2,r3,Hy bs r4],Y.set k3 (.dic (dI (eG bs ho))))
 |[],ho,Y,r4,hy,h0,h3,_,_=>by rw[show eG [] ho=ho from rfl,nE h3];exact jd hy
 |b::bs,ho,Y,r4,hy,h0,h3,nd,hv=>by
  obtain⟨v,ev⟩:=ZF.mp (hv b QN);have lt:=(Q4.mp h3).1;obtain⟨nb,nd'⟩:=Zs.mp nd;have ih:=t8 (r1:=r1) (r2:=r2) (r3:=r3) hf n0 hok bs (jJ ho b) (Y.set k3 (.dic (dI (jJ ho b)))) (uI b) (hok _ _ hy) (by rw[Qt n0.symm];exact h0) (by rw[ZR,X9 rfl,X9 lt]) nd' (fun d hd=>by rw[vV (fun e=>nb (by rw[<-e];exact hd))];exact hv d (QY _ hd));rw[ZL]at ih;refine(kF hy rfl ?_).trans ih;have F:IG cK 2 (.ref k0,Y)=some (.ref k3,Y):=Ez h0 hf;have e1:=FL (co:=aS cK 2 (ah 0)) (ck:=ah 4) (ρ:=[uR k0,r1,r2,r3,uI b]) (S:=Y) (by rwa[F]) rfl h3 ev;show(b8 (Bo (aS cK 2 (ah 0)) (ah 4))) [uR k0,r1,r2,r3,uI b] Y=_;rwa[e1]
def bJ(K:Kc)(a:Int):Str×Kc:=match (K.A a).un with
 |[]=>("",K)
 |b::r=>
  let K':Kc:={ K.up a { K.A a with un:=r } with bx:=K.bx.set b.toNat ((bC (K.A a).pu b).getD 0),ma:=K.ma.set b.toNat ((K.A a).st.getD 0) }
  if r=[]then("done",Kc.end { K' with ho:=eG ((K.A a).pu.map (·.1)) K.ho } a "done")else("written",K')
def BY{st:Int}{r:List Int}(M:Mm pos c T)(R:Kr cK cA j pos c K p q)(W:Kw K n)(ha:a∈K.ids)(op:(K.A a).op=true)(hst:(K.A a).st=some st)(hun:(K.A a).un=b::r)(b0:0<=b)(b1:b<n)(hb:(bC (K.A a).pu b).isSome=true)(hr:r.length<=900)
  (hh:r=[]->∀d∈(K.A a).pu.map (·.1),(bC K.ho d).isSome=true) (hl:K.ev.length<=9000):Wp (rD cK cA [.ref (p 0),.int a] T) fun s=>s.1=.str (bJ K a).1/\Nx cK cA j pos c p (bJ K a).2 s.2:=by
 obtain⟨v,hv⟩:=ZF.mp hb;have t0:=M.get (R.pk 0 (by decide)) R.c0;have tr:=M.get (R.pa a ha 0 (by decide)) (R.a0 a ha);have tu:=M.get (R.pa a ha 3 (by decide)) (R.a3 a ha);have f:=wR M R ha op;rw[hst]at tr;rw[hun,QU]at tu;have M1:=M.set (R.pa a ha 3 (by decide)) (.lst (r.map U.int));have R1:=R.au (a:=a) r;have s0:=M1.get (R1.pk 0 (by decide)) R1.c0;have s1:=M1.get (R1.pk 1 (by decide)) R1.c1;have sr:=M1.get (R1.pa a ha 0 (by decide)) (R1.a0 a ha);have sp:=M1.get (R1.pa a ha 2 (by decide)) (R1.a2 a ha);rw[kE]at sr sp;dsimp only at sr;rw[hst]at sr;have M2:=M1.set (R1.pk 1 (by decide)) (.lst ((K.bx.set b.toNat v).map U.int));have R2:=R1.bx (K.bx.set b.toNat v);have u0:=M2.get (R2.pk 0 (by decide)) R2.c0;have u2:=M2.get (R2.pk 2 (by decide)) R2.c2;have ur:=M2.get (R2.pa a ha 0 (by decide)) (R2.a0 a ha);have e2:({ K.up a { K.A a with un:=r } with bx:=K.bx.set b.toNat v }:Kc).A a={ K.A a with un:=r }:=X9 rfl;rw[e2]at ur;dsimp only at ur;rw[hst]at ur;have M3:=M2.set (R2.pk 2 (by decide)) (.lst ((K.ma.set b.toNat st).map U.int));have R3:=R2.ma (K.ma.set b.toNat st);have w0:=M3.get (R3.pk 0 (by decide)) R3.c0;have wr:=M3.get (R3.pa a ha 0 (by decide)) (R3.a0 a ha);have wu:=M3.get (R3.pa a ha 3 (by decide)) (R3.a3 a ha);have wq:=M3.get (R3.pa a ha 2 (by decide)) (R3.a2 a ha);have w3:=M3.get (R3.pk 3 (by decide)) R3.c3;have e3:({ K.up a { K.A a with un:=r } with bx:=K.bx.set b.toNat v,ma:=K.ma.set b.toNat st }:Kc).A a={ K.A a with un:=r }:=X9 rfl;rw[e3]at wr wu wq;dsimp only at wr wu wq w3;have hL1:(U.int b::r.map U.int).length<=LIM:=by unfold LIM;simp;omega
 have er:(U.int b::r.map U.int).eraseIdx (Int.toNat 0)=r.map U.int:=rfl;have i1:=Py (xs:=K.bx) b0 (by rw[W.lb];exact b1);have i2:=Py (xs:=K.ma) b0 (by rw[W.lm];exact b1);have m1:∀(xs:List Int) (v:Int) (i:Nat),(xs.map U.int).set i (.int v)=(xs.set i v).map U.int:=fun xs v i=>by rw[List.map_set]
 have em:bJ K a=if r=[]then(("done":Str),Kc.end { ({ K.up a { K.A a with un:=r } with bx:=K.bx.set b.toNat v,ma:=K.ma.set b.toNat st }:Kc)with ho:=eG ((K.A a).pu.map (·.1)) K.ho } a "done")else(("written":Str),({ K.up a { K.A a with un:=r } with bx:=K.bx.set b.toNat v,ma:=K.ma.set b.toNat st }:Kc)):=by
  unfold bJ;rw[hun];dsimp only;rw[hv,hst];rfl
 rw[em];unfold rD;rw[LP];unfold gO;rw[fY (ρ':=[uR (p 0),uI a,uR (q a 0),none,none]) (S':=T) (by rwa[t0,f])];rw[fY (ρ':=[uR (p 0),uI a,uR (q a 0),none,none]) (S':=T) (by rwa[tr,stU,rS,AB])];rw[fY (ρ':=[uR (p 0),uI a,uR (q a 0),uI b,none]) (S':=T.set (q a 3) (.lst (r.map U.int))) (by rwa[tr,tu,FD,BX (Zi 0) (by simp) hL1 rfl,er])];rw[fY (ρ':=[uR (p 0),uI a,uR (q a 0),uI b,none]) (S':=(T.set (q a 3) (.lst (r.map U.int))).set (p 1) (.lst ((K.bx.set b.toNat v).map U.int))) (by rwa[sr,sp,jS,hv,Zj,s0,s1,Kc.up,i1,m1])];rw[fY (ρ':=[uR (p 0),uI a,uR (q a 0),uI b,none]) (S':=((T.set (q a 3) (.lst (r.map U.int))).set (p 1) (.lst ((K.bx.set b.toNat v).map U.int))).set (p 2) (.lst ((K.ma.set b.toNat st).map U.int))) (by rwa[ur,u0,u2,stU,Kc.up,i2,m1])];generalize hT3:((T.set (q a 3) (.lst (r.map U.int))).set (p 1) (.lst ((K.bx.set b.toNat v).map U.int))).set (p 2) (.lst ((K.ma.set b.toNat st).map U.int))=T3 at *;by_cases h:r=[];rw[X9 h];subst h;have z:decide (0<((0:Nat):Int))=false:=rfl;rw[fY (ρ':=[uR (p 0),uI a,uR (q a 0),uI b,none]) (S':=T3) (by rwa[wr,wu,Zv,Zk,z])];have M4:=M3.set (R3.pk 3 (by decide)) (.dic (dI (eG ((K.A a).pu.map (·.1)) K.ho)));have R4:=R3.ho (eG ((K.A a).pu.map (·.1)) K.ho);have n3:p 0≠p 3:=fun e=>by have:=M3.inj (.k j 0) (.k j 3) (p 0) (R3.pk 0 (by decide)) (by rw[e];exact R3.pk 3 (by decide));simp at this
 have n2:q a 2≠p 3:=fun e=>by have:=M3.inj (.a j a 2) (.k j 3) (q a 2) (R3.pa a ha 2 (by decide)) (by rw[e];exact R3.pk 3 (by decide));simp at this
 have n02:q a 2≠p 0:=fun e=>by have:=M3.inj (.a j a 2) (.k j 0) (q a 2) (R3.pa a ha 2 (by decide)) (by rw[e];exact R3.pk 0 (by decide));simp at this
 have lq:q a 2<T3.length:=(Q4.mp wq).1;have eh:Bn (aS cA 2 (ah 2)) (gNm 4) (fe (lh cK cA) (jw cK cA) cK cA) [uR (p 0),uI a,uR (q a 0),uI b,none] T3=some (.nx,[uR (p 0),uI a,uR (q a 0),uI b,Hy ((K.A a).pu.map (·.1)) none],T3.set (p 3) (.dic (dI (eG ((K.A a).pu.map (·.1)) K.ho)))):=by
  have hi:aS cA 2 (ah 2) [uR (p 0),uI a,uR (q a 0),uI b,none] T3=some (.ref (q a 2),T3):=by rwa[wr]
  have ek:((dI (K.A a).pu).map fun e=>kU e.1)=((K.A a).pu.map (·.1)).map U.int:=by unfold dI;rw[ZG,ZG];rfl
  unfold Bn;rw[hi,Q8];simp only[wq];refine EE fun ep=>?_;have key:=t8 (cK:=cK) (cA:=cA) (k0:=p 0) (k3:=p 3) (r1:=(uI a)) (r2:=(uR (q a 0))) (r3:=(uI b)) (ok:=fun S'=>S'[q a 2]?=some (.fdc ep (dI (K.A a).pu))) (fs:=[uR (p 1),uR (p 2),uR (p 3),uI K.tk,uR (p 4),uR (p 5)]) rfl n3 (fun Y x hy=>by rw[Qt n2.symm];exact hy) ((K.A a).pu.map (·.1)) K.ho (T3.set (q a 2) (.fdc ep (dI (K.A a).pu))) none (by rw[ZR,X9 rfl,X9 lq]) (by rw[Qt n02];exact w0) (by rw[Qt n2];exact w3) (W.pu a ha).2.1 (hh rfl);rw[ek];show Option.bind (eY _ _ (wrB cK cA) _ _ _) _=_;rw[key,Q8];have e1:((T3.set (q a 2) (.fdc ep (dI (K.A a).pu))).set (p 3) (.dic (dI (eG ((K.A a).pu.map (·.1)) K.ho))))[q a 2]?=some (.fdc ep (dI (K.A a).pu)):=by rw[Qt n2.symm,ZR,X9 rfl,X9 lq]
  have e2:((T3.set (q a 2) (.fdc ep (dI (K.A a).pu))).set (p 3) (.dic (dI (eG ((K.A a).pu.map (·.1)) K.ho)))).set (q a 2) (.dic (dI (K.A a).pu))=T3.set (p 3) (.dic (dI (eG ((K.A a).pu.map (·.1)) K.ho))):=by
   rw[List.set_comm _ _ n2,ZL];exact nE (by rw[Qt n2.symm];exact wq)
  simp only[e1,e2]
 rw[fY eh];obtain⟨⟨u1,T4⟩,e4,rfl,pos',c',q',M5,R5,F5⟩:=nV (w:="done") M4 R4 ha hl;have x0:=M4.get (R4.pk 0 (by decide)) R4.c0;refine⟨(_,T4),?_,rfl,pos',c',q',M5,R5,(((((Fm.refl (j:=j) (pos:=pos) (c:=c)).ua a 3).uk 1).uk 2).uk 3).trans F5⟩;rwa[x0,e4];rw[XQ h];have z:decide (0<((r.length:Nat):Int))=true:=XX (by have:=List.length_pos_iff.mpr h;omega);refine⟨(_,T3),?_,rfl,pos,_,q,M3,R3,((Fm.refl.ua a 3).uk 1).uk 2⟩;rwa[wr,wu,Q9,z]
end
section
variable{q:Int->Nat->Nat}{st:List Int}
def rH(cK:Cl):Fn:=fnU 3 3 (iF cK)
def AA(cK:Cl)(k1 k2 k3:Nat)(tk:Int)(k4 k5:Nat):O:=.ins cK [uR k1,uR k2,uR k3,uI tk,uR k4,uR k5]
def DD(cK:Cl)(N:Nat)(st:List Int):Sto:=[AA cK (N+1) (N+3) (N+4) 0 (N+5) (N+6),.lst (st.map U.int),.lst [.int 0],.lst ((QX st.length (0:Int)).map U.int),.dic [],.lst [],.dic []]
def Hs(hns:cK.ns.length=6)(hl:st.length<=900){x:U}:fU cK (rH cK) [x,.tup (st.map U.int)] T=some (.ref T.length,T++DD cK T.length st):=by
 rw[rR,hns];unfold rH;rw[t7];obtain⟨us,hus⟩:∃us,us=st.map U.int:=⟨_,rfl⟩;have lus:us.length=st.length:=by rw[hus,Q9]
 obtain⟨rs,hrs⟩:∃rs,rs=(QX st.length (0:Int)).map U.int:=⟨_,rfl⟩;unfold DD;rw[<-hus,<-hrs];have mul:∀o1 o2:O,n6 (.ref (T.length+2)) (.int us.length) (T++[o1,o2,.lst [.int 0]])=some (.ref (T.length+3),T++[o1,o2,.lst [.int 0],.lst rs]):=fun o1 o2=>by
  have g1:(T++[o1,o2,O.lst [U.int 0]])[T.length+2]?=some (.lst [.int 0]):=by rw[ga];rfl
  have g2:(0:Int)<=us.length/\(us.length:Int)<=100000/\[U.int 0].length*(us.length:Int).toNat<=LIM:=by
   refine⟨by omega,by omega,?_⟩;unfold LIM;rw[X0];omega
  simp only[n6,g1];rw[X9 g2,hrs,List.map_replicate,lus];simp only[Int.toNat_natCast,List.flatten_replicate_singleton,QH,QK,Zk,Qw,Zw,Zq]
 have l1:∀o:O,(T++[o]).length=T.length+1:=fun o=>by rw[QH];rfl
 have l2:∀o o':O,(T++[o,o']).length=T.length+2:=fun o o'=>by rw[QH];rfl
 have l4:∀o1 o2 o3 o4:O,(T++[o1,o2,o3,o4]).length=T.length+4:=fun o1 o2 o3 o4=>by rw[QH];rfl
 have l5:∀o1 o2 o3 o4 o5:O,(T++[o1,o2,o3,o4,o5]).length=T.length+5:=fun o1 o2 o3 o4 o5=>by rw[QH];rfl
 have l6:∀o1 o2 o3 o4 o5 o6:O,(T++[o1,o2,o3,o4,o5,o6]).length=T.length+6:=fun o1 o2 o3 o4 o5 o6=>by rw[QH];rfl
 rwa[iF,QX,l1,l2,l4,l5,l6,mul,AA]
def wI(st:List Int):Kc:=⟨st,QX st.length 0,[],0,[],[],fun _=>a0 0⟩
def BR(N f:Nat):Nat:=if f<2 then N+f else N+f+1
def K6(hns:cK.ns.length=6)(hl:st.length<=900){x:U}(M:Mm pos c T):Wp (fU cK (rH cK) [x,.tup (st.map U.int)] T) fun r=>r.1=.ref T.length/\∃pos' c',Mm pos' c' r.2/\Kr cK cA j pos' c' (wI st) (BR T.length) (fun _ _=>0)/\Fm j pos c pos' c':=by
 refine⟨(_,_),Hs hns hl,rfl,?_⟩;have M1:=M.new (.k j 0) (AA cK (T.length+1) (T.length+3) (T.length+4) 0 (T.length+5) (T.length+6)) [];have M2:=M1.new (.k j 1) (.lst (st.map U.int)) [.lst [.int 0]];have M3:=M2.new (.k j 2) (.lst ((QX st.length (0:Int)).map U.int)) [];have M4:=M3.new (.k j 3) (.dic []) [];have M5:=M4.new (.k j 4) (.lst []) [];have M6:=M5.new (.k j 5) (.dic []) [];have eT:T++[AA cK (T.length+1) (T.length+3) (T.length+4) 0 (T.length+5) (T.length+6)]++[O.lst (st.map U.int),O.lst [.int 0]]++[O.lst ((QX st.length (0:Int)).map U.int)]++[O.dic []]++[O.lst []]++[O.dic []]=T++DD cK T.length st:=by simp[DD]
 rw[eT]at M6;refine⟨_,_,M6,⟨fun f hf=>?_,?_,?_,?_,?_,?_,?_,fun a h=>(nomatch h),fun a h=>(nomatch h),fun a h=>(nomatch h),fun a h=>(nomatch h),fun a h=>(nomatch h)⟩,fun s hs=>?_⟩;match f,hf with
 |0,_=>simp[eD,BR]
 |1,_=>simp[eD,BR]
 |2,_=>simp[eD,BR]
 |3,_=>simp[eD,BR]
 |4,_=>simp[eD,BR]
 |5,_=>simp[eD,BR]
 simp[aE,AA,BR,wI];simp[aE,wI];simp[aE,wI];simp[aE,wI,dI];simp[aE,wI];simp[aE,wI];cases s with
 |k i f=>have:i≠j:=hs;simp[eD,aE,this]
 |a i x f=>simp[eD,aE]
 |x m i=>simp[eD,aE]
def BH(cK:Cl):Fn:=fnU 1 1 (iZ cK)
def HC(M:Mm pos c T)(R:Kr cK cA j pos c K p q):BH cK [.ref (p 0)] T=some (.ref T.length,T++[.lst K.ev]):=by
 have t0:=M.get (R.pk 0 (by decide)) R.c0;have t4:=M.get (R.pk 4 (by decide)) R.c4;unfold BH;rw[oS];rwa[iZ,t0,t4]
def BG(cK:Cl):Fn:=fnU 1 1 (iY cK)
def HB(M:Mm pos c T)(R:Kr cK cA j pos c K p q):BG cK [.ref (p 0)] T=some (.tup (K.bx.map U.int),T):=by
 have t0:=M.get (R.pk 0 (by decide)) R.c0;have t1:=M.get (R.pk 1 (by decide)) R.c1;unfold BG;rw[oS];rwa[iY,t0,t1]
def HQ(A:Ac):Int×Int:=match A.st with
 |none=>(A.g,1)
 |some t=>(t,0)
def p8(cA:Cl):Fn:=fnU 1 1 (dB cA)
def HP(M:Mm pos c T)(R:Kr cK cA j pos c K p q)(ha:a∈K.ids):p8 cA [.ref (q a 0)] T=some (.tup [.int (HQ (K.A a)).1,.int (HQ (K.A a)).2],T):=by
 have tr:=M.get (R.pa a ha 0 (by decide)) (R.a0 a ha);unfold p8 HQ;rw[oS];cases h:(K.A a).st with
 |none=>
  rw[h]at tr;rwa[dB,tr,stU,rS,pW]
 |some t=>
  rw[h]at tr;rwa[dB,tr,stU,rS,AB]
def eZ(K:Kc):List Int:=sx (K.ids.map fun a=>HQ (K.A a)) K.ids
def ky(cK cA:Cl)(z:O):Fn:=fnU 1 1 (gP (p8 cA) cK cA z)
def Ai{z:O}{l:Nat}(M:Mm pos c T)(R:Kr cK cA j pos c K p q)(hz:T[l]?=some z)(h64:K.ids.length<64):ky cK cA z [.ref (p 0)] T=some (.ref T.length,T++[.lst ((eZ K).map U.int)]):=by
 have t0:=M.get (R.pk 0 (by decide)) R.c0;have t5:=M.get (R.pk 5 (by decide)) R.c5;have run:∀ids:List Int,(∀a∈ids,a∈K.ids)->BQ (aM cA (p8 cA) (cOp fIx (aS cK 5 (ah 1)) (ah 0)) ay) (.ref (p 0)) ids T=some (ids.map fun a=>HQ (K.A a),T):=by
  intro ids;induction ids with
  |nil=>intro _;rfl
  |cons a r ih=>
   intro h;have ha:=h a QN;have v:=jB (q:=q) ha;have tr:=M.get (R.pa a ha 0 (by decide)) (R.a0 a ha);have e:=HP M R ha;have ec:aM cA (p8 cA) (cOp fIx (aS cK 5 (ah 1)) (ah 0)) ay [uI a,uR (p 0)] T=some (.tup [.int (HQ (K.A a)).1,.int (HQ (K.A a)).2],T):=by rwa[t0,t5,v,tr,e]
   unfold BQ;rw[ec,Q8];simp only[ih fun x hx=>h x (QY _ hx),Q8,QU]
 have kk:∀ids:List Int,nU (ids.map fun a=>((.inl a:Key),U.ref (q a 0)))=some ids:=by
  intro ids;induction ids with
  |nil=>rfl
  |cons a r ih=>show(nU _).map (a::·)=_;rw[ih];rfl
 have ef:aS cK 5 (ah 0) [uR (p 0)] T=some (.ref (p 5),T):=by rwa[t0]
 have es:xg z 0 (aS cK 5 (ah 0)) (aM cA (p8 cA) (cOp fIx (aS cK 5 (ah 1)) (ah 0)) ay) [uR (p 0)] T=some (.ref T.length,T++[.lst ((eZ K).map U.int)]):=by
  unfold xg;rw[ef,Q8];simp only[t5,kk,Q8];rw[X9 ⟨h64,l,hz⟩];simp only[ZI,Option.join_some,Q8,run K.ids fun _ h=>h];rfl
 unfold ky;rw[oS];unfold gP;rwa[es]
end
def qW{l:List Int}{n:Nat}(nd:l.Nodup)(h:∀b∈l,0<=b/\b<n):l.length<=n:=by
 have:=List.Nodup.length_le_of_subset nd (l₂:=(QF n).map fun i:Nat=>(i:Int)) fun b hb=>by
  obtain⟨h0,h1⟩:=h b hb;exact ZV.mpr ⟨b.toNat,ZN.mpr (by omega),by omega⟩
 simpa using this
def Ci{l:List (Int×Int)}{b:Int}(h:b∈l.map (·.1)):(bC l b).isSome=true:=by
 cases e:bC l b with
 |some v=>rfl
 |none=>exact absurd h (yZ.mp e)
def xM{l:List (Int×Int)}{b v d:Int}(h:d∈(fZ l b v).map (·.1)):d=b\/d∈l.map (·.1):=by
 obtain⟨e,he,rfl⟩:=ZV.mp h;rcases CL he with z|⟨p,hp,z⟩;exact .inl z;exact .inr (ZV.mpr ⟨p,hp,z⟩)
def qg(a:Int):∀(bs:List Int) (ho:List (Int×Int)) (d:Int),bC (hold a bs ho) d=if d∈bs then some a else bC ho d
 |[],ho,d=>by simp[hold]
 |b::bs,ho,d=>by
  show bC (hold a bs (fZ ho b a)) d=_;rw[qg a bs,yY];by_cases h1:d∈bs;rw[X9 h1,X9 (QY _ h1)];rw[XQ h1];by_cases h2:d=b;rw[X9 h2,X9 (by rw[h2];exact QN)];rw[XQ h2,XQ (fun z=>(Qz.mp z).elim h2 h1)]
def wB(a:Int):∀(bs:List Int) (ho:List (Int×Int)),(hold a bs ho).length<=ho.length+bs.length
 |[],ho=>Q7 _
 |b::bs,ho=>by
  show(hold a bs (fZ ho b a)).length<=_;have:=wB a bs (fZ ho b a);have:=qq ho b a;rw[QK];omega
def rX:∀(bs:List Int) (ho:List (Int×Int)) (d:Int),d∉bs->bC (eG bs ho) d=bC ho d
 |[],ho,d,_=>rfl
 |b::bs,ho,d,h=>by
  show bC (eG bs (jJ ho b)) d=_;rw[rX bs _ d (fun z=>h (QY _ z)),vV (fun z=>h (by rw[z];exact QN))]
def sX:∀(bs:List Int) (ho:List (Int×Int)),(eG bs ho).length<=ho.length
 |[],ho=>Q7 _
 |b::bs,ho=>ZQ (sX bs (jJ ho b)) (List.length_filter_le _ _)
structure Tkn(K:Kc)(a:Int):Prop where
 un:(K.A a).un≠[]
 few:(K.A a).un.length<64
 sub:∀b∈(K.A a).un,b∈(K.A a).pu.map (·.1)
 hld:∀d∈(K.A a).pu.map (·.1),bC K.ho d=some a
structure Ki(K:Kc)(n:Nat):Prop where
 lb:K.bx.length=n
 lm:K.ma.length=n
 few:n<64
 ids:K.ids.Nodup
 lkn:∀a∈K.ids,(K.A a).lk.Nodup
 lkb:∀a∈K.ids,∀b:Int,b∈(K.A a).lk->0<=b/\b<n
 pun:∀a∈K.ids,((K.A a).pu.map (·.1)).Nodup
 pub:∀a∈K.ids,∀b:Int,b∈(K.A a).pu.map (·.1)->0<=b/\b<n
 tak:∀a∈K.ids,(K.A a).op=true->(K.A a).st.isSome=true->Tkn K a
 hol:(K.ho.length:Int)<=64*K.tk
def Lm{K K':Kc}(h1:K.bx=K'.bx)(h2:K.ma=K'.ma)(h3:K.ho=K'.ho)(h4:K.tk=K'.tk)(h5:K.ev=K'.ev)(h6:K.ids=K'.ids)(h7:∀x,K.A x=K'.A x):K=K':=by
 cases K;cases K';dsimp only at *;subst h1 h2 h3 h4 h5 h6;congr 1;exact funext h7
variable{v:Int}
def Ki.w(I:Ki K n):Kw K n where
 lb:=I.lb
 lm:=I.lm
 few:=by have:=I.few;omega
 ids:=I.ids
 lk:=fun a ha=>⟨by have:=qW (I.lkn a ha) (I.lkb a ha);have:=I.few;omega,I.lkb a ha⟩
 pu:=fun a ha=>⟨by have:=qW (I.pun a ha) (I.pub a ha);rw[Q9]at this;have:=I.few;omega,I.pun a ha,fun e he=>I.pub a ha e.1 (ZV.mpr ⟨e,he,rfl⟩)⟩
def Ki.ev(I:Ki K n)(ev:List U):Ki { K with ev:=ev } n:=⟨I.lb,I.lm,I.few,I.ids,I.lkn,I.lkb,I.pun,I.pub,fun a h1 h2 h3=>let t:=I.tak a h1 h2 h3;⟨t.un,t.few,t.sub,t.hld⟩,I.hol⟩
def Ki.up(I:Ki K n)(x:Ac)(h1:x.lk.Nodup)(h2:∀b:Int,b∈x.lk->0<=b/\b<n)(h3:(x.pu.map (·.1)).Nodup)(h4:∀b:Int,b∈x.pu.map (·.1)->0<=b/\b<n)
  (h5:x.op=true->x.st.isSome=true->x.un≠[]/\x.un.length<64/\(∀b∈x.un,b∈x.pu.map (·.1))/\∀d∈x.pu.map (·.1),bC K.ho d=some a):Ki (K.up a x) n:=by
 have at_:∀y,y≠a->(K.up a x).A y=K.A y:=fun y hy=>XQ hy;refine⟨I.lb,I.lm,I.few,I.ids,fun y hy=>?_,fun y hy=>?_,fun y hy=>?_,fun y hy=>?_,fun y hy o s=>?_,I.hol⟩;by_cases e:y=a;subst e;rw[kE];exact h1;rw[at_ y e];exact I.lkn y hy;by_cases e:y=a;subst e;rw[kE];exact h2;rw[at_ y e];exact I.lkb y hy;by_cases e:y=a;subst e;rw[kE];exact h3;rw[at_ y e];exact I.pun y hy;by_cases e:y=a;subst e;rw[kE];exact h4;rw[at_ y e];exact I.pub y hy;by_cases e:y=a;subst e;rw[kE]at o s;obtain⟨z1,z2,z3,z4⟩:=h5 o s;exact⟨by rw[kE];exact z1,by rw[kE];exact z2,by rw[kE];exact z3,by rw[kE];exact z4⟩;rw[at_ y e]at o s;have t:=I.tak y hy o s;exact⟨by rw[at_ y e];exact t.un,by rw[at_ y e];exact t.few,by rw[at_ y e];exact t.sub,by rw[at_ y e];exact t.hld⟩
def Ki.end(I:Ki K n)(ha:a∈K.ids)(w:Str):Ki (K.end a w) n:=(I.up { K.A a with op:=false } (I.lkn a ha) (I.lkb a ha) (I.pun a ha) (I.pub a ha) fun z=>nomatch z).ev _
def Ki.begin(I:Ki K n)(ha:a∉K.ids):Ki (cM K a) n:=by
 have ne:∀y∈K.ids,y≠a:=fun y hy e=>ha (by rw[<-e];exact hy);have at_:∀y,y≠a->(cM K a).A y=K.A y:=fun y hy=>XQ hy;have ata:(cM K a).A a=a0 K.tk:=X9 rfl;have sp:∀y∈(cM K a).ids,y∈K.ids\/y=a:=fun y hy=>(Z6.mp hy).imp id Qu.mp;refine⟨I.lb,I.lm,I.few,?_,fun y hy=>?_,fun y hy=>?_,fun y hy=>?_,fun y hy=>?_,fun y hy o s=>?_,I.hol⟩;show(K.ids++[a]).Nodup;rw[X4];exact⟨I.ids,by simp,fun x hx y hy z=>by rw[Qu.mp hy]at z;exact ne x hx z⟩;rcases sp y hy with h|rfl;rw[at_ y (ne y h)];exact I.lkn y h;rw[ata];exact List.nodup_nil;rcases sp y hy with h|rfl;rw[at_ y (ne y h)];exact I.lkb y h;rw[ata];exact fun b hb=>nomatch hb;rcases sp y hy with h|rfl;rw[at_ y (ne y h)];exact I.pun y h;rw[ata];exact List.nodup_nil;rcases sp y hy with h|rfl;rw[at_ y (ne y h)];exact I.pub y h;rw[ata];exact fun b hb=>nomatch hb;rcases sp y hy with h|rfl;rw[at_ y (ne y h)]at o s;have t:=I.tak y h o s;exact⟨by rw[at_ y (ne y h)];exact t.un,by rw[at_ y (ne y h)];exact t.few,by rw[at_ y (ne y h)];exact t.sub,by rw[at_ y (ne y h)];exact t.hld⟩;rw[ata]at s;cases s
def Em{l:List Int}{b:Int}(h:l.Nodup):(oW l b).Nodup:=by
 unfold oW;split;exact h;rename_i hb;rw[X4];exact⟨h,by simp,fun x hx y hy z=>by rw[Qu.mp hy]at z;exact hb (by rw[<-z];exact hx)⟩
def BA{l:List Int}{b x:Int}(h:x∈oW l b):x=b\/x∈l:=by
 unfold oW at h;split at h;exact .inr h;rcases Z6.mp h with z|z;exact .inr z;exact .inl (Qu.mp z)
def Ki.look(I:Ki K n)(ha:a∈K.ids)(st:(K.A a).st=none)(b0:0<=b)(b1:b<n):Ki (cV K a b).2 n:=by
 unfold cV;split;exact I.ev _;split;exact I.end ha _;refine(I.up { K.A a with g:=if (K.A a).g<K.ma.getD b.toNat 0 then K.tk else(K.A a).g,lk:=oW (K.A a).lk b } (Em (I.lkn a ha)) (fun x hx=>?_) (I.pun a ha) (I.pub a ha) fun _ s=>?_).ev _;rcases BA hx with z|z;subst z;exact⟨b0,b1⟩;exact I.lkb a ha x z;have s':(K.A a).st.isSome=true:=s;rw[st]at s';cases s'
def Ki.put(I:Ki K n)(ha:a∈K.ids)(st:(K.A a).st=none)(b0:0<=b)(b1:b<n):Ki (va K a b v) n:=by
 refine(I.up { K.A a with pu:=fZ (K.A a).pu b v } (I.lkn a ha) (I.lkb a ha) (GS (I.pun a ha)) (fun x hx=>?_) fun _ s=>?_).ev _;rcases xM hx with z|z;subst z;exact⟨b0,b1⟩;exact I.pub a ha x z;have s':(K.A a).st.isSome=true:=s;rw[st]at s';cases s'
def Ki.take(I:Ki K n)(ha:a∈K.ids)(st:(K.A a).st=none):Ki (bR K a).2 n:=by
 unfold bR;split;exact I.end ha _;rename_i hp;split;exact I.end ha _;rename_i hb;have hb2:brd K a ((K.A a).pu.map (·.1))=false:=by
  cases z:brd K a ((K.A a).pu.map (·.1))with
  |false=>rfl
  |true=>rw[z]at hb;simp at hb
 have free:∀d∈(K.A a).pu.map (·.1),(bC K.ho d).getD a=a:=fun d hd=>by
  unfold brd at hb2;have:=List.any_eq_false.mp hb2 d hd;simpa using this
 have pm:=gX ((K.A a).pu.map (·.1));have pl:=(I.w.pu a ha).1;have at_:∀y,y≠a->({ K.up a { K.A a with st:=some (K.tk+1),un:=bI ((K.A a).pu.map (·.1)) } with tk:=K.tk+1,ho:=hold a (bI ((K.A a).pu.map (·.1))) K.ho }:Kc).A y=K.A y:=fun y hy=>XQ hy;have ata:({ K.up a { K.A a with st:=some (K.tk+1),un:=bI ((K.A a).pu.map (·.1)) } with tk:=K.tk+1,ho:=hold a (bI ((K.A a).pu.map (·.1))) K.ho }:Kc).A a={ K.A a with st:=some (K.tk+1),un:=bI ((K.A a).pu.map (·.1)) }:=X9 rfl;refine⟨I.lb,I.lm,I.few,I.ids,fun y hy=>?_,fun y hy=>?_,fun y hy=>?_,fun y hy=>?_,fun y hy o s=>?_,?_⟩;by_cases e:y=a;subst e;rw[ata];exact I.lkn y hy;rw[at_ y e];exact I.lkn y hy;by_cases e:y=a;subst e;rw[ata];exact I.lkb y hy;rw[at_ y e];exact I.lkb y hy;by_cases e:y=a;subst e;rw[ata];exact I.pun y hy;rw[at_ y e];exact I.pun y hy;by_cases e:y=a;subst e;rw[ata];exact I.pub y hy;rw[at_ y e];exact I.pub y hy;by_cases e:y=a;subst e;refine⟨?_,?_,?_,fun d hd=>?_⟩;rw[ata];intro z;have z':bI ((K.A y).pu.map (·.1))=[]:=z;rw[z']at pm;have:=pm.length_eq;rw[Zk,Q9]at this;exact hp (List.length_eq_zero_iff.mp this.symm);rw[ata];show(bI _).length<64;rw[pm.length_eq,Q9];exact pl;rw[ata];exact fun b hb=>pm.mem_iff.mp hb;rw[ata]at hd;show bC (hold y _ K.ho) d=some y;rw[qg,X9 (pm.mem_iff.mpr hd)];rw[at_ y e]at o s;have t:=I.tak y hy o s;refine⟨by rw[at_ y e];exact t.un,by rw[at_ y e];exact t.few,by rw[at_ y e];exact t.sub,fun d hd=>?_⟩;rw[at_ y e]at hd;show bC (hold a _ K.ho) d=some y;have hv:=t.hld d hd;rw[qg,XQ (fun z=>?_)];exact hv;have:=free d (pm.mem_iff.mp z);rw[hv]at this;exact e this;have l1:=wB a (bI ((K.A a).pu.map (·.1))) K.ho;have l2:=pm.length_eq;rw[Q9]at l2;have:=I.hol;show((hold a _ K.ho).length:Int)<=64*(K.tk+1);omega
def Ki.write(I:Ki K n)(ha:a∈K.ids)(op:(K.A a).op=true)(st:(K.A a).st.isSome=true):Ki (bJ K a).2 n:=by
 have t:=I.tak a ha op st;unfold bJ;cases hu:(K.A a).un with
 |nil=>exact absurd hu t.un
 |cons b r=>
  dsimp only;have J:∀(x y:List Int),x.length=n->y.length=n->Ki { K with bx:=x,ma:=y } n:=fun x y hx hy=>⟨hx,hy,I.few,I.ids,I.lkn,I.lkb,I.pun,I.pub,fun a h1 h2 h3=>let t:=I.tak a h1 h2 h3;⟨t.un,t.few,t.sub,t.hld⟩,I.hol⟩;have J1:=J (K.bx.set b.toNat ((bC (K.A a).pu b).getD 0)) (K.ma.set b.toNat ((K.A a).st.getD 0)) (by rw[Qs];exact I.lb) (by rw[Qs];exact I.lm);by_cases hr:r=[]
  ·rw[X9 hr];have J2:=J1.up (a:=a) { K.A a with un:=r,op:=false } (I.lkn a ha) (I.lkb a ha) (I.pun a ha) (I.pub a ha) fun z=>nomatch z;have eq:Kc.end { ({ K.up a { K.A a with un:=r } with bx:=K.bx.set b.toNat ((bC (K.A a).pu b).getD 0),ma:=K.ma.set b.toNat ((K.A a).st.getD 0) }:Kc)with ho:=eG ((K.A a).pu.map (·.1)) K.ho } a "done"={ ({ (Kc.up { K with bx:=K.bx.set b.toNat ((bC (K.A a).pu b).getD 0),ma:=K.ma.set b.toNat ((K.A a).st.getD 0) } a { K.A a with un:=r,op:=false })with ho:=eG ((K.A a).pu.map (·.1)) K.ho }:Kc)with ev:=K.ev++[.tup [.str "done",.int a]] }:=by
    refine Lm rfl rfl rfl rfl rfl rfl fun x=>?_;by_cases h:x=a<;>simp[Kc.end,Kc.up,h]
   rw[eq];refine Ki.ev (K:={ (Kc.up { K with bx:=K.bx.set b.toNat ((bC (K.A a).pu b).getD 0),ma:=K.ma.set b.toNat ((K.A a).st.getD 0) } a { K.A a with un:=r,op:=false })with ho:=eG ((K.A a).pu.map (·.1)) K.ho }) ⟨J2.lb,J2.lm,J2.few,J2.ids,J2.lkn,J2.lkb,J2.pun,J2.pub,fun y hy o s=>?_,?_⟩ _;have ya:y≠a:=fun e=>by
    subst e;have:(({ (Kc.up { K with bx:=K.bx.set b.toNat ((bC (K.A y).pu b).getD 0),ma:=K.ma.set b.toNat ((K.A y).st.getD 0) } y { K.A y with un:=r,op:=false })with ho:=eG ((K.A y).pu.map (·.1)) K.ho }:Kc).A y)={ K.A y with un:=r,op:=false }:=X9 rfl;rw[this]at o;cases o
   have at_:({ (Kc.up { K with bx:=K.bx.set b.toNat ((bC (K.A a).pu b).getD 0),ma:=K.ma.set b.toNat ((K.A a).st.getD 0) } a { K.A a with un:=r,op:=false })with ho:=eG ((K.A a).pu.map (·.1)) K.ho }:Kc).A y=K.A y:=XQ ya;rw[at_]at o s;have t':=I.tak y hy o s;refine⟨by rw[at_];exact t'.un,by rw[at_];exact t'.few,by rw[at_];exact t'.sub,fun d hd=>?_⟩;rw[at_]at hd;have hv:=t'.hld d hd;show bC (eG _ K.ho) d=some y;rw[rX _ _ _ fun z=>?_];exact hv;have:=t.hld d z;rw[hv]at this;exact ya (Option.some.inj this);have:=sX ((K.A a).pu.map (·.1)) K.ho;have:=I.hol;show((eG _ K.ho).length:Int)<=64*K.tk;omega
  rw[XQ hr];refine J1.up (a:=a) { K.A a with un:=r } (I.lkn a ha) (I.lkb a ha) (I.pun a ha) (I.pub a ha) fun _ _=>⟨hr,?_,fun x hx=>?_,t.hld⟩;have:=t.few;rw[hu,QK]at this;show r.length<64;omega
  exact t.sub x (by rw[hu];exact QY _ hx)
inductive Kl where
 |bg (a:Int)|lk (a b:Int)|pt (a b v:Int)|tk (a:Int)|wr (a:Int)
def HI(K:Kc):Kl->U×Kc
 |.bg a=>(.non,cM K a)
 |.lk a b=>cV K a b
 |.pt a b v=>(.non,va K a b v)
 |.tk a=>(.str (bR K a).1,(bR K a).2)
 |.wr a=>(.str (bJ K a).1,(bJ K a).2)
structure Kb(K:Kc)(m:Nat):Prop where
 ev:K.ev.length<=m
 tk:K.tk<=m
 ids:K.ids.length<=m
section
variable{m:Nat}{k:Kl}
def AX{w:Str}(B:Kb K m):Kb (K.end a w) (m+1):=⟨by show(K.ev++[_]).length<=_;have:=B.ev;simp;omega,by show K.tk<=_;have:=B.tk;omega,by show K.ids.length<=_;have:=B.ids;omega⟩
def Kb.call(B:Kb K m):Kb (HI K k).2 (m+1):=by
 have h1:=B.ev;have h2:=B.tk;have h3:=B.ids;cases k with
 |bg a=>exact⟨by show(K.ev++[_]).length<=_;simp;omega,by show K.tk<=_;omega,by show(K.ids++[_]).length<=_;simp;omega⟩
 |lk a b=>
  show Kb (cV K a b).2 _;unfold cV;split;exact⟨by show(K.ev++[_]).length<=_;simp;omega,by show K.tk<=_;omega,by show K.ids.length<=_;omega⟩;split;exact AX B;exact⟨by show(K.ev++[_]).length<=_;simp;omega,by show K.tk<=_;omega,by show K.ids.length<=_;omega⟩
 |pt a b v=>exact⟨by show(K.ev++[_]).length<=_;simp;omega,by show K.tk<=_;omega,by show K.ids.length<=_;omega⟩
 |tk a=>
  show Kb (bR K a).2 _;unfold bR;split;exact AX B;split;exact AX B;exact⟨by show K.ev.length<=_;omega,by show K.tk+1<=_;omega,by show K.ids.length<=_;omega⟩
 |wr a=>
  show Kb (bJ K a).2 _;unfold bJ;split;exact⟨by show K.ev.length<=_;omega,by show K.tk<=_;omega,by show K.ids.length<=_;omega⟩;dsimp only;split;exact AX ⟨h1,h2,h3⟩;exact⟨by show K.ev.length<=_;omega,by show K.tk<=_;omega,by show K.ids.length<=_;omega⟩
end
section
variable{q:Int->Nat->Nat}
def Fx(pos:Pl->Option Nat)(c:Pl->O)(pos':Pl->Option Nat)(c':Pl->O):Prop:=∀s,(∀f i,s≠.x f i)->pos' s=pos s/\c' s=c s
def Kr.fx(R:Kr cK cA i pos c K p q)(F:Fx pos c pos' c'):Kr cK cA i pos' c' K p q:=by
 have k:∀f,pos' (.k i f)=pos (.k i f)/\c' (.k i f)=c (.k i f):=fun f=>F (.k i f) fun _ _=>by simp
 have a:∀x f,pos' (.a i x f)=pos (.a i x f)/\c' (.a i x f)=c (.a i x f):=fun x f=>F (.a i x f) fun _ _=>by simp
 exact⟨fun f hf=>by rw[(k f).1];exact R.pk f hf,by rw[(k 0).2];exact R.c0,by rw[(k 1).2];exact R.c1,by rw[(k 2).2];exact R.c2,by rw[(k 3).2];exact R.c3,by rw[(k 4).2];exact R.c4,by rw[(k 5).2];exact R.c5,fun x hx f hf=>by rw[(a x f).1];exact R.pa x hx f hf,fun x hx=>by rw[(a x 0).2];exact R.a0 x hx,fun x hx=>by rw[(a x 1).2];exact R.a1 x hx,fun x hx=>by rw[(a x 2).2];exact R.a2 x hx,fun x hx=>by rw[(a x 3).2];exact R.a3 x hx⟩
def Fx.upd{f i:Nat}{o:O}:Fx pos c pos (aE c (.x f i) o):=fun s hs=>⟨rfl,aq (hs f i)⟩
def Fx.new{f i p:Nat}{o:O}:Fx pos c (eD pos (.x f i) p) (aE c (.x f i) o):=fun s hs=>⟨aK (hs f i),aq (hs f i)⟩
def NI{f i lw:Nat}{z m:Int}(M:Mm pos c T)(hp:pos (.x f i)=some lw)(hc:c (.x f i)=.lst [.int z])(hm:0<m)(hb:m<2^60):∃d z',jR [.ref lw,.int m] T=some (.int d,T.set lw (.lst [.int z']))/\Mm pos (aE c (.x f i) (.lst [.int z'])) (T.set lw (.lst [.int z']))/\0<=d/\d<m:=by
 have h:=M.get hp hc;refine⟨z % m,z / m,?_,M.set hp _,Int.emod_nonneg _ (by omega),Int.emod_lt_of_pos _ hm⟩;unfold jR;rw[oe];have dv:∀(j:Int) (S:Sto),E9 (.int j) (.int m) S=some (.int (j / m),S):=fun j S=>Jp ⟨hm,l9 (by omega) hb⟩;have md:∀(j:Int) (S:Sto),tX (.int j) (.int m) S=some (.int (j % m),S):=fun j S=>xt hm;rwa[kY,h,dv,md]
end
def ly{w:Str}(h:w∈(["done","falls","taken","written",""]:List Str)):(PyData.str w).canLay0=true:=by
 have:(["done","falls","taken","written",""]:List Str).all (fun w=>(PyData.str w).canLay0)=true:=by decide +kernel
 exact Ze.mp this w h
section
variable{k:Kl}{u:U}
def evW:List Str:=["begin","look","put","done","fall"]
inductive EvL:U->Prop where
 |two (w:Str) (h:w∈evW) (a:Int):EvL (.tup [.str w,.int a])
 |four (w:Str) (h:w∈evW) (a b v:Int):EvL (.tup [.str w,.int a,.int b,.int v])
def Fb{w:Str}(h:w∈evW):(PyData.str w).canLay0=true:=by
 have:evW.all (fun w=>(PyData.str w).canLay0)=true:=by decide +kernel
 exact Ze.mp this w h
def EvL.lay(h:EvL u)(S:Sto):Lay 1 S u:=by
 cases h with
 |two w h a=>exact⟨.tuple [.str w,.int a],.tup (.cons (.str _) (.cons (.int _) .nil)),by have:=Fb h;simp[PyData.canLay0,PyData.canLayAll0]at this ⊢;exact this,by simp[PyData.depth,PyData.depthAll]⟩
 |four w h a b v=>exact⟨.tuple [.str w,.int a,.int b,.int v],.tup (.cons (.str _) (.cons (.int _) (.cons (.int _) (.cons (.int _) .nil)))),by have:=Fb h;simp[PyData.canLay0,PyData.canLayAll0]at this ⊢;exact this,by simp[PyData.depth,PyData.depthAll]⟩
def zq{S:Sto}{d:Nat}:∀{us:List U},(∀u∈us,Lay d S u)->fX d S us us
 |[],_=>fX.nil
 |u::us,h=>fX.cons (.refl (h u QN)) (zq fun x hx=>h x (QY _ hx))
def jV{K:Kc}{e:U}(h:∀x∈K.ev,EvL x)(he:EvL e):∀x∈K.ev++[e],EvL x:=fun x hx=>by
 rcases Z6.mp hx with z|z;exact h x z;rw[Qu.mp z];exact he
def Ia{K:Kc}(h:∀x∈K.ev,EvL x):∀x∈(HI K k).2.ev,EvL x:=by
 cases k with
 |bg a=>exact jV h (.two _ (by decide) _)
 |lk a b=>
  show ∀x∈(cV K a b).2.ev,EvL x;unfold cV;split;exact jV h (.four _ (by decide) _ _ _);split;exact jV h (.two _ (by decide) _);exact jV h (.four _ (by decide) _ _ _)
 |pt a b v=>exact jV h (.four _ (by decide) _ _ _)
 |tk a=>
  show ∀x∈(bR K a).2.ev,EvL x;unfold bR;split;exact jV h (.two _ (by decide) _);split;exact jV h (.two _ (by decide) _);exact h
 |wr a=>
  show ∀x∈(bJ K a).2.ev,EvL x;unfold bJ;split;exact h;dsimp only;split;exact jV (K:=K) h (.two _ (by decide) _);exact h
end
def Ki.new{st:List Int}{n:Nat}(h:st.length=n)(hn:n<64):Ki (wI st) n:=
 ⟨h,by simp[wI,h],hn,List.nodup_nil,fun _ h=>(nomatch h),fun _ h=>(nomatch h),fun _ h=>(nomatch h),fun _ h=>(nomatch h),fun _ h=>(nomatch h),by simp[wI]⟩
def Kb.new{st:List Int}:Kb (wI st) 0:=⟨Q7 _,by simp[wI],Q7 _⟩
inductive DU(n w:Int):Nat->U->Prop
 |pl {e:Nat} {d:lj}:d.ok n w->DU n w e d.u
 |tr {e:Nat} {a b:List U}:(∀u∈a,DU n w e u)->(∀u∈b,DU n w e u)->DU n w (e+1) (.tup [.str "try",.tup a,.tup b])
structure Hw(n:Int)(hs:List Int)(ps:List (Int×Int)):Prop where
 h4:hs.length=4
 pk:(ps.map (·.1)).Nodup
 pb:∀k∈ps.map (·.1),0<=k/\k<n
def Hw.wf{n:Int}{hs:List Int}{ps:List (Int×Int)}(h:Hw n hs ps):Wf n ⟨hs,ps,[]⟩:=⟨h.h4,h.pk,h.pb,List.nodup_nil,fun k hk=>nomatch hk⟩
mutual
inductive PtW(n w:Int):Nat->U->Prop
 |top {e:Nat} {ds:List U} {q:Int} {B:U}:(∀u∈ds,DU n w e u)->e<=50->0<=q->BkW n w B->PtW n w 0 (pt ds q .non B)
 |up {d e:Nat} {ds:List U} {q:Int} {A B:U}:(∀u∈ds,DU n w e u)->d+1+e<=50->0<=q->PtW n w d A->BkW n w B->PtW n w (d+1) (pt ds q A B)
inductive BkW(n w:Int):U->Prop
 |no:BkW n w .non
 |go {hs:List Int} {ps:List (Int×Int)} {y:U} {d:Nat}:Hw n hs ps->PtW n w d y->BkW n w (bk n.toNat hs ps y)
end
section
variable{n w:Int}{d:Nat}{y:U}{ds:List U}{e:Nat}
def PtW.ex(h:PtW n w d x):∃ds q A B e,x=pt ds q A B/\(∀u∈ds,DU n w e u)/\d+e<=50/\0<=q/\BkW n w B/\((A=.non/\d=0)\/∃d',d=d'+1/\PtW n w d' A):=by
 cases h with
 |top h1 h2 h3 h4=>exact⟨_,_,_,_,_,rfl,h1,by omega,h3,h4,.inl ⟨rfl,rfl⟩⟩
 |up h1 h2 h3 h4 h5=>exact⟨_,_,_,_,_,rfl,h1,h2,h3,h5,.inr ⟨_,rfl,h4⟩⟩
def PtW.mk'(h1:∀u∈ds,DU n w e u)(h2:d+e<=50)(h3:0<=q)(h5:BkW n w B)(h4:(A=.non/\d=0)\/∃d',d=d'+1/\PtW n w d' A):PtW n w d (pt ds q A B):=by
 rcases h4 with⟨rfl,rfl⟩|⟨d',rfl,h4⟩;exact .top h1 (by omega) h3 h5;exact .up h1 h2 h3 h4 h5
def PtW.onw:∀{d:Nat} {x:U},PtW n w d x->∃y d',Onw d x y/\d'<=d/\PtW n w d' y
 |0,x,h=>by
  obtain⟨ds,q,A,B,e,rfl,h1,h2,h3,h5,h4⟩:=h.ex;rcases h4 with⟨rfl,_⟩|⟨d',z,_⟩;exact⟨_,0,.top,Q7 _,h⟩;cases z
 |d+1,x,h=>by
  obtain⟨ds,q,A,B,e,rfl,h1,h2,h3,h5,h4⟩:=h.ex;rcases h4 with⟨_,z⟩|⟨d',z,hA⟩;cases z;cases z;by_cases hq:q<ds.length;exact⟨_,d+1,.stop hq,Q7 _,h⟩;obtain⟨y,d',o,l,hy⟩:=hA.onw;obtain⟨ds',q',A',B',e',rfl,_⟩:=hA.ex;exact⟨y,d',.up (by omega) o,by omega,hy⟩
def yn(x:U):U:=((yi [x] []).map (·.1)).getD x
def K3(h:Onw d x y)(hd:d<100):yn x=y:=by unfold yn;rw[sV h hd];rfl
def PtW.le(h:PtW n w d x):d<=50:=by obtain⟨ds,q,A,B,e,rfl,h1,h2,_⟩:=h.ex;omega
def PtW.onw'(h:PtW n w d x):Onw d x (yn x)/\∃d',PtW n w d' (yn x):=by
 obtain⟨y,d',o,l,hy⟩:=h.onw;rw[K3 o (by have:=h.le;omega)];exact⟨o,d',hy⟩
end
structure Dc where
 hs:List Int
 ps:List (Int×Int)
 x:U
structure DgW(n w:Int)(D:Dc):Prop where
 hw:Hw n D.hs D.ps
 pw:∃d,PtW n w d D.x
def dOb(cD:Cl)(w n:Int)(D:Dc):O:=dO cD w n.toNat ⟨D.hs,D.ps,[]⟩ D.x
def pDs:U->List U
 |.tup (.tup ds::_)=>ds
 |_=>[]
def pQ:U->Int
 |.tup (_::.int q::_)=>q
 |_=>0
def pA:U->U
 |.tup (_::_::A::_)=>A
 |_=>.non
def pB:U->U
 |.tup (_::_::_::B::_)=>B
 |_=>.non
def gM(D:Dc):Option U:=(pDs D.x)[(pQ D.x).toNat]?
def lkG:U->Int
 |.tup (_::.int g::_)=>g
 |_=>0
def lkB:U->Int
 |.tup (_::_::.int b::_)=>b
 |_=>0
def HM:U->Bool
 |.tup (.str s::_)=>decide (s="look")
 |_=>false
def oT(D:Dc)(u:U):Bool:=HM u&&!(bC D.ps (lkB u)).isSome
def mq(dl:List U):Dc:=⟨[0,0,0,0],[],yn (pt dl 0 .non .non)⟩
def rh(D:Dc)(v:Int):Dc:=⟨D.hs.set (lkG ((gM D).getD .non)).toNat v,D.ps,yn (pt (pDs D.x) (pQ D.x+1+0) (pA D.x) (pB D.x))⟩
def Lw(n:Int)(lk:List Int):Prop:=lk.Nodup/\∀k∈lk,0<=k/\k<n
def DoR(w n:Int)(D:Dc)(b:Bool)(D':Dc):Prop:=∀(cD:Cl) (S:Sto) (i ll:Nat) (lk:List Int),Lw n lk->S[i]?=some (dOb cD w n D)->S[ll]?=some (.dic (dT lk))->Fv cD [.ref i] S=some (.bl b,S.set i (dOb cD w n D'))
variable{D:Dc}
section
variable{n w:Int}{lk:List Int}{u:U}
def rj(h:S[i]?=some (dOb cD w n D))(hl:S[ll]?=some (.dic (dT lk))):Cf cD w n.toNat i ll ⟨D.hs,D.ps,lk⟩ D.x S:=⟨h,hl⟩
def DU.head{e:Nat}(h:DU n w e u):∃s r,u=.tup (.str s::r):=by
 cases h with
 |pl h=>exact JI _
 |tr _ _=>exact⟨_,_,rfl⟩
def DgW.ex(h:DgW n w D):∃ds q A B d e,D.x=pt ds q A B/\(∀u∈ds,DU n w e u)/\d+e<=50/\0<=q/\BkW n w B/\((A=.non/\d=0)\/∃d',d=d'+1/\PtW n w d' A):=by
 obtain⟨d,hp⟩:=h.pw;obtain⟨ds,q,A,B,e,h1⟩:=hp.ex;exact⟨ds,q,A,B,d,e,h1⟩
def D6(h:DgW n w D)(hi:S[i]?=some (dOb cD w n D))(hl:S[ll]?=some (.dic (dT lk)))(hd:gM D=none):ja cD [.ref i] S=some (.non,S):=by
 obtain⟨ds,q,A,B,d,e,ex,h1,h2,h3,h4⟩:=h.ex;have c:=rj hi hl;rw[ex]at c;unfold gM at hd;rw[ex]at hd;have:ds.length<=q.toNat:=List.getElem?_eq_none_iff.mp hd;exact D4 c (by omega)
def wX(h:DgW n w D)(hi:S[i]?=some (dOb cD w n D))(hl:S[ll]?=some (.dic (dT lk)))(hd:gM D=some u):ja cD [.ref i] S=some (u,S):=by
 obtain⟨ds,q,A,B,d,e,ex,h1,h2,h3,h4⟩:=h.ex;have c:=rj hi hl;rw[ex]at c;unfold gM at hd;rw[ex]at hd;exact jK c h3 hd
def DgW.du(h:DgW n w D)(hd:gM D=some u):∃e,DU n w e u:=by
 obtain⟨ds,q,A,B,d,e,ex,h1,h2,h3,h4⟩:=h.ex;unfold gM at hd;rw[ex]at hd;exact⟨e,h1 u (ZS hd)⟩
def DgW.ask(h:DgW n w D)(hd:gM D=some u)(ha:HM u=true):∃g b,u=lj.u (.look g b)/\0<=g/\g<4/\0<=b/\b<n:=by
 obtain⟨e,hu⟩:=h.du hd;cases hu with
 |@pl e d od=>
  cases d with
  |look g b=>exact⟨g,b,rfl,od⟩
  |put g b=>exact absurd (show decide (("put":Str)="look")=true from ha) (by decide +kernel)
  |set g b=>exact absurd (show decide (("set":Str)="look")=true from ha) (by decide +kernel)
  |plus g b=>exact absurd (show decide (("plus":Str)="look")=true from ha) (by decide +kernel)
  |leap g b=>exact absurd (show decide (("leap":Str)="look")=true from ha) (by decide +kernel)
  |wait=>exact absurd ha (by decide +kernel)
 |tr _ _=>exact absurd (show decide (("try":Str)="look")=true from ha) (by decide +kernel)
def Ej(h:DgW n w D)(n0:0<=n)(hi:S[i]?=some (dOb cD w n D))(hl:S[ll]?=some (.dic (dT lk)))(hd:gM D=some u):qc cD [.ref i] S=some (.bl (oT D u),S):=by
 have hd0:=hd;obtain⟨ds,q,A,B,d,e,ex,h1,h2,h3,h4⟩:=h.ex;have c:=rj hi hl;rw[ex]at c;unfold gM at hd;rw[ex]at hd
 replace hd:ds[q.toNat]?=some u:=hd
 unfold oT;cases hk:HM u with
 |true=>
  obtain⟨g,b,rfl,_,_,b0,b1⟩:=h.ask hd0 hk;exact Bx c h3 hd b0 b1
 |false=>
  obtain⟨e,hu⟩:=h.du hd0;obtain⟨s,r,rfl⟩:=hu.head;exact Iq c h3 hd hk
def wQ{v:Int}(h:DgW n w D)(hi:S[i]?=some (dOb cD w n D))(hl:S[ll]?=some (.dic (dT lk)))(hd:gM D=some u)(hk:HM u=true):xm cD [.ref i,.int v] S=some (.non,S.set i (dOb cD w n (rh D v)))/\DgW n w (rh D v):=by
 have hd0:=hd;obtain⟨ds,q,A,B,d,e,ex,h1,h2,h3,h5,h4⟩:=h.ex;have c:=rj hi hl;rw[ex]at c;unfold gM at hd;rw[ex]at hd
 replace hd:ds[q.toNat]?=some u:=hd
 obtain⟨g,b,rfl,g0,g1,b0,b1⟩:=h.ask hd0 hk;have P:PtW n w d (pt ds (q+1+0) A B):=PtW.mk' h1 h2 (by omega) h5 h4;obtain⟨o,d',hy⟩:=P.onw';have E:rh D v=⟨D.hs.set g.toNat v,D.ps,yn (pt ds (q+1+0) A B)⟩:=by
  unfold rh;rw[hd0,ex];rfl
 rw[E];exact⟨HS c h.hw.h4 h3 hd g0 g1 o (by have:=P.le;omega),⟨⟨by rw[Qs];exact h.hw.h4,h.hw.pk,h.hw.pb⟩,d',hy⟩⟩
def OS(h:DgW n w D)(w0:2<=w)(n1:n<=6)(hd:gM D=some u)(ha:oT D u=false):∃b D',DoR w n D b D'/\DgW n w D':=by
 have hd0:=hd;obtain⟨ds,q,A,B,d,e,ex,h1,h2,h3,h5,h4⟩:=h.ex;unfold gM at hd;rw[ex]at hd
 replace hd:ds[q.toNat]?=some u:=hd
 have plain:∀(dd:lj),dd≠.wait->u=dd.u->dd.ok n w->(∀g b,dd=.look g b->(bC D.ps b).isSome=true)->∃b D',DoR w n D b D'/\DgW n w D':=by
  intro dd nw eu od hlk;subst eu;have lv0:0<=lv ⟨D.hs,D.ps,[]⟩ dd:=by
   cases dd with
   |leap g k=>obtain⟨_,_,k1,_⟩:=od;show 0<=(if _ then k else 0);split<;>omega
   |_=>exact Zi _
  have P:PtW n w d (pt ds (q+1+lv ⟨D.hs,D.ps,[]⟩ dd) A B):=PtW.mk' h1 h2 (by omega) h5 h4;obtain⟨o,d',hy⟩:=P.onw';have wf2:=Gz (first:=[]) h.hw.wf od;refine⟨true,⟨(step w [] ⟨D.hs,D.ps,[]⟩ dd).hs,(step w [] ⟨D.hs,D.ps,[]⟩ dd).ps,yn (pt ds (q+1+lv ⟨D.hs,D.ps,[]⟩ dd) A B)⟩,?_,⟨wf2.h4,wf2.pk,wf2.pb⟩,d',hy⟩;intro cD S i ll lk lw hi hl;have c:=rj hi hl;rw[ex]at c;have el:lv ⟨D.hs,D.ps,lk⟩ dd=lv ⟨D.hs,D.ps,[]⟩ dd:=by cases dd<;>rfl
  have e:=D2 (first:=[]) nw c ⟨h.hw.h4,h.hw.pk,h.hw.pb,lw.1,lw.2⟩ w0 n1 od h3 hd hlk (by rw[el];exact o) (by have:=P.le;omega);rw[e];cases dd<;>rfl
 obtain⟨e',hu⟩:=h.du hd0;cases hu with
 |@pl e' dd od=>
  by_cases nw:dd=.wait;subst nw;cases h5 with
  |no=>
   refine⟨false,D,fun cD S i ll lk lw hi hl=>?_,h⟩;have c:=rj hi hl;rw[ex]at c;rw[A6 c h3 hd (Bt c),nE hi]
  |@go hs ps y d' hw hp=>
   refine⟨true,⟨hs,ps,y⟩,fun cD S i ll lk lw hi hl=>?_,hw,d',hp⟩;have c:=rj hi hl;rw[ex]at c;exact A6 c h3 hd (Bs c)
  refine plain dd nw rfl od fun g b e1=>?_;subst e1;have ha':(decide (("look":Str)="look")&&!(bC D.ps b).isSome)=false:=ha;rw[XX rfl,Bool.true_and]at ha';simpa using ha'
 |@tr e' a b ha1 hb1=>
  obtain⟨e'',ee,hda,hdb⟩:∃e'',(e''+1<=e)/\(∀u∈a,DU n w e'' u)/\(∀u∈b,DU n w e'' u):=by
   have:=h1 _ (ZS hd);generalize hz:(U.tup [.str "try",.tup a,.tup b])=z at this;cases this with
   |@pl _ d _=>cases d<;>simp[lj.u]at hz
   |@tr e2 a2 b2 q1 q2=>cases hz;exact⟨e2,Q7 _,q1,q2⟩
  have P0:PtW n w d (pt ds (q+1+0) A B):=PtW.mk' h1 h2 (by omega) h5 h4;have P1:PtW n w (d+1) (pt b 0 (pt ds (q+1+0) A B) B):=.up hdb (by omega) (Zi _) P0 h5;obtain⟨o1,d1,hz⟩:=P1.onw';have P2:PtW n w (d+1) (pt a 0 (pt ds (q+1+0) A B) (bk n.toNat D.hs D.ps (yn (pt b 0 (pt ds (q+1+0) A B) B)))):=.up hda (by omega) (Zi _) P0 (.go h.hw hz);obtain⟨o2,d2,hy⟩:=P2.onw';refine⟨true,⟨D.hs,D.ps,yn (pt a 0 (pt ds (q+1+0) A B) (bk n.toNat D.hs D.ps (yn (pt b 0 (pt ds (q+1+0) A B) B))))⟩,fun cD S i ll lk lw hi hl=>?_,h.hw,d2,hy⟩;have c:=rj hi hl;rw[ex]at c;have l1:=P1.le;rw[LS c h3 hd o1 (by omega) o2 (by omega)];rfl
def dDo(w n:Int)(D:Dc):Bool×Dc:=open Classical in if h:∃r:Bool×Dc,DoR w n D r.1 r.2/\DgW n w r.2 then h.choose else(false,D)
def Fi(h:DgW n w D)(w0:2<=w)(n1:n<=6)(hd:gM D=some u)(ha:oT D u=false):DoR w n D (dDo w n D).1 (dDo w n D).2/\DgW n w (dDo w n D).2:=by
 obtain⟨b,D',h1,h2⟩:=OS h w0 n1 hd ha;have hx:∃r:Bool×Dc,DoR w n D r.1 r.2/\DgW n w r.2:=⟨(b,D'),h1,h2⟩;unfold dDo;rw[dif_pos hx];exact hx.choose_spec
def LV{dl:List U}{e:Nat}(h:∀u∈dl,DU n w e u)(he:e<=50):DgW n w (mq dl):=by
 have P:PtW n w 0 (pt dl 0 .non .non):=.top h he (Zi _) .no;obtain⟨o,d',hy⟩:=P.onw';exact⟨⟨rfl,List.nodup_nil,fun k hk=>nomatch hk⟩,d',hy⟩
end
structure Tyg where
 dl:List U
 att:Option Int
 d:Option Dc
 sg:Str
 fa:Int
 fl:Int
structure Tc where
 K:Kc
 pa:Option Int
 be:Int
 rw:List Int
 os:List Tyg
structure Cz where
 K:Cl
 A:Cl
 D:Cl
 Y:Cl
 T:Cl
structure CzO(z:Cz):Prop where
 K:z.K.ns.length=6
 A:z.A.ns.length=6
 D:z.D.ns.length=4
 Y:z.Y.ns.length=6
 T:z.T.ns.length=6
def tp(j f i:Nat):Pl:=.x (20+(4*j+f)) i
def duU:Option Dc->Nat->U
 |none,_=>.non
 |some _,l=>.ref l
def yO(cY:Cl)(y:Tyg)(ld:Nat):O:=.ins cY [some (.tup y.dl),some (stU y.att),some (duU y.d ld),some (.str y.sg),some (.int y.fa),some (.int y.fl)]
def tO'(cT:Cl)(n w:Int)(k0:Nat)(pa:Option Int)(lo:Nat)(be:Int)(lr:Nat):O:=.ins cT [some (.tup [.int n,.int w]),some (.ref k0),some (stU pa),some (.ref lo),some (.int be),some (.ref lr)]
structure Tr(z:Cz)(j:Nat)(n w:Int)(pos:Pl->Option Nat)(c:Pl->O)(X:Tc)(p:Nat->Nat)(q:Int->Nat->Nat)(t:Nat->Nat)(o:Nat->Nat)(lr:Nat)(ld:Nat->Nat):Prop where
 kr:Kr z.K z.A j pos c X.K p q
 pT:pos (tp j 0 0)=some (t 0)
 pO:pos (tp j 0 1)=some (t 1)
 pR:pos (tp j 0 2)=some lr
 cT:c (tp j 0 0)=tO' z.T n w (p 0) X.pa (t 1) X.be lr
 cO:c (tp j 0 1)=.lst ((QF X.os.length).map fun i=>U.ref (o i))
 cR:c (tp j 0 2)=.lst (X.rw.map U.int)
 py:∀i y,X.os[i]?=some y->pos (tp j 1 i)=some (o i)
 cy:∀i y,X.os[i]?=some y->c (tp j 1 i)=yO z.Y y (ld i)
 pd:∀i y D,X.os[i]?=some y->y.d=some D->pos (tp j 2 i)=some (ld i)
 cd:∀i y D,X.os[i]?=some y->y.d=some D->c (tp j 2 i)=dOb z.D w n D
def ym(j:Nat)(s:Pl):Prop:=own j s\/∃f i,f<4/\s=tp j f i
def FmT(j:Nat)(pos:Pl->Option Nat)(c:Pl->O)(pos':Pl->Option Nat)(c':Pl->O):Prop:=∀s,¬ym j s->pos' s=pos s/\c' s=c s
def NT(z:Cz)(j:Nat)(n w:Int)(pos:Pl->Option Nat)(c:Pl->O)(p t o:Nat->Nat)(X':Tc)(T':Sto):Prop:=∃pos' c' q' lr' ld',Mm pos' c' T'/\Tr z j n w pos' c' X' p q' t o lr' ld'/\FmT j pos c pos' c'
def Tc.set(X:Tc)(i:Nat)(y:Tyg):Tc:={ X with os:=X.os.set i y }
variable{z:Cz}{X:Tc}{t ld:Nat->Nat}{lr:Nat}{y:Tyg}
section
variable{n w:Int}{o:Nat->Nat}{q q':Int->Nat->Nat}{K':Kc}
def FmT.refl:FmT j pos c pos c:=fun _ _=>⟨rfl,rfl⟩
def FmT.trans(h:FmT j pos c pos' c')(h':FmT j pos' c' pos'' c''):FmT j pos c pos'' c'':=fun s n=>⟨(h' s n).1.trans (h s n).1,(h' s n).2.trans (h s n).2⟩
def FmT.upd{o:O}(h:FmT j pos c pos' c')(hs:ym j s):FmT j pos c pos' (aE c' s o):=fun s' n'=>⟨(h s' n').1,by rw[aq (fun e=>n' (by rw[e];exact hs))];exact(h s' n').2⟩
def FmT.pn{k:Nat}(h:FmT j pos c pos' c')(hs:ym j s):FmT j pos c (eD pos' s k) c':=fun s' n'=>⟨by rw[aK (fun e=>n' (by rw[e];exact hs))];exact(h s' n').1,(h s' n').2⟩
def FmT.fm(h:Fm j pos c pos' c'):FmT j pos c pos' c':=fun s n=>h s fun z=>n (.inl z)
def ym.tp{f i:Nat}(h:f<4):ym j (tp j f i):=.inr ⟨f,i,h,rfl⟩
def aW{f f' i i':Nat}(h:¬(f=f'/\i=i')):tp j f i≠tp j f' i':=fun e=>by
 unfold tp at e;injection e with e1 e2;exact h ⟨by omega,e2⟩
def Gu{f i:Nat}:¬own j (tp j f i):=fun z=>z
def Tr.kp(R:Tr z j n w pos c X p q t o lr ld)(K':Kc)(kr:Kr z.K z.A j pos' c' K' p q')(F:Fm j pos c pos' c'):Tr z j n w pos' c' { X with K:=K' } p q' t o lr ld:=by
 have a:∀f i,pos' (tp j f i)=pos (tp j f i)/\c' (tp j f i)=c (tp j f i):=fun f i=>F _ Gu;exact⟨kr,by rw[(a 0 0).1];exact R.pT,by rw[(a 0 1).1];exact R.pO,by rw[(a 0 2).1];exact R.pR,by rw[(a 0 0).2];exact R.cT,by rw[(a 0 1).2];exact R.cO,by rw[(a 0 2).2];exact R.cR,fun i y h=>by rw[(a 1 i).1];exact R.py i y h,fun i y h=>by rw[(a 1 i).2];exact R.cy i y h,fun i y D h h'=>by rw[(a 2 i).1];exact R.pd i y D h h',fun i y D h h'=>by rw[(a 2 i).2];exact R.cd i y D h h'⟩
def Tr.keep(R:Tr z j n w pos c X p q t o lr ld)(F:∀s,ym j s->pos' s=pos s/\c' s=c s):Tr z j n w pos' c' X p q t o lr ld:=by
 have a:∀f i,f<3->pos' (tp j f i)=pos (tp j f i)/\c' (tp j f i)=c (tp j f i):=fun f i h=>F _ (.tp (by omega));have kk:∀f,pos' (.k j f)=pos (.k j f)/\c' (.k j f)=c (.k j f):=fun f=>F _ (.inl rfl);have aa:∀x f,pos' (.a j x f)=pos (.a j x f)/\c' (.a j x f)=c (.a j x f):=fun x f=>F _ (.inl rfl);have k:=R.kr;exact⟨⟨fun f hf=>by rw[(kk f).1];exact k.pk f hf,by rw[(kk 0).2];exact k.c0,by rw[(kk 1).2];exact k.c1,by rw[(kk 2).2];exact k.c2,by rw[(kk 3).2];exact k.c3,by rw[(kk 4).2];exact k.c4,by rw[(kk 5).2];exact k.c5,fun x hx f hf=>by rw[(aa x f).1];exact k.pa x hx f hf,fun x hx=>by rw[(aa x 0).2];exact k.a0 x hx,fun x hx=>by rw[(aa x 1).2];exact k.a1 x hx,fun x hx=>by rw[(aa x 2).2];exact k.a2 x hx,fun x hx=>by rw[(aa x 3).2];exact k.a3 x hx⟩,
  by rw[(a 0 0 (by decide)).1];exact R.pT,by rw[(a 0 1 (by decide)).1];exact R.pO,by rw[(a 0 2 (by decide)).1];exact R.pR,by rw[(a 0 0 (by decide)).2];exact R.cT,by rw[(a 0 1 (by decide)).2];exact R.cO,by rw[(a 0 2 (by decide)).2];exact R.cR,fun i y h=>by rw[(a 1 i (by decide)).1];exact R.py i y h,fun i y h=>by rw[(a 1 i (by decide)).2];exact R.cy i y h,fun i y D h h'=>by rw[(a 2 i (by decide)).1];exact R.pd i y D h h',fun i y D h h'=>by rw[(a 2 i (by decide)).2];exact R.cd i y D h h'⟩
def Kr.tp{f i k:Nat}{o:O}{K:Kc}(R:Kr z.K z.A j pos c K p q):Kr z.K z.A j pos (aE c (tp j f i) o) K p q:=R.fx Fx.upd
def Kr.tn{f i k:Nat}{o:O}{K:Kc}(R:Kr z.K z.A j pos c K p q):Kr z.K z.A j (eD pos (OQ.tp j f i) k) (aE c (OQ.tp j f i) o) K p q:=R.fx Fx.new
def Tr.tmp{k l:Nat}{b:O}(R:Tr z j n w pos c X p q t o lr ld):Tr z j n w (eD pos (tp j 3 k) l) (aE c (tp j 3 k) b) X p q t o lr ld:=
 ⟨R.kr.tn,by rw[aK (aW (by omega))];exact R.pT,by rw[aK (aW (by omega))];exact R.pO,by rw[aK (aW (by omega))];exact R.pR,by rw[aq (aW (by omega))];exact R.cT,by rw[aq (aW (by omega))];exact R.cO,by rw[aq (aW (by omega))];exact R.cR,fun i y h=>by rw[aK (aW (by omega))];exact R.py i y h,fun i y h=>by rw[aq (aW (by omega))];exact R.cy i y h,fun i y D h h'=>by rw[aK (aW (by omega))];exact R.pd i y D h h',fun i y D h h'=>by rw[aq (aW (by omega))];exact R.cd i y D h h'⟩
def oNe{k:Nat}{x y':Tyg}(e:¬k=i)(h:(X.set i y').os[k]?=some x):X.os[k]?=some x:=by
 unfold Tc.set at h;rw[Qt (Ne.symm e)]at h;exact h
def oEq{x y y':Tyg}(hi:X.os[i]?=some y)(h:(X.set i y').os[i]?=some x):x=y':=by
 unfold Tc.set at h;rw[ZK (Q4.mp hi).1]at h;exact(Option.some.inj h).symm
def Tr.sy(R:Tr z j n w pos c X p q t o lr ld)(hi:X.os[i]?=some y)(y':Tyg)(hd:y'.d=y.d):Tr z j n w pos (aE c (tp j 1 i) (yO z.Y y' (ld i))) (X.set i y') p q t o lr ld:=by
 refine⟨R.kr.tp (k:=0),R.pT,R.pO,R.pR,by rw[aq (aW (by omega))];exact R.cT,by rw[aq (aW (by omega))];unfold Tc.set;rw[Qs];exact R.cO,by rw[aq (aW (by omega))];exact R.cR,fun k x h=>?_,fun k x h=>?_,fun k x E h h'=>?_,fun k x E h h'=>?_⟩;by_cases e:k=i;subst e;exact R.py k y hi;exact R.py k x (oNe e h);by_cases e:k=i;subst e;cases oEq hi h;rw[aJ];rw[aq (aW (by omega))];exact R.cy k x (oNe e h);by_cases e:k=i;subst e;cases oEq hi h;exact R.pd k y E hi (by rw[<-hd];exact h');exact R.pd k x E (oNe e h) h';rw[aq (aW (by omega))];by_cases e:k=i;subst e;cases oEq hi h;exact R.cd k y E hi (by rw[<-hd];exact h');exact R.cd k x E (oNe e h) h'
def Tr.sd(R:Tr z j n w pos c X p q t o lr ld)(hi:X.os[i]?=some y)(hd:y.d=some D)(D':Dc):Tr z j n w pos (aE c (tp j 2 i) (dOb z.D w n D')) (X.set i { y with d:=some D' }) p q t o lr ld:=by
 refine⟨R.kr.tp (k:=0),R.pT,R.pO,R.pR,by rw[aq (aW (by omega))];exact R.cT,by rw[aq (aW (by omega))];unfold Tc.set;rw[Qs];exact R.cO,by rw[aq (aW (by omega))];exact R.cR,fun k x h=>?_,fun k x h=>?_,fun k x E h h'=>?_,fun k x E h h'=>?_⟩;by_cases e:k=i;subst e;exact R.py k y hi;exact R.py k x (oNe e h);rw[aq (aW (by omega))];by_cases e:k=i;subst e;cases oEq hi h;rw[R.cy k y hi];unfold yO;rw[hd];rfl;exact R.cy k x (oNe e h);by_cases e:k=i;subst e;exact R.pd k y D hi hd;exact R.pd k x E (oNe e h) h';by_cases e:k=i;subst e;cases oEq hi h;cases h';rw[aJ];rw[aq (aW (by omega))];exact R.cd k x E (oNe e h) h'
def Tr.sr(R:Tr z j n w pos c X p q t o lr ld)(rw':List Int):Tr z j n w pos (aE c (tp j 0 2) (.lst (rw'.map U.int))) { X with rw:=rw' } p q t o lr ld:=
 ⟨R.kr.tp (k:=0),R.pT,R.pO,R.pR,by rw[aq (aW (by omega))];exact R.cT,by rw[aq (aW (by omega))];exact R.cO,aJ,R.py,fun k x h=>by rw[aq (aW (by omega))];exact R.cy k x h,R.pd,fun k x E h h'=>by rw[aq (aW (by omega))];exact R.cd k x E h h'⟩
def Tr.nr(R:Tr z j n w pos c X p q t o lr ld)(rw':List Int)(lr':Nat):Tr z j n w (eD pos (tp j 0 2) lr') (aE (aE c (tp j 0 2) (.lst (rw'.map U.int))) (tp j 0 0) (tO' z.T n w (p 0) X.pa (t 1) X.be lr')) { X with rw:=rw' } p q t o lr' ld:=
 ⟨(R.kr.tn (f:=0) (i:=2) (k:=lr')).tp (k:=0),by rw[aK (aW (by omega))];exact R.pT,by rw[aK (aW (by omega))];exact R.pO,cX,aJ,by rw[aq (aW (by omega)),aq (aW (by omega))];exact R.cO,by rw[aq (aW (by omega)),aJ],
  fun k x h=>by rw[aK (aW (by omega))];exact R.py k x h,fun k x h=>by rw[aq (aW (by omega)),aq (aW (by omega))];exact R.cy k x h,fun k x E h h'=>by rw[aK (aW (by omega))];exact R.pd k x E h h',fun k x E h h'=>by rw[aq (aW (by omega)),aq (aW (by omega))];exact R.cd k x E h h'⟩
def Tr.sb(R:Tr z j n w pos c X p q t o lr ld)(be':Int):Tr z j n w pos (aE c (tp j 0 0) (tO' z.T n w (p 0) X.pa (t 1) be' lr)) { X with be:=be' } p q t o lr ld:=
 ⟨R.kr.tp (k:=0),R.pT,R.pO,R.pR,aJ,by rw[aq (aW (by omega))];exact R.cO,by rw[aq (aW (by omega))];exact R.cR,R.py,fun k x h=>by rw[aq (aW (by omega))];exact R.cy k x h,R.pd,fun k x E h h'=>by rw[aq (aW (by omega))];exact R.cd k x E h h'⟩
def Tr.nd(R:Tr z j n w pos c X p q t o lr ld)(hi:X.os[i]?=some y)(y':Tyg)(D':Dc)(hd:y'.d=some D')(l:Nat):Tr z j n w (eD pos (tp j 2 i) l) (aE (aE c (tp j 2 i) (dOb z.D w n D')) (tp j 1 i) (yO z.Y y' l)) (X.set i y') p q t o lr (fun k=>if k=i then l else ld k):=by
 refine⟨(R.kr.tn (f:=2) (i:=i) (k:=l)).tp (k:=0),by rw[aK (aW (by omega))];exact R.pT,by rw[aK (aW (by omega))];exact R.pO,by rw[aK (aW (by omega))];exact R.pR,by rw[aq (aW (by omega)),aq (aW (by omega))];exact R.cT,by rw[aq (aW (by omega)),aq (aW (by omega))];unfold Tc.set;rw[Qs];exact R.cO,by rw[aq (aW (by omega)),aq (aW (by omega))];exact R.cR,fun k x h=>?_,fun k x h=>?_,fun k x E h h'=>?_,fun k x E h h'=>?_⟩;rw[aK (aW (by omega))];by_cases e:k=i;subst e;exact R.py k y hi;exact R.py k x (oNe e h);by_cases e:k=i;subst e;cases oEq hi h;rw[aJ,X9 rfl];rw[aq (aW (by omega)),aq (aW (by omega)),XQ e];exact R.cy k x (oNe e h);by_cases e:k=i;subst e;rw[cX,X9 rfl];rw[aK (aW (by omega)),XQ e];exact R.pd k x E (oNe e h) h';rw[aq (aW (by omega))];by_cases e:k=i;subst e;cases oEq hi h;rw[hd]at h';cases h';rw[aJ];rw[aq (aW (by omega))];exact R.cd k x E (oNe e h) h'
end
def isF(X:Tc)(i:Nat):Bool:=decide (X.rw.take 1=[(i:Int)])
def slp(X:Tc)(y:Tyg):Bool:=decide (y.sg="asleep")&&!HF X.K (y.att.getD 0)
def sf(X:Tc)(i:Nat):Tc:={ X with rw:=X.rw.filter fun k=>!decide (k=(i:Int)) }
def DM(K:Kc)(a:Int):Kc:=K.end a "fall"
section
variable{m:Nat}{q:Int->Nat->Nat}
def vE(cK cA:Cl):Fn:=fnU 2 2 (iG (iI cK cA) (jw cK cA) cK)
def DB(M:Mm pos c T)(R:Kr cK cA j pos c K p q)(ha:a∈K.ids)(op:(K.A a).op=true)(st:(K.A a).st=none)(hl:K.ev.length<=9000):Wp (vE cK cA [.ref (p 0),.int a] T) fun r=>r.1=.non/\Nx cK cA j pos c p (DM K a) r.2:=by
 have t0:=M.get (R.pk 0 (by decide)) R.c0;have f:=mx M R ha op st;obtain⟨⟨u,T1⟩,e,rfl,N⟩:=nV (w:="fall") M R ha hl;refine⟨(.non,T1),?_,rfl,N⟩;unfold vE;rw[kq];rwa[iG,t0,f,e]
def rF(cK cA:Cl):Fn:=fnU 2 2 (dD cA cK)
def Ak:∀l:List Int,nU (dT l)=some l
 |[]=>rfl
 |a::r=>by show(nU (dT r)).map (a::·)=_;rw[Ak r];rfl
def Aj(M:Mm pos c T)(R:Kr cK cA j pos c K p q)(W:Kw K m)(ha:a∈K.ids)(h64:(K.A a).lk.length<64):rF cK cA [.ref (p 0),.int a] T=some (.ref T.length,T++[.lst ((bI (K.A a).lk).map U.int)]):=by
 have t0:=M.get (R.pk 0 (by decide)) R.c0;have t5:=M.get (R.pk 5 (by decide)) R.c5;have tr:=M.get (R.pa a ha 0 (by decide)) (R.a0 a ha);have tl:=M.get (R.pa a ha 1 (by decide)) (R.a1 a ha);have v:=jB (q:=q) ha;have hs:iW [.ref (q a 1)] T=some (.ref T.length,T++[.lst ((bI (K.A a).lk).map U.int)]):=by
  simp only[iW,tl,Ak,Q8];rw[X9 h64]
 unfold rF;rw[kq];rwa[dD,t0,t5,v,tr,hs]
end
section
variable{n w:Int}{o:Nat->Nat}{q:Int->Nat->Nat}{m:Nat}
def P9{S:Sto}{l:Nat}{lt:List Int}(h:S[l]?=some (.lst (lt.map U.int))):fSl (.ref l) none (some 1) S=some (.ref S.length,S++[.lst ((lt.take 1).map U.int)]):=by
 have e:HT.sIx (lt.map U.int).length (lt.map U.int).length (some ((1:Nat):Int))=min 1 lt.length:=by rw[HT.sIx_nat,Q9]
 simp only[fSl,h,Fp,HT.sIx_none];rw[show(1:Int)=((1:Nat):Int)from rfl,e,List.drop_zero,Nat.sub_zero,<-List.map_take];congr 6;by_cases hl:lt=[];subst hl;rfl;have:=List.length_pos_iff.mpr hl;rw[Nat.min_eq_left (by omega)]
def vF(cT:Cl):Fn:=fnU 2 2 (fb cT)
def Ay(M:Mm pos c T)(R:Tr z j n w pos c X p q t o lr ld):∃G,vF z.T [.ref (t 0),.int i] T=some (.bl (isF X i),T++G):=by
 have t0:=M.get R.pT R.cT;have tr:=M.get R.pR R.cR;unfold tO' at t0;have hs:=P9 tr;have he:=DO false (S:=T++[.lst ((X.rw.take 1).map U.int),.lst [.int (i:Int)]]) (l:=T.length) (l':=T.length+1) (ns:=X.rw.take 1) (ms:=[(i:Int)]) (by rw[ga0];rfl) (by rw[ga];rfl);rw[XQ QZ]at he;refine⟨[.lst ((X.rw.take 1).map U.int),.lst [.int (i:Int)]],?_⟩;obtain⟨us,hus⟩:∃us,us=(X.rw.take 1).map U.int:=⟨_,rfl⟩;rw[<-hus]at hs he ⊢;have ll:(T++[O.lst us]).length=T.length+1:=by rw[QH];rfl
 have hp:∀(ρ:Rho) (S:Sto),ug (some (cC (.int 1))) ρ S=some (some 1,S):=fun _ _=>rfl;have hn:∀(ρ:Rho) (S:Sto),ug none ρ S=some (none,S):=fun _ _=>rfl;unfold vF isF;rw[kq];rwa[fb,cSl,hp,hn,t0,hs,ll,he]
def BE(z:Cz):Fn:=fnU 2 2 (eW (rN z.K z.A) z.Y z.K z.T)
def EL(M:Mm pos c T)(R:Tr z j n w pos c X p q t o lr ld)(W:Kw X.K m)(hy:X.os[i]?=some y)(ha:y.sg="asleep"->∃a,y.att=some a/\a∈X.K.ids):∃G,BE z [.ref (t 0),.ref (o i)] T=some (.bl (slp X y),T++G):=by
 have t0:=M.get R.pT R.cT;have ty:=M.get (R.py i y hy) (R.cy i y hy);have k0:=M.get (R.kr.pk 0 (by decide)) R.kr.c0;unfold tO' at t0;unfold yO at ty;unfold BE slp;rw[kq];by_cases hs:y.sg="asleep";obtain⟨a,ea,ha⟩:=ha hs;obtain⟨G,e⟩:=Bh M R.kr W ha;rw[ea]at ty;refine⟨G,?_⟩;rw[ea];rwa[eW,ty,hs,t0,k0,stU,e,ZP,Bool.true_and];refine⟨[],?_⟩;rw[Z8];rwa[eW,ty,hs,Bool.false_and]
def rC(cT:Cl):Fn:=fnU 2 2 (eI cT)
def wC(M:Mm pos c T)(R:Tr z j n w pos c X p q t o lr ld)(hl:X.rw.length<=9000):Wp (rC z.T [.ref (t 0),.int i] T) fun r=>r.1=.non/\NT z j n w pos c p t o (sf X i) r.2:=by
 have t0:=M.get R.pT R.cT;have tr:=M.get R.pR R.cR;unfold tO' at t0;have hc:Wp (iH (iTp (aS z.T 5 (ah 0))) (gNm 0) (aR (cOp fNe (ah 0) (ah 1))) (ah 0) 1 [1] [uR (t 0),uI (i:Int)] T) fun r=>r.1=.ref T.length/\∃G,r.2=T++(.lst ((X.rw.filter fun k=>!decide (k=(i:Int))).map U.int)::G):=by
  refine yX (cs:=[uI (i:Int)]) (xs:=X.rw) (f:=U.int) (v:=U.int) (p:=fun k=>!decide (k=(i:Int))) (S1:=T) (tD (by rwa[t0]) tr) (fun G=>aC tr) hl rfl (fun k hk G=>?_) fun G=>⟨rfl,G,rfl⟩;refine .of (r:=(!decide (k=(i:Int)),T++G)) (by rwa[]) ⟨rfl,[],by rw[Z8],fun _=>.of (r:=(.int k,T++G++[])) rfl ⟨rfl,[],(Z8 _).symm⟩⟩
 obtain⟨⟨u,T1⟩,e,hu,G,hG⟩:=hc;dsimp only at hu hG;subst hu hG;have M1:=M.new (tp j 0 2) (.lst ((X.rw.filter fun k=>!decide (k=(i:Int))).map U.int)) G;have R1:=R.nr (X.rw.filter fun k=>!decide (k=(i:Int))) T.length;have pT:eD pos (tp j 0 2) T.length (tp j 0 0)=some (t 0):=by rw[aK (aW (by omega))];exact R.pT
 have s0:=M1.get pT ((aq (aW (by omega))).trans R.cT);unfold tO' at s0;obtain⟨T2,hT2⟩:∃T2,T2=T++(.lst ((X.rw.filter fun k=>!decide (k=(i:Int))).map U.int)::G):=⟨_,rfl⟩;rw[<-hT2]at M1 s0 e;refine⟨(.non,_),?_,rfl,_,_,q,_,ld,M1.set pT (tO' z.T n w (p 0) X.pa (t 1) X.be T.length),R1,((FmT.refl.pn (.tp (by omega))).upd (.tp (by omega))).upd (.tp (by omega))⟩;unfold rC tO';rw[kq];rwa[eI,e,s0]
end
def oz(y:Tyg):Tyg:={ y with sg:="out",fa:=y.fa+1,fl:=y.fl+1 }
def fP(X:Tc)(i:Nat)(y:Tyg):Tc:=if X.pa=some (y.fl+1)then { X.set i (oz y)with rw:=X.rw++[(i:Int)] } else X.set i (oz y)
def xH(X:Tc)(i:Nat)(y:Tyg):Tc:=sf (X.set i { y with sg:="done" }) i
def vY(X:Tc)(i:Nat)(y:Tyg)(a:Int):Tc:=sf (({ X with K:=DM X.K a }:Tc).set i { y with sg:="asleep",fl:=0 }) i
def oY(X:Tc)(i:Nat)(y:Tyg):Tc:={ X.set i { y with att:=some X.be,d:=some (mq y.dl),sg:="in" } with be:=X.be+1,K:=cM X.K X.be }
section
variable{n w:Int}{o:Nat->Nat}{q:Int->Nat->Nat}
def yo(hy:X.os[i]?=some y):atI ((QF X.os.length).map fun i=>U.ref (o i)) (i:Int)=uR (o i):=i9 (by rw[QL,Zn (Q4.mp hy).1];rfl)
def LJ{a:Int}{pa:Option Int}{S:Sto}:fEq (.int a) (stU pa) S=some (.bl (decide (pa=some a)),S):=by
 cases pa with
 |none=>rfl
 |some b=>
  show some (U.bl (decide (a=b)),S)=_;congr 3;exact decide_eq_decide.mpr ⟨fun h=>by rw[h],fun h=>(Option.some.inj h).symm⟩
def uA(z:Cz):Fn:=fnU 3 2 (cS z.T z.Y)
def AN(M:Mm pos c T)(R:Tr z j n w pos c X p q t o lr ld)(hy:X.os[i]?=some y)(hl:X.rw.length<=9000):Wp (uA z [.ref (t 0),.int i] T) fun r=>r.1=.str "fell"/\NT z j n w pos c p t o (fP X i y) r.2:=by
 have t0:=M.get R.pT R.cT;have t1:=M.get R.pO R.cO;have ty:=M.get (R.py i y hy) (R.cy i y hy);unfold tO' at t0;unfold yO at ty;have ao:=yo (o:=o) hy;have lt:=M.lt (R.py i y hy);have g:∀x:O,(T.set (o i) x)[o i]?=some x:=fun x=>by rw[ZR,X9 rfl,X9 lt]
 have M1:=M.set (R.py i y hy) (yO z.Y (oz y) (ld i));have R1:=R.sy hy (oz y) rfl;have s0:=M1.get R1.pT R1.cT;have sr:=M1.get R1.pR R1.cR;unfold tO' at s0;have ey:yO z.Y (oz y) (ld i)=.ins z.Y [some (.tup y.dl),some (stU y.att),some (duU y.d (ld i)),some (.str "out"),uI (y.fa+1),uI (y.fl+1)]:=rfl;have ep:(X.set i (oz y)).pa=X.pa:=rfl;have er:(X.set i (oz y)).rw=X.rw:=rfl;rw[ey]at s0 sr;rw[ep]at s0;rw[er]at sr;have hL:(X.rw.map U.int).length<LIM:=by rw[Q9];unfold LIM;omega
 have F1:FmT j pos c pos (aE c (tp j 1 i) (yO z.Y (oz y) (ld i))):=FmT.refl.upd (.tp (by omega));unfold uA fP;rw[oe];by_cases hp:X.pa=some (y.fl+1);have eq:=fun S=>LJ (a:=y.fl+1) (pa:=X.pa) (S:=S);rw[XX hp]at eq;rw[X9 hp];have M2:=M1.set R1.pR (.lst ((X.rw++[(i:Int)]).map U.int));have R2:=R1.sr (X.rw++[(i:Int)]);refine⟨(.str "fell",_),?_,rfl,_,_,q,lr,ld,M2,R2,F1.upd (.tp (by omega))⟩;rw[ey,Zg];rwa[cS,t0,t1,ao,ty,g,ZL,s0,sr,eq,fO hL];have eq:=fun S=>LJ (a:=y.fl+1) (pa:=X.pa) (S:=S);rw[XZ hp]at eq;rw[XQ hp];refine⟨(.str "fell",_),?_,rfl,_,_,q,lr,ld,M1,R1,F1⟩;rw[ey];rwa[cS,t0,t1,ao,ty,g,ZL,s0,eq]
def uB(z:Cz):Fn:=fnU 3 2 (fV (rC z.T) z.T z.Y)
def A0(M:Mm pos c T)(R:Tr z j n w pos c X p q t o lr ld)(hy:X.os[i]?=some y)(hl:X.rw.length<=9000):Wp (uB z [.ref (t 0),.int i] T) fun r=>r.1=.str "done"/\NT z j n w pos c p t o (xH X i y) r.2:=by
 have t0:=M.get R.pT R.cT;have t1:=M.get R.pO R.cO;have ty:=M.get (R.py i y hy) (R.cy i y hy);unfold tO' at t0;unfold yO at ty;have ao:=yo (o:=o) hy;have M1:=M.set (R.py i y hy) (yO z.Y { y with sg:="done" } (ld i));have R1:=R.sy hy { y with sg:="done" } rfl;have s0:=M1.get R1.pT R1.cT;unfold tO' at s0;have F1:FmT j pos c pos (aE c (tp j 1 i) (yO z.Y { y with sg:="done" } (ld i))):=FmT.refl.upd (.tp (by omega));obtain⟨⟨u,T2⟩,e,rfl,pos2,c2,q2,lr2,ld2,M2,R2,F2⟩:=wC (i:=i) M1 R1 hl;dsimp only at M2;refine⟨(.str "done",T2),?_,rfl,pos2,c2,q2,lr2,ld2,M2,R2,F1.trans F2⟩;have ey:yO z.Y { y with sg:="done" } (ld i)=.ins z.Y [some (.tup y.dl),some (stU y.att),some (duU y.d (ld i)),some (.str "done"),uI y.fa,uI y.fl]:=rfl;rw[ey]at s0 e;unfold uB;rw[oe];rwa[fV,t0,t1,ao,ty,s0,e]
def vD(z:Cz):Fn:=fnU 3 2 (eL (vE z.K z.A) (rC z.T) z.T z.K z.Y)
def Cq(M:Mm pos c T)(R:Tr z j n w pos c X p q t o lr ld)(hy:X.os[i]?=some y)(ea:y.att=some a)(ha:a∈X.K.ids)(op:(X.K.A a).op=true)(st:(X.K.A a).st=none)(hl:X.rw.length<=9000)(he:X.K.ev.length<=9000):Wp (vD z [.ref (t 0),.int i] T) fun r=>r.1=.str "slept"/\NT z j n w pos c p t o (vY X i y a) r.2:=by
 have t0:=M.get R.pT R.cT;have t1:=M.get R.pO R.cO;have k0:=M.get (R.kr.pk 0 (by decide)) R.kr.c0;have ty:=M.get (R.py i y hy) (R.cy i y hy);unfold tO' at t0;unfold yO at ty;rw[ea]at ty;have ao:=yo (o:=o) hy;obtain⟨⟨u,T1⟩,e1,rfl,pos1,c1,q1,M1,R1,F1⟩:=DB M R.kr ha op st he;dsimp only at M1;have R2:=R.kp _ R1 F1;have hy2:({ X with K:=DM X.K a }:Tc).os[i]?=some y:=hy;have ty2:=M1.get (R2.py i y hy2) (R2.cy i y hy2);unfold yO at ty2;rw[ea]at ty2;have lt:=M1.lt (R2.py i y hy2);have g:∀x:O,(T1.set (o i) x)[o i]?=some x:=fun x=>by rw[ZR,X9 rfl,X9 lt]
 have M3:=M1.set (R2.py i y hy2) (yO z.Y { y with sg:="asleep",fl:=0 } (ld i));have R3:=R2.sy hy2 { y with sg:="asleep",fl:=0 } rfl;have s0:=M3.get R3.pT R3.cT;unfold tO' at s0;have F3:FmT j pos c pos1 (aE c1 (tp j 1 i) (yO z.Y { y with sg:="asleep",fl:=0 } (ld i))):=(FmT.fm F1).upd (.tp (by omega));obtain⟨⟨u,T4⟩,e4,rfl,pos4,c4,q4,lr4,ld4,M4,R4,F4⟩:=wC (i:=i) M3 R3 hl;dsimp only at M4;refine⟨(.str "slept",T4),?_,rfl,pos4,c4,q4,lr4,ld4,M4,R4,F3.trans F4⟩;have ey:yO z.Y { y with sg:="asleep",fl:=0 } (ld i)=.ins z.Y [some (.tup y.dl),some (stU (some a)),some (duU y.d (ld i)),some (.str "asleep"),uI y.fa,uI 0]:=by rw[<-ea];rfl
 rw[ey]at s0 e4;unfold vD;rw[oe];simp only[stU]at ty ty2 s0 e4;rwa[eL,t0,t1,k0,ao,ty,e1,ty2,g,ZL,s0,e4]
def Ht{dl:List U}{e:Nat}(hz:CzO z)(h:∀u∈dl,DU n w e u)(he:e<=50)(n0:1<=n)(n1:n<=6):fU z.D (BI z.D) [.tup [.int n,.int w],.tup dl] T=some (.ref T.length,T++[dOb z.D w n (mq dl)]):=by
 have P:PtW n w 0 (pt dl 0 .non .non):=.top h he (Zi _) .no;obtain⟨o,d',hy⟩:=P.onw';have eo:=fun S:Sto=>sV (S:=S) o (by omega);have mul:∀S:Sto,n6 (.tup [.non]) (.int n) S=some (.tup (QX n.toNat .non),S):=fun S=>by
  have hc:[U.non]≠[]/\1<=n/\[U.non].length*n.toNat<=1000:=⟨by simp,n0,by rw[X0];omega⟩;simp only[n6];rw[X9 hc];simp
 unfold pt at eo;rw[rR,hz.D];unfold BI;rw[t7];have eq:dOb z.D w n (mq dl)=.ins z.D [uI w,some (.tup [.int 0,.int 0,.int 0,.int 0]),some (.tup (QX n.toNat .non)),some (yn (pt dl 0 .non .non))]:=by
  unfold dOb dO mq;rw[DZ];rfl
 rw[eq];unfold pt;rwa[i4,QX,mul,eo]
def xn(z:Cz):Fn:=fnU 2 2 (iC (vH z.K z.A) (BI z.D) z.T z.Y z.D z.K)
def HV{e:Nat}(hz:CzO z)(M:Mm pos c T)(R:Tr z j n w pos c X p q t o lr ld)(hy:X.os[i]?=some y)(hd:∀u∈y.dl,DU n w e u)(e50:e<=50)(n0:1<=n)(n1:n<=6)(hb:X.be∉X.K.ids)(hi:X.K.ids.length<=9000)(hl:X.K.ev.length<=9000):Wp (xn z [.ref (t 0),.ref (o i)] T) fun r=>r.1=.str "begun"/\NT z j n w pos c p t o (oY X i y) r.2:=by
 have t0:=M.get R.pT R.cT;have ty:=M.get (R.py i y hy) (R.cy i y hy);unfold tO' at t0;unfold yO at ty;obtain⟨T1,hT1⟩:∃T1,T1=T.set (o i) (yO z.Y { y with att:=some X.be } (ld i)):=⟨_,rfl⟩;have M1:Mm pos (aE c (tp j 1 i) (yO z.Y { y with att:=some X.be } (ld i))) T1:=by rw[hT1];exact M.set (R.py i y hy) _
 have s0:=M1.get R.pT ((aq (aW (by omega))).trans R.cT);have sy:=M1.get (R.py i y hy) aJ;unfold tO' at s0;have ey:yO z.Y { y with att:=some X.be } (ld i)=.ins z.Y [some (.tup y.dl),uI X.be,some (duU y.d (ld i)),some (.str y.sg),uI y.fa,uI y.fl]:=rfl;rw[ey]at sy hT1;have en:=Ht (T:=T1) hz hd e50 n0 n1;have M2:=M1.new (tp j 2 i) (dOb z.D w n (mq y.dl)) [];obtain⟨T2,hT2⟩:∃T2,T2=T1++[dOb z.D w n (mq y.dl)]:=⟨_,rfl⟩;rw[<-hT2]at M2 en;have py2:eD pos (tp j 2 i) T1.length (tp j 1 i)=some (o i):=(aK (aW (by omega))).trans (R.py i y hy);have sy2:=aC (r:=[dOb z.D w n (mq y.dl)]) sy;rw[<-hT2]at sy2;have lt2:=M2.lt py2;have g:∀x:O,(T2.set (o i) x)[o i]?=some x:=fun x=>by rw[ZR,X9 rfl,X9 lt2]
 have M3:=M2.set py2 (yO z.Y { y with att:=some X.be,d:=some (mq y.dl),sg:="in" } T1.length);have ec:aE (aE (aE c (tp j 1 i) (yO z.Y { y with att:=some X.be } (ld i))) (tp j 2 i) (dOb z.D w n (mq y.dl))) (tp j 1 i) (yO z.Y { y with att:=some X.be,d:=some (mq y.dl),sg:="in" } T1.length)=aE (aE c (tp j 2 i) (dOb z.D w n (mq y.dl))) (tp j 1 i) (yO z.Y { y with att:=some X.be,d:=some (mq y.dl),sg:="in" } T1.length):=by
  funext s;by_cases h1:s=tp j 1 i;subst h1;rw[aJ,aJ];rw[aq h1,aq h1];by_cases h2:s=tp j 2 i;subst h2;rw[aJ,aJ];rw[aq h2,aq h2,aq h1]
 rw[ec]at M3;have R3:=R.nd hy { y with att:=some X.be,d:=some (mq y.dl),sg:="in" } (mq y.dl) rfl T1.length;have s3:=M3.get R3.pT R3.cT;unfold tO' at s3;have M4:=M3.set R3.pT (tO' z.T n w (p 0) X.pa (t 1) (X.be+1) lr);have R4:=R3.sb (X.be+1);have s4:=M4.get R4.pT R4.cT;have k4:=M4.get (R4.kr.pk 0 (by decide)) R4.kr.c0;have y4:=M4.get (R4.py i { y with att:=some X.be,d:=some (mq y.dl),sg:="in" } (by show(X.os.set i _)[i]?=_;rw[ZK (Q4.mp hy).1])) (R4.cy i { y with att:=some X.be,d:=some (mq y.dl),sg:="in" } (by show(X.os.set i _)[i]?=_;rw[ZK (Q4.mp hy).1]));unfold tO' at s4 k4 y4 M4;obtain⟨⟨u,T5⟩,e5,rfl,pos5,c5,q5,M5,R5,F5⟩:=Ei hz.A M4 R4.kr hb hi hl;dsimp only at M5;refine⟨(.str "begun",T5),?_,rfl,pos5,c5,q5,lr,_,M5,R4.kp _ R5 F5,FmT.trans ((((FmT.refl.pn (.tp (by omega))).upd (.tp (by omega))).upd (.tp (by omega))).upd (.tp (by omega))) (.fm F5)⟩;have ey3:yO z.Y { y with att:=some X.be,d:=some (mq y.dl),sg:="in" } T1.length=.ins z.Y [some (.tup y.dl),uI X.be,uR T1.length,some (.str "in"),uI y.fa,uI y.fl]:=rfl;have ey4:yO z.Y { y with att:=some X.be,d:=some (mq y.dl),sg:="in" } (if i=i then T1.length else ld i)=.ins z.Y [some (.tup y.dl),uI X.be,uR T1.length,some (.str "in"),uI y.fa,uI y.fl]:=by rw[X9 rfl];rfl
 rw[ey3]at s3 s4 k4 y4 e5;rw[ey4]at y4;have eX:(X.set i { y with att:=some X.be,d:=some (mq y.dl),sg:="in" }).pa=X.pa:=rfl;have eB:(X.set i { y with att:=some X.be,d:=some (mq y.dl),sg:="in" }).be=X.be:=rfl;have eK:(X.set i { y with att:=some X.be,d:=some (mq y.dl),sg:="in" }).K=X.K:=rfl;rw[eX,eB]at s3;dsimp only at s4 k4;rw[eX]at s4;unfold xn;rw[kq];rwa[iC,t0,ty,hT1.symm,s0,sy,en,sy2,g,ZL,s3,s4,k4,y4,e5]
end
def me{t:CT}{v:CE}{c2:CS}{ρ:Rho}{S S1:Sto}{b:Bool}{Q:U×Sto->Prop}(ht:t ρ S=some (b,S1))(h1:b=true->Wp (v ρ S1) Q)(h2:b=false->Wp ((c2 ρ S1).bind kFn) Q):Wp ((aV (dQ t (bT v) bP) c2 ρ S).bind kFn) Q:=by
 rw[xq,xv,ht,Q8];cases b with
 |true=>
  obtain⟨⟨u,S2⟩,e,hq⟩:=h1 rfl;rw[vO,FC,e];exact⟨_,rfl,hq⟩
 |false=>
  rw[vN];exact h2 rfl
def IC{v:CE}{ρ:Rho}{S:Sto}{Q:U×Sto->Prop}(h:Wp (v ρ S) Q):Wp ((bT v ρ S).bind kFn) Q:=by
 obtain⟨⟨u,S2⟩,e,hq⟩:=h;rw[FC,e];exact⟨_,rfl,hq⟩
def jT(X:Tc)(i:Nat)(y:Tyg)(D:Dc)(a b:Int):Str×Tc:=
 if (isF X i&&brd X.K a [b])=true then("held",X)else
 match (cV X.K a b).1 with
 |.tup [.str _,.int v]=>("went",({ X with K:=(cV X.K a b).2 }:Tc).set i { y with d:=some (rh D v) })
 |_=>("fell",fP { X with K:=(cV X.K a b).2 } i y)
def qC(K:Kc)(a b:Int):(cV K a b).1=.tup [.str "falls"]\/∃v,(cV K a b).1=.tup [.str "number",.int v]:=by
 unfold cV;split;exact .inr ⟨_,rfl⟩;split;exact .inl rfl;exact .inr ⟨_,rfl⟩
def nW(K:Kc)(a b:Int):(cV K a b).2.ids=K.ids:=by
 unfold cV;split;rfl
 ·split<;>rfl
section
variable{n w:Int}{o:Nat->Nat}{q:Int->Nat->Nat}{u:U}
def fhn:decide (("number":Str)="falls")=false:=by decide +kernel
def rL(z:Cz):Fn:=fnU 5 2 (d7 (ja z.D) (vF z.T) (cE z.K) (BF z.K z.A) (uA z) (xm z.D) z.T z.D z.Y z.K)
def AL(M:Mm pos c T)(R:Tr z j n w pos c X p q t o lr ld)(I:Ki X.K n.toNat)(hy:X.os[i]?=some y)(ea:y.att=some a)(ed:y.d=some D)(hD:DgW n w D)(ha:a∈X.K.ids)(op:(X.K.A a).op=true)(st:(X.K.A a).st=none)(hd:gM D=some u)(hk:HM u=true)(n0:0<=n)(hl:X.rw.length<=9000)(he:X.K.ev.length<=9000) :
  Wp (rL z [.ref (t 0),.int i] T) fun r=>r.1=.str (jT X i y D a (lkB u)).1/\NT z j n w pos c p t o (jT X i y D a (lkB u)).2 r.2:=by
 obtain⟨g,b,rfl,g0,g1,b0,b1⟩:=hD.ask hd hk;have t0:=M.get R.pT R.cT;have t1:=M.get R.pO R.cO;have ty:=M.get (R.py i y hy) (R.cy i y hy);have td:=M.get (R.pd i y D hy ed) (R.cd i y D hy ed);have tl:=M.get (R.kr.pa a ha 1 (by decide)) (R.kr.a1 a ha);have k0:=M.get (R.kr.pk 0 (by decide)) R.kr.c0;have e1:=wX hD td tl hd;have td':=td;unfold tO' at t0;unfold yO at ty;rw[ea,ed]at ty;unfold dOb dO at td';have ao:=yo (o:=o) hy;have hb:lkB (lj.u (.look g b))=b:=rfl;rw[hb];simp only[lj.u]at e1;simp only[stU,duU]at ty;unfold rL;rw[LP];unfold d7;rw[fY (ρ':=[uR (t 0),uI i,uR (o i),none,none]) (S':=T) (by rwa[t0,t1,ao])];rw[fY (ρ':=[uR (t 0),uI i,uR (o i),uI b,none]) (S':=T) (by rwa[ty,td',e1])];obtain⟨G1,f1⟩:=Ay (i:=i) M R;have M1:=M.app G1;have ty1:=aC (r:=G1) ty;have t01:=aC (r:=G1) t0;have k01:=aC (r:=G1) k0;obtain⟨G2,f2⟩:=vA (a:=a) (lb:=(T++G1).length) (bs:=[b]) (M1.app [.lst [.int b]]) R.kr (by rw[ga0];rfl) (by simp);have cond:∃G,(yf (aR (aM z.T (vF z.T) (ah 0) (ag (ah 1) ay))) (aR (aM z.K (cE z.K) (aS z.T 1 (ah 0)) (ag (aS z.Y 1 (ah 2)) (ag (mH (ag (ah 3) ay)) ay))))) [uR (t 0),uI i,uR (o i),uI b,none] T=some (isF X i&&brd X.K a [b],T++G):=by
  cases hf:isF X i with
  |false=>
   rw[hf]at f1;exact⟨G1,by rwa[t0,f1,Bool.false_and]⟩
  |true=>
   rw[hf]at f1;obtain⟨S1,hS1⟩:∃S1,S1=T++G1:=⟨_,rfl⟩;rw[<-hS1]at f1 f2 ty1 t01 k01;refine⟨G1++([.lst [.int b]]++G2),?_⟩;rw[show T++(G1++([O.lst [.int b]]++G2))=S1++[O.lst [.int b]]++G2 by rw[hS1];simp];have k02:=aC (r:=[O.lst [U.int b]]) k01;simp only[t0,f1,ty1,t01,k01,f2,Bool.true_and,Jt,EB,EA,vL,qd,Ew,yy,yx,yw,uE,mK,lu,jA,jy,uF,FJ,vQ,vP,Jg,Ex,Q8,ZI,ZO,Option.join_some]
 obtain⟨G,f3⟩:=cond;have M2:=M.app G;obtain⟨T2,hT2⟩:∃T2,T2=T++G:=⟨_,rfl⟩;rw[<-hT2]at f3 M2;refine me f3 (fun hh=>?_) (fun hh=>?_);unfold jT;rw[X9 hh];exact .of rfl ⟨rfl,pos,c,q,lr,ld,M2,R,FmT.refl⟩;have s0:=M2.get R.pT R.cT;have sy:=M2.get (R.py i y hy) (R.cy i y hy);have sk0:=M2.get (R.kr.pk 0 (by decide)) R.kr.c0;unfold tO' at s0;unfold yO at sy;rw[ea,ed]at sy;simp only[stU,duU]at sy;have hh':¬(isF X i&&brd X.K a [b])=true:=by rw[hh];exact QZ
 obtain⟨⟨v1,T3⟩,e3,hv1,pos3,c3,q3,M3,R3,F3⟩:=Hv M2 R.kr I.w ha op st b0 (by omega) he;dsimp only at hv1 M3;have R4:=R.kp _ R3 F3;have s3:=M3.get R4.pT R4.cT;unfold tO' at s3;have sy3:=M3.get (R4.py i y hy) (R4.cy i y hy);unfold yO at sy3;rw[ea,ed]at sy3;simp only[stU,duU]at sy3;rw[fY (ρ':=[uR (t 0),uI i,uR (o i),uI b,some v1]) (S':=T3) (by rwa[s0,sk0,sy,e3])];unfold jT;rw[XQ hh'];rcases qC X.K a b with hc|⟨v,hc⟩;rw[hc]at hv1 ⊢;subst hv1;refine me (b:=true) (S1:=T3) (by rwa[]) (fun _=>?_) (fun z=>nomatch z);obtain⟨⟨v2,T4⟩,e4,rfl,pos4,c4,q4,lr4,ld4,M4,R5,F4⟩:=AN (i:=i) M3 R4 hy hl;dsimp only at M4;exact .of (r:=(.str "fell",T4)) (by rwa[s3,e4]) ⟨rfl,pos4,c4,q4,lr4,ld4,M4,R5,(FmT.fm F3).trans F4⟩;rw[hc]at hv1 ⊢;subst hv1;refine me (b:=false) (S1:=T3) (by rwa[fhn]) (fun z=>nomatch z) (fun _=>?_);have sd3:=M3.get (R4.pd i y D hy ed) (R4.cd i y D hy ed);have ha3:a∈(cV X.K a b).2.ids:=by
  rw[nW];exact ha
 have sl3:=M3.get (R4.kr.pa a ha3 1 (by decide)) (R4.kr.a1 a ha3);obtain⟨e5,hD5⟩:=wQ (v:=v) hD sd3 sl3 hd hk;have M5:=M3.set (R4.pd i y D hy ed) (dOb z.D w n (rh D v));have R5:=R4.sd (i:=i) hy ed (rh D v);unfold dOb dO at sd3;refine .of (r:=(.str "went",_)) ?_ ⟨rfl,_,_,q3,lr,ld,M5,R5,(FmT.fm F3).upd (.tp (by omega))⟩;rwa[sy3,sd3,e5]
end
def ID(X:Tc)(i:Nat)(a:Int)(bs:List Int):Bool:=if isF X i=true then brd X.K a (bI (X.K.A a).lk++bs)else match X.rw with
 |[]=>false
 |k::_=>inU (.str ((X.os[k.toNat]?).map Tyg.sg |>.getD "")) [.str "in",.str "taken"]
def cm(K:Kc)(a:Int)(ps:List (Int×Int)):Kc:=ps.foldl (fun K e=>va K a e.1 e.2) K
def jC(n:Int)(X:Tc)(i:Nat)(y:Tyg)(D:Dc)(a:Int):Str×Tc:=
 if (!decide (ppL n ⟨D.hs,D.ps,[]⟩=[])&&ID X i a ((ppL n ⟨D.hs,D.ps,[]⟩).map (·.1)))=true then("held",X)else
 if (bR (cm X.K a (ppL n ⟨D.hs,D.ps,[]⟩)) a).1="falls" then("fell",fP { X with K:=(bR (cm X.K a (ppL n ⟨D.hs,D.ps,[]⟩)) a).2 } i y)else
 if (bR (cm X.K a (ppL n ⟨D.hs,D.ps,[]⟩)) a).1="done" then("done",xH { X with K:=(bR (cm X.K a (ppL n ⟨D.hs,D.ps,[]⟩)) a).2 } i y)else
 ("took",({ X with K:=(bR (cm X.K a (ppL n ⟨D.hs,D.ps,[]⟩)) a).2 }:Tc).set i { y with sg:="taken" })
def mN(X:Tc)(i:Nat)(y:Tyg)(a:Int):Str×Tc:=
 if (bJ X.K a).1="done" then("done",xH { X with K:=(bJ X.K a).2 } i y)else("wrote",{ X with K:=(bJ X.K a).2 })
def qA:(va K a b v).A a={ K.A a with pu:=fZ (K.A a).pu b v }:=X9 rfl
def HG{x:Int}(h:x≠a):(va K a b v).A x=K.A x:=XQ h
def qz(a:Int):∀(ps:List (Int×Int)) (K:Kc),Ki K n->a∈K.ids->(K.A a).st=none->(∀e∈ps,0<=e.1/\e.1<n)->Ki (cm K a ps) n/\(cm K a ps).ids=K.ids/\((cm K a ps).A a).op=(K.A a).op/\((cm K a ps).A a).st=none/\(∀x,x≠a->(cm K a ps).A x=K.A x)/\(cm K a ps).ev.length=K.ev.length+ps.length/\(cm K a ps).ho=K.ho/\(cm K a ps).tk=K.tk
 |[],K,I,ha,st,_=>⟨I,rfl,rfl,st,fun _ _=>rfl,rfl,rfl,rfl⟩
 |e::ps,K,I,ha,st,hb=>by
  have hb0:=hb e QN;have st':((va K a e.1 e.2).A a).st=none:=by rw[qA];exact st
  obtain⟨h1,h2,h3,h4,h5,h6,h7,h8⟩:=qz a ps (va K a e.1 e.2) (I.put ha st hb0.1 hb0.2) ha st' fun x hx=>hb x (QY _ hx);refine⟨h1,h2,?_,h4,fun x hx=>(h5 x hx).trans (HG hx),?_,h7,h8⟩;show((cm (va K a e.1 e.2) a ps).A a).op=_;rw[h3,qA];show(cm (va K a e.1 e.2) a ps).ev.length=_;rw[h6];show(K.ev++[_]).length+_=_;simp;omega
section
variable{n w:Int}{o:Nat->Nat}{q:Int->Nat->Nat}
def ox(z:Cz):Fn:=fnU 4 3 (bW (vF z.T) (cE z.K) (rF z.K z.A) z.T z.Y z.K)
def Dm{lb:Nat}{bs:List Int}(M:Mm pos c T)(R:Tr z j n w pos c X p q t o lr ld)(I:Ki X.K n.toNat)(n1:n<=6)(hy:X.os[i]?=some y)(ea:y.att=some a)(ha:a∈X.K.ids)(hb:T[lb]?=some (.lst (bs.map U.int)))(hl:bs.length<=100)(hr:∀k∈X.rw,0<=k/\k<X.os.length) :
  ∃G,ox z [.ref (t 0),.int i,.ref lb] T=some (.bl (ID X i a bs),T++G):=by
 have t0:=M.get R.pT R.cT;have t1:=M.get R.pO R.cO;have tr:=M.get R.pR R.cR;have ty:=M.get (R.py i y hy) (R.cy i y hy);have k0:=M.get (R.kr.pk 0 (by decide)) R.kr.c0;unfold tO' at t0;unfold yO at ty;rw[ea]at ty;simp only[stU]at ty;have ao:=yo (o:=o) hy;obtain⟨G1,f1⟩:=Ay (i:=i) M R;have M1:=M.app G1;have s0:=aC (r:=G1) t0;have s1:=aC (r:=G1) t1;have sr:=aC (r:=G1) tr;have sy:=aC (r:=G1) ty;have sk:=aC (r:=G1) k0;have sb:=aC (r:=G1) hb;obtain⟨S1,hS1⟩:∃S1,S1=T++G1:=⟨_,rfl⟩;rw[<-hS1]at f1 M1 s0 s1 sr sy sk sb;unfold ox ID;rw[LQ];cases hf:isF X i with
 |true=>
  rw[hf]at f1;have lk:=qW (I.lkn a ha) (I.lkb a ha);have e2:=Aj M1 R.kr I.w ha (by omega);have ls:=(gX (X.K.A a).lk).length_eq;have s02:=aC (r:=[O.lst ((bI (X.K.A a).lk).map U.int)]) s0;have sk2:=aC (r:=[O.lst ((bI (X.K.A a).lk).map U.int)]) sk;have ec:iM (.ref S1.length) (.ref lb) (S1++[.lst ((bI (X.K.A a).lk).map U.int)])=some (.ref (S1.length+1),S1++[.lst ((bI (X.K.A a).lk).map U.int),.lst ((bI (X.K.A a).lk++bs).map U.int)]):=by
   have g1:(S1++[O.lst ((bI (X.K.A a).lk).map U.int)])[S1.length]?=some (.lst ((bI (X.K.A a).lk).map U.int)):=by rw[ga0];rfl
   have g2:=aC (r:=[O.lst ((bI (X.K.A a).lk).map U.int)]) sb;simp only[iM,qX,g1,g2];rw[X9 (by simp;unfold LIM;omega)];simp
  obtain⟨G2,f2⟩:=vA (a:=a) (lb:=S1.length+1) (bs:=bI (X.K.A a).lk++bs) (M1.app [.lst ((bI (X.K.A a).lk).map U.int),.lst ((bI (X.K.A a).lk++bs).map U.int)]) R.kr (by rw[ga];rfl) (by rw[QH];omega);refine⟨G1++([.lst ((bI (X.K.A a).lk).map U.int),.lst ((bI (X.K.A a).lk++bs).map U.int)]++G2),?_⟩;rw[X9 rfl,<-Qw,<-hS1,<-Qw];obtain⟨o1,ho1⟩:∃o1,o1=O.lst ((bI (X.K.A a).lk).map U.int):=⟨_,rfl⟩;obtain⟨o2,ho2⟩:∃o2,o2=O.lst ((bI (X.K.A a).lk++bs).map U.int):=⟨_,rfl⟩;rw[<-ho1]at e2 s02 sk2 ec f2;rw[<-ho2]at ec f2;rw[<-ho1,<-ho2];unfold bW;rwa[t0,f1,s0,s1,ao,sy,sk,e2,ec,f2]
 |false=>
  rw[hf]at f1;refine⟨G1,?_⟩;rw[XQ QZ,<-hS1];unfold bW;cases hw:X.rw with
  |nil=>
   rw[hw]at sr;have d0:decide ((0:Int)<((0:Nat):Int))=false:=by decide
   rwa[t0,f1,s0,sr,Zv,d0]
  |cons k r=>
   rw[hw]at sr;obtain⟨k0',k1⟩:=hr k (by rw[hw];exact QN);have kl:k.toNat<X.os.length:=by omega
   have hyk:X.os[k.toNat]?=some X.os[k.toNat]:=QQ kl;have aok:=yo (o:=o) hyk;rw[show((k.toNat:Nat):Int)=k by omega]at aok;have syk:=M1.get (R.py _ _ hyk) (R.cy _ _ hyk);unfold yO at syk;obtain⟨us,hus⟩:∃us,us=r.map U.int:=⟨_,rfl⟩;rw[QU,<-hus]at sr;have d0:decide ((0:Int)<(((U.int k::us).length:Nat):Int))=true:=XX (by rw[QK];omega);have ln:jI [.ref lr] S1=some (.int (((U.int k::us).length:Nat):Int),S1):=by simp only[jI,sr]
   have hin:∀s:Str,fIn false (.str s) (.tup [.str "in",.str "taken"]) S1=some (.bl (inU (.str s) [.str "in",.str "taken"]),S1):=fun s=>rfl;have ek:((X.os[k.toNat]?).map Tyg.sg).getD ""=(X.os[k.toNat]).sg:=by rw[hyk];rfl
   dsimp only;rw[ek];have e1:(cOp fGt (cCB jI (ag (aS z.T 5 (ah 0)) ay)) (cC (.int 0))) [uR (t 0),uI (i:Int),uR lb,none] S1=some (.bl true,S1):=by
    rw[Jd,FN,lu,FJ,uE];simp only[ZI,mK,Q8,vQ,s0,vP,ZO,Option.join_some,jA,uF,jy,xw,ln,yu,x_c,yt,Ni,d0]
   rwa[t0,f1,e1,s0,s1,sr,aok,syk,hin]
def rJ(z:Cz):Fn:=fnU 2 2 (dZ (rD z.K z.A) (uB z) z.K z.T z.Y)
def AJ(M:Mm pos c T)(R:Tr z j n w pos c X p q t o lr ld)(I:Ki X.K n.toNat)(hy:X.os[i]?=some y)(ea:y.att=some a)(ha:a∈X.K.ids)(op:(X.K.A a).op=true)(st:(X.K.A a).st.isSome=true)(hl:X.rw.length<=9000)(he:X.K.ev.length<=9000) :
  Wp (rJ z [.ref (t 0),.int i] T) fun r=>r.1=.str (mN X i y a).1/\NT z j n w pos c p t o (mN X i y a).2 r.2:=by
 have t0:=M.get R.pT R.cT;have t1:=M.get R.pO R.cO;have ty:=M.get (R.py i y hy) (R.cy i y hy);have k0:=M.get (R.kr.pk 0 (by decide)) R.kr.c0;unfold tO' at t0;unfold yO at ty;rw[ea]at ty;simp only[stU]at ty;have ao:=yo (o:=o) hy;have tk:=I.tak a ha op st;obtain⟨tt,ht⟩:=ZF.mp st;cases hu:(X.K.A a).un with
 |nil=>exact absurd hu tk.un
 |cons b r=>
  have hb:b∈(X.K.A a).pu.map (·.1):=tk.sub b (by rw[hu];exact QN);obtain⟨b0,b1⟩:=I.pub a ha b hb;have fw:=tk.few;rw[hu,QK]at fw;obtain⟨⟨v1,T1⟩,e1,rfl,pos1,c1,q1,M1,R1,F1⟩:=BY M R.kr I.w ha op ht hu b0 b1 (Ci hb) (by omega) (fun _ d hd=>by rw[tk.hld d hd];rfl) he;dsimp only at M1 e1;have R2:=R.kp _ R1 F1;have s0:=M1.get R2.pT R2.cT;unfold tO' at s0;unfold rJ mN;rw[kq];unfold dZ;by_cases hd:(bJ X.K a).1="done";obtain⟨⟨v2,T2⟩,e2,rfl,pos2,c2,q2,lr2,ld2,M2,R3,F2⟩:=A0 (i:=i) M1 R2 hy hl;dsimp only at M2;rw[hd]at e1;rw[X9 hd];refine me (b:=true) (S1:=T1) (by rwa[t0,t1,ao,ty,k0,e1]) (fun _=>.of (r:=(.str "done",T2)) (by rwa[s0,e2]) ⟨rfl,pos2,c2,q2,lr2,ld2,M2,R3,(FmT.fm F1).trans F2⟩) fun z=>nomatch z;rw[XQ hd];have dd:decide ((bJ X.K a).1="done")=false:=XZ hd;refine me (b:=false) (S1:=T1) (by rwa[t0,t1,ao,ty,k0,e1,dd]) (fun z=>nomatch z) fun _=>?_;exact IC (.of rfl ⟨rfl,pos1,c1,q1,lr,ld,M1,R2,.fm F1⟩)
end
section
variable{n w:Int}{o:Nat->Nat}
def tkL(z:Cz):CS:=fW (MA z.D) (ox z) (uz z.K z.A) (rE z.K z.A) (uA z) (uB z) z.T z.D z.Y z.K
def rhT(t o:Nat->Nat)(i lp:Nat)(r4 r5 r6:Option U):Rho:=[uR (t 0),uI (i:Int),uR (o i),uR lp,r4,r5,r6]
def pM{lp:Nat}{us:List U}{r6:Option U}(ea:y.att=some a):∀(ps:List (Int×Int)) (pos:Pl->Option Nat) (c:Pl->O) (T:Sto) (q:Int->Nat->Nat) (X:Tc) (r4 r5:Option U),Mm pos c T->Tr z j n w pos c X p q t o lr ld->pos (tp j 3 0)=some lp->c (tp j 3 0)=.lst us->X.os[i]?=some y->Ki X.K n.toNat->a∈X.K.ids->(X.K.A a).op=true->(X.K.A a).st=none->(∀e∈ps,0<=e.1/\e.1<n)->X.K.ev.length+ps.length<=9000->
  ∃r4' r5' T' pos' c' q',eY (fun S=>S[lp]?=some (.lst us)) (gTp [4,5]) (tkL z) (ps.map pU) (rhT t o i lp r4 r5 r6) T=some (.nx,rhT t o i lp r4' r5' r6,T')/\Mm pos' c' T'/\Tr z j n w pos' c' { X with K:=cm X.K a ps } p q' t o lr ld/\FmT j pos c pos' c'
 |[],pos,c,T,q,X,r4,r5,M,R,hp,hc,hy,I,ha,op,st,hb,hl=>⟨r4,r5,T,pos,c,q,jd (M.get hp hc),M,R,FmT.refl⟩
 |e::ps,pos,c,T,q,X,r4,r5,M,R,hp,hc,hy,I,ha,op,st,hb,hl=>by
  rw[QK]at hl;have t0:=M.get R.pT R.cT;have ty:=M.get (R.py i y hy) (R.cy i y hy);have k0:=M.get (R.kr.pk 0 (by decide)) R.kr.c0;unfold tO' at t0;unfold yO at ty;rw[ea]at ty;simp only[stU]at ty;obtain⟨b0,b1⟩:=hb e QN;obtain⟨⟨v1,T1⟩,e1,rfl,pos1,c1,q1,M1,R1,F1⟩:=HA (b:=e.1) (v:=e.2) M R.kr I.w ha op st (by omega);dsimp only at M1 e1;have R2:=R.kp _ R1 F1;have h3:=F1 (tp j 3 0) Gu;obtain⟨r4',r5',T',pos',c',q',e2,M2,R3,F2⟩:=pM ea ps pos1 c1 T1 q1 { X with K:=va X.K a e.1 e.2 } (uI e.1) (uI e.2) M1 R2 (h3.1.trans hp) (h3.2.trans hc) hy (I.put ha st b0 (by omega)) ha (by show((va X.K a e.1 e.2).A a).op=_;rw[qA];exact op) (by show((va X.K a e.1 e.2).A a).st=_;rw[qA];exact st) (fun x hx=>hb x (QY _ hx)) (by show(X.K.ev++[_]).length+_<=_;simp;omega);refine⟨r4',r5',T',pos',c',q',(kF (ρ0:=rhT t o i lp (uI e.1) (uI e.2) r6) (S0:=T) (M.get hp hc) rfl ?_).trans e2,M2,R3,(FmT.fm F1).trans F2⟩;show(b8 (aM z.K (uz z.K z.A) (aS z.T 1 (ah 0)) (ag (aS z.Y 1 (ah 2)) (ag (ah 4) (ag (ah 5) ay))))) (rhT t o i lp (uI e.1) (uI e.2) r6) T=_;rwa[rhT,t0,k0,ty,e1]
end
section
variable{n w:Int}{o:Nat->Nat}{q:Int->Nat->Nat}
def rK(z:Cz):Fn:=fnU 7 2 (eJ (MA z.D) (ox z) (uz z.K z.A) (rE z.K z.A) (uA z) (uB z) z.T z.D z.Y z.K)
def AK(M:Mm pos c T)(R:Tr z j n w pos c X p q t o lr ld)(I:Ki X.K n.toNat)(hy:X.os[i]?=some y)(ea:y.att=some a)(ed:y.d=some D)(hD:DgW n w D)(ha:a∈X.K.ids)(op:(X.K.A a).op=true)(st:(X.K.A a).st=none)(n0:0<=n)(n1:n<=6)(hl:X.rw.length<=9000)(he:X.K.ev.length<=8000)(hh0:X.K.ho.length<=80000)(hr:∀k∈X.rw,0<=k/\k<X.os.length) :
  Wp (rK z [.ref (t 0),.int i] T) fun r=>r.1=.str (jC n X i y D a).1/\NT z j n w pos c p t o (jC n X i y D a).2 r.2:=by
 have t0:=M.get R.pT R.cT;have t1:=M.get R.pO R.cO;have ty:=M.get (R.py i y hy) (R.cy i y hy);have td:=M.get (R.pd i y D hy ed) (R.cd i y D hy ed);have tl:=M.get (R.kr.pa a ha 1 (by decide)) (R.kr.a1 a ha);have td':=td;unfold tO' at t0;unfold yO at ty;rw[ea,ed]at ty;simp only[stU,duU]at ty;unfold dOb dO at td';have ao:=yo (o:=o) hy;have e1:=NX (rj td tl) n1;obtain⟨ps,hps⟩:∃ps,ps=ppL n ⟨D.hs,D.ps,[]⟩:=⟨_,rfl⟩;have hps':ppL n ⟨D.hs,D.ps,(X.K.A a).lk⟩=ps:=hps.symm;rw[hps']at e1;have hpb:∀e∈ps,0<=e.1/\e.1<n:=fun e h=>by rw[hps]at h;have:=uQ h;exact⟨this.1,this.2.1⟩
 have hpl:ps.length<=6:=by rw[hps];exact zH hD.hw.wf n0 n1
 have M1:=M.new (tp j 3 0) (.lst (ps.map pU)) [];have R1:Tr z j n w (eD pos (tp j 3 0) T.length) (aE c (tp j 3 0) (.lst (ps.map pU))) X p q t o lr ld:=R.tmp;have F1:FmT j pos c (eD pos (tp j 3 0) T.length) (aE c (tp j 3 0) (.lst (ps.map pU))):=(FmT.refl.pn (.tp (by omega))).upd (.tp (by omega));obtain⟨T1,hT1⟩:∃T1,T1=T++[.lst (ps.map pU)]:=⟨_,rfl⟩;rw[<-hT1]at M1 e1;have q1:eD pos (tp j 3 0) T.length (tp j 3 0)=some T.length:=cX;have d1:aE c (tp j 3 0) (.lst (ps.map pU)) (tp j 3 0)=.lst (ps.map pU):=aJ;generalize eD pos (tp j 3 0) T.length=pos1 at M1 R1 F1 q1;generalize aE c (tp j 3 0) (.lst (ps.map pU))=c1 at M1 R1 F1 d1;obtain⟨lp,hlp⟩:∃lp,lp=T.length:=⟨_,rfl⟩;rw[<-hlp]at e1 q1;unfold rK jC;rw[<-hps];rw[OK];unfold eJ;rw[fY (ρ':=[uR (t 0),uI i,uR (o i),none,none,none,none]) (S':=T) (by rwa[t0,t1,ao])];rw[fY (ρ':=[uR (t 0),uI i,uR (o i),uR lp,none,none,none]) (S':=T1) (by rwa[ty,td',e1])];have s3:=M1.get q1 d1;have s0:=M1.get R1.pT R1.cT;unfold tO' at s0;have cond:∃G,(yf (aR (cOp fGt (cCB jI (ag (ah 3) ay)) (cC (.int 0)))) (aR (aM z.T (ox z) (ah 0) (ag (ah 1) (ag (dG (iTp (ah 3)) (gNm 0) (cOp fIx (ah 0) (cC (.int 0))) 1 []) ay))))) [uR (t 0),uI i,uR (o i),uR lp,none,none,none] T1=some (!decide (ps=[])&&ID X i a (ps.map (·.1)),T1++G):=by
  have ln:(cOp fGt (cCB jI (ag (ah 3) ay)) (cC (.int 0))) [uR (t 0),uI i,uR (o i),uR lp,none,none,none] T1=some (.bl (!decide (ps=[])),T1):=by
   have e2:jI [.ref lp] T1=some (.int ((ps.length:Nat):Int),T1):=by simp only[jI,s3,Q9]
   have e3:decide ((0:Int)<((ps.length:Nat):Int))=!decide (ps=[]):=by
    cases ps with
    |nil=>rfl
    |cons x r=>rw[XX (by simp)];rfl
   rw[Jd,FN,lu,uE];simp only[ZI,ZO,mK,Q8,jA,uF,jy,xw,e2,yu,x_c,yt,Ni,e3]
  cases hp:decide (ps=[])with
  |true=>
   rw[hp]at ln;exact⟨[],by rw[Z8];rwa[ln,Bool.not_true,Bool.false_and]⟩
  |false=>
   rw[hp]at ln;have hc:Wp (dG (iTp (ah 3)) (gNm 0) (cOp fIx (ah 0) (cC (.int 0))) 1 [] [uR (t 0),uI (i:Int),uR (o i),uR lp,none,none,none] T1) fun r=>r.1=.ref T1.length/\∃G,r.2=T1++(.lst (ps.map fun e=>U.int e.1)::G):=
    Gs (cs:=[]) (xs:=ps) (f:=pU) (v:=fun e=>U.int e.1) (S1:=T1) (tD (by rwa[]) s3) (fun G=>aC s3) (by omega) rfl (fun e he G=>.of (r:=(.int e.1,T1++G)) (by rwa[pU]) ⟨rfl,[],(Z8 _).symm⟩) fun G=>⟨rfl,G,rfl⟩
   obtain⟨⟨v2,S2⟩,e2,hv,G2,hS⟩:=hc;dsimp only at hv hS;subst hv hS;obtain⟨G3,e3⟩:=Dm (i:=i) (lb:=T1.length) (bs:=ps.map (·.1)) (M1.app (.lst (ps.map fun e=>U.int e.1)::G2)) R1 I n1 hy ea ha (by rw[ga0,ZG];rfl) (by rw[Q9];omega) hr;obtain⟨S2,hS2⟩:∃S2,S2=T1++(.lst (ps.map fun e=>U.int e.1)::G2):=⟨_,rfl⟩;rw[<-hS2]at e2 e3;refine⟨(.lst (ps.map fun e=>U.int e.1)::G2)++G3,?_⟩;rw[<-Qw,<-hS2];rwa[ln,s0,e2,e3,Bool.not_false,Bool.true_and]
 obtain⟨G,f3⟩:=cond;have M2:=M1.app G;obtain⟨T2,hT2⟩:∃T2,T2=T1++G:=⟨_,rfl⟩;rw[<-hT2]at f3 M2;refine me f3 (fun hh=>?_) (fun hh=>?_);rw[X9 hh];exact .of rfl ⟨rfl,pos1,c1,q,lr,ld,M2,R1,F1⟩;have hh':¬(!decide (ps=[])&&ID X i a (ps.map (·.1)))=true:=by rw[hh];exact QZ
 rw[XQ hh'];obtain⟨r4,r5,T3,pos3,c3,q3,e3,M3,R3,F3⟩:=pM (r6:=none) ea ps pos1 c1 T2 q X none none M2 R1 q1 d1 hy I ha op st hpb (by omega);have ef:oV (iTp (ah 3)) (gTp [4,5]) (tkL z) (rhT t o i lp none none none) T2=some (.nx,rhT t o i lp r4 r5 none,T3):=by
  unfold oV;rw[tD (l:=lp) (S1:=T2) (us:=ps.map pU) (by rwa[rhT]) (M2.get q1 d1)];exact e3
 unfold tkL rhT at ef;rw[fY ef];obtain⟨I3,i3,o3,st3,ot3,ev3,ho3,tk3⟩:=qz a ps X.K I ha st (fun e h=>by have:=hpb e h;omega);have ha3:a∈(cm X.K a ps).ids:=by rw[i3];exact ha
 have s0:=M3.get R3.pT R3.cT;have sy:=M3.get (R3.py i y hy) (R3.cy i y hy);have sk:=M3.get (R3.kr.pk 0 (by decide)) R3.kr.c0;unfold tO' at s0;unfold yO at sy;rw[ea,ed]at sy;simp only[stU,duU]at sy;obtain⟨⟨v4,T4⟩,e4,hv4,pos4,c4,q4,M4,R4,F4⟩:=Dz M3 R3.kr I3.w ha3 (by rw[o3];exact op) st3 (by show(cm X.K a ps).ev.length<=_;omega) (by show(cm X.K a ps).ho.length<=_;rw[ho3];exact hh0);dsimp only at hv4 M4;subst hv4;have R5:=R3.kp _ R4 F4;have F5:FmT j pos c pos4 c4:=(F1.trans F3).trans (.fm F4);have s4:=M4.get R5.pT R5.cT;have sy4:=M4.get (R5.py i y hy) (R5.cy i y hy);unfold tO' at s4;unfold yO at sy4;rw[ea,ed]at sy4;simp only[stU,duU]at sy4;rw[fY (ρ':=rhT t o i lp r4 r5 (some (.str (bR (cm X.K a ps) a).1))) (S':=T4) (by rwa[rhT,s0,sk,sy,e4])];by_cases h1:(bR (cm X.K a ps) a).1="falls";rw[X9 h1];have dd:decide ((bR (cm X.K a ps) a).1="falls")=true:=XX h1;obtain⟨⟨v6,T6⟩,e6,rfl,pos6,c6,q6,lr6,ld6,M6,R6,F6⟩:=AN (i:=i) M4 R5 hy hl;dsimp only at M6;exact me (b:=true) (S1:=T4) (by rwa[rhT,dd]) (fun _=>.of (r:=(.str "fell",T6)) (by rwa[rhT,s4,e6]) ⟨rfl,pos6,c6,q6,lr6,ld6,M6,R6,F5.trans F6⟩) fun z=>nomatch z;rw[XQ h1];have dd:decide ((bR (cm X.K a ps) a).1="falls")=false:=XZ h1;refine me (b:=false) (S1:=T4) (by rwa[rhT,dd]) (fun z=>nomatch z) fun _=>?_;by_cases h2:(bR (cm X.K a ps) a).1="done";rw[X9 h2];have dd:decide ((bR (cm X.K a ps) a).1="done")=true:=XX h2;obtain⟨⟨v6,T6⟩,e6,rfl,pos6,c6,q6,lr6,ld6,M6,R6,F6⟩:=A0 (i:=i) M4 R5 hy hl;dsimp only at M6;exact me (b:=true) (S1:=T4) (by rwa[rhT,dd]) (fun _=>.of (r:=(.str "done",T6)) (by rwa[rhT,s4,e6]) ⟨rfl,pos6,c6,q6,lr6,ld6,M6,R6,F5.trans F6⟩) fun z=>nomatch z;rw[XQ h2];have dd:decide ((bR (cm X.K a ps) a).1="done")=false:=XZ h2;refine me (b:=false) (S1:=T4) (by rwa[rhT,dd]) (fun z=>nomatch z) fun _=>?_;have M6:=M4.set (R5.py i y hy) (yO z.Y { y with sg:="taken" } (ld i));have R6:=R5.sy (i:=i) hy { y with sg:="taken" } rfl;have ey:yO z.Y { y with sg:="taken" } (ld i)=.ins z.Y [some (.tup y.dl),uI a,uR (ld i),some (.str "taken"),uI y.fa,uI y.fl]:=by unfold yO;rw[ea,ed];rfl
 refine .of (r:=(.str "took",_)) ?_ ⟨rfl,_,_,q4,lr,ld,M6,R6,F5.upd (.tp (by omega))⟩;rw[ey];rwa[rhT,sy4]
end
def d00:Dc:=⟨[],[],.non⟩
def tOn(n w:Int)(X:Tc)(i:Nat)(y:Tyg)(D:Dc)(a:Int):Str×Tc:=match gM D with
 |none=>jC n X i y D a
 |some u=>if oT D u=true then jT X i y D a (lkB u)else
  if (dDo w n D).1=true then("went",X.set i { y with d:=some (dDo w n D).2 })else("slept",vY (X.set i { y with d:=some (dDo w n D).2 }) i { y with d:=some (dDo w n D).2 } a)
def jb(X:Tc)(i:Nat):Tc:=if X.pa=some 0/\(i:Int)∉X.rw then { X with rw:=X.rw++[(i:Int)] } else X
def sh(n w:Int)(X:Tc)(i:Nat)(y:Tyg):Str×Tc:=
 if y.sg="done" then("idle",X)else if slp X y=true then("asleep",X)else
 if (decide ((i:Int)∈(jb X i).rw)&&!isF (jb X i) i)=true then("held",jb X i)else
 if y.sg="in" then tOn n w (jb X i) i y (y.d.getD d00) (y.att.getD 0)else
 if y.sg="taken" then mN (jb X i) i y (y.att.getD 0)else("begun",oY (jb X i) i y)
def tGo(n w:Int)(X:Tc)(i:Nat):Str×Tc:=match X.os[i]? with
 |some y=>sh n w X i y
 |none=>("",X)
inductive Sg(K:Kc)(y:Tyg):Prop
 |out (h:y.sg="out")
 |go {a:Int} {D:Dc} (h:y.sg="in") (ea:y.att=some a) (ed:y.d=some D) (op:(K.A a).op=true) (st:(K.A a).st=none)
 |tk {a:Int} {D:Dc} (h:y.sg="taken") (ea:y.att=some a) (ed:y.d=some D) (op:(K.A a).op=true) (st:(K.A a).st.isSome=true)
 |sl {a:Int} (h:y.sg="asleep") (ea:y.att=some a)
 |dn {a:Int} {D:Dc} (h:y.sg="done") (ea:y.att=some a) (ed:y.d=some D)
structure Yi(K:Kc)(n w:Int)(y:Tyg):Prop where
 dl:∃e,e<=50/\∀u∈y.dl,DU n w e u
 dw:∀D,y.d=some D->DgW n w D
 at_:∀a,y.att=some a->a∈K.ids
 sg:Sg K y
structure Ti(n w:Int)(X:Tc)(m r:Nat):Prop where
 k:Ki X.K n.toNat
 b:Kb X.K (8*m)
 tk:X.K.tk<=m
 il:X.K.ids.length<=m
 be:0<=X.be
 ids:∀a∈X.K.ids,0<=a/\a<X.be
 ys:∀(i:Nat) (y:Tyg),X.os[i]?=some y->Yi X.K n w y
 inj:∀(i i':Nat) (y y':Tyg) (a:Int),X.os[i]?=some y->X.os[i']?=some y'->y.att=some a->y'.att=some a->i=i'
 rw:∀k∈X.rw,0<=k/\k<X.os.length
 rl:X.rw.length<=r
def z7:¬(("in":Str)="done"):=by decide +kernel
def z6:¬(("taken":Str)="done"):=by decide +kernel
def K7:¬(("taken":Str)="in"):=by decide +kernel
def wx:¬(("out":Str)="done"):=by decide +kernel
def EW:¬(("out":Str)="in"):=by decide +kernel
def EV:¬(("out":Str)="taken"):=by decide +kernel
def EX:¬(("out":Str)="asleep"):=by decide +kernel
def K9:¬(("in":Str)="asleep"):=by decide +kernel
def K8:¬(("taken":Str)="asleep"):=by decide +kernel
def uW:¬(("asleep":Str)="done"):=by decide +kernel
def Lb:¬(("asleep":Str)="in"):=by decide +kernel
def La:¬(("asleep":Str)="taken"):=by decide +kernel
section
variable{n w:Int}{o:Nat->Nat}{q:Int->Nat->Nat}{m:Nat}{u:U}
def BJ(z:Cz):Fn:=fnU 3 2 (iB (ja z.D) (rK z) (qc z.D) (rL z) (Fv z.D) (vD z) z.Y z.T z.D)
def HU(M:Mm pos c T)(R:Tr z j n w pos c X p q t o lr ld)(I:Ki X.K n.toNat)(hy:X.os[i]?=some y)(ea:y.att=some a)(ed:y.d=some D)(hD:DgW n w D)(ha:a∈X.K.ids)(op:(X.K.A a).op=true)(st:(X.K.A a).st=none)(n0:0<=n)(n1:n<=6)(w0:2<=w)(hl:X.rw.length<=9000)(he:X.K.ev.length<=8000)(hh0:X.K.ho.length<=80000)(hr:∀k∈X.rw,0<=k/\k<X.os.length) :
  Wp (BJ z [.ref (t 0),.int i] T) fun r=>r.1=.str (tOn n w X i y D a).1/\NT z j n w pos c p t o (tOn n w X i y D a).2 r.2:=by
 have t0:=M.get R.pT R.cT;have t1:=M.get R.pO R.cO;have ty:=M.get (R.py i y hy) (R.cy i y hy);have td:=M.get (R.pd i y D hy ed) (R.cd i y D hy ed);have tl:=M.get (R.kr.pa a ha 1 (by decide)) (R.kr.a1 a ha);have td':=td;unfold tO' at t0;unfold yO at ty;rw[ea,ed]at ty;simp only[stU,duU]at ty;unfold dOb dO at td';have ao:=yo (o:=o) hy;unfold BJ tOn;rw[oe];unfold iB;rw[fY (ρ':=[uR (t 0),uI i,uR (ld i)]) (S':=T) (by rwa[t0,t1,ao,ty])];cases hd:gM D with
 |none=>
  have e1:=D6 hD td tl hd;refine me (b:=true) (S1:=T) (by rwa[td',e1,rS,pW]) (fun _=>?_) fun z=>nomatch z;obtain⟨⟨v,T1⟩,e2,hv,N⟩:=AK (i:=i) M R I hy ea ed hD ha op st n0 n1 hl he hh0 hr;exact .of (r:=(v,T1)) (by rwa[t0,e2]) ⟨hv,N⟩
 |some u=>
  have e1:=wX hD td tl hd;obtain⟨e0,hu⟩:=hD.du hd;obtain⟨s,rr,hs⟩:=hu.head;have inn:oH u=false:=by rw[hs];rfl
  refine me (b:=false) (S1:=T) (by rwa[td',e1,rS,inn]) (fun z=>nomatch z) fun _=>?_;have e2:=Ej hD n0 td tl hd;refine me (b:=oT D u) (S1:=T) (by rwa[td',e2]) (fun h=>?_) fun h=>?_;dsimp only;rw[X9 h];have hk:HM u=true:=by unfold oT at h;exact(Bool.and_eq_true_iff.mp h).1
  obtain⟨⟨v,T1⟩,e3,hv,N⟩:=AL (i:=i) M R I hy ea ed hD ha op st hd hk n0 hl (by omega);exact .of (r:=(v,T1)) (by rwa[t0,e3]) ⟨hv,N⟩;have hn:¬oT D u=true:=by rw[h];exact QZ
  dsimp only;rw[XQ hn];obtain⟨hdo,hD2⟩:=Fi hD w0 n1 hd h;have lw:Lw n (X.K.A a).lk:=⟨I.lkn a ha,fun k hk=>by have:=I.lkb a ha k hk;omega⟩;have e3:=hdo z.D T (ld i) (q a 1) (X.K.A a).lk lw td tl;have M1:=M.set (R.pd i y D hy ed) (dOb z.D w n (dDo w n D).2);have R1:=R.sd (i:=i) hy ed (dDo w n D).2;have F1:FmT j pos c pos (aE c (tp j 2 i) (dOb z.D w n (dDo w n D).2)):=FmT.refl.upd (.tp (by omega));obtain⟨T1,hT1⟩:∃T1,T1=T.set (ld i) (dOb z.D w n (dDo w n D).2):=⟨_,rfl⟩;rw[<-hT1]at M1 e3;cases hb:(dDo w n D).1 with
  |true=>
   rw[hb]at e3;rw[X9 rfl];refine me (b:=false) (S1:=T1) (by rwa[td',e3]) (fun z=>nomatch z) fun _=>?_;exact IC (.of rfl ⟨rfl,_,_,q,lr,ld,M1,R1,F1⟩)
  |false=>
   rw[hb]at e3;rw[XQ QZ];refine me (b:=true) (S1:=T1) (by rwa[td',e3]) (fun _=>?_) fun z=>nomatch z;have hy1:(X.set i { y with d:=some (dDo w n D).2 }).os[i]?=some { y with d:=some (dDo w n D).2 }:=by unfold Tc.set;rw[ZK (Q4.mp hy).1]
   have s0:=M1.get R1.pT R1.cT;unfold tO' at s0;obtain⟨⟨v,T2⟩,e4,rfl,pos2,c2,q2,lr2,ld2,M2,R2,F2⟩:=Cq (i:=i) M1 R1 hy1 ea ha op st hl (by show X.K.ev.length<=_;omega);dsimp only at M2;exact .of (r:=(.str "slept",T2)) (by rwa[s0,e4]) ⟨rfl,pos2,c2,q2,lr2,ld2,M2,R2,F1.trans F2⟩
def LI{a:Int}{pa:Option Int}{S:Sto}:fEq (stU pa) (.int a) S=some (.bl (decide (pa=some a)),S):=by
 cases pa with
 |none=>rfl
 |some b=>
  show some (U.bl (decide (b=a)),S)=_;congr 3;exact decide_eq_decide.mpr ⟨fun h=>by rw[h],fun h=>Option.some.inj h⟩
def E3{neg:Bool}{l:Nat}{xs:List Int}{b:Int}{S:Sto}(h:S[l]?=some (.lst (xs.map U.int))):fIn neg (.int b) (.ref l) S=some (.bl (if neg then !decide (b∈xs)else decide (b∈xs)),S):=by
 rw[Jm,h,Nf ⟨rfl,by simp[List.all_map];exact fun _ _=>rfl⟩,inI]
def L1(z:Cz):Fn:=fnU 3 2 (k6 (BE z) (vF z.T) (BJ z) (rJ z) (xn z) z.T z.Y)
def OI(hz:CzO z)(M:Mm pos c T)(R:Tr z j n w pos c X p q t o lr ld){r:Nat}(I:Ti n w X m r)(hm:m<=500)(hr5:r<=5000)(n0:1<=n)(n1:n<=6)(w0:2<=w)(hy:X.os[i]?=some y) :
  Wp (L1 z [.ref (t 0),.int i] T) fun r=>r.1=.str (sh n w X i y).1/\NT z j n w pos c p t o (sh n w X i y).2 r.2:=by
 have t0:=M.get R.pT R.cT;have t1:=M.get R.pO R.cO;have ty:=M.get (R.py i y hy) (R.cy i y hy);unfold tO' at t0;unfold yO at ty;have ao:=yo (o:=o) hy;have Y:=I.ys i y hy;have ev:=I.b.ev;have bt:=I.tk;have bi:=I.b.ids;have hol:=I.k.hol;have rl:=I.rl;unfold L1 sh;rw[oe];unfold k6;rw[fY (ρ':=[uR (t 0),uI i,uR (o i)]) (S':=T) (by rwa[t0,t1,ao])];refine me (b:=decide (y.sg="done")) (S1:=T) (by rwa[ty]) (fun h=>?_) fun h=>?_;rw[X9 (of_decide_eq_true h)];exact .of rfl ⟨rfl,pos,c,q,lr,ld,M,R,FmT.refl⟩;have nd:=of_decide_eq_false h;rw[XQ nd];obtain⟨G1,e1⟩:=EL (i:=i) M R I.k.w hy fun hs=>by
  cases Y.sg with
  |out h=>rw[h]at hs;exact absurd hs EX
  |go h=>rw[h]at hs;exact absurd hs K9
  |tk h=>rw[h]at hs;exact absurd hs K8
  |sl h ea=>exact⟨_,ea,Y.at_ _ ea⟩
  |dn h=>exact absurd h nd
 have M1:=M.app G1;obtain⟨T1,hT1⟩:∃T1,T1=T++G1:=⟨_,rfl⟩;rw[<-hT1]at e1 M1;refine me (b:=slp X y) (S1:=T1) (by rwa[t0,e1]) (fun h=>?_) fun h=>?_;rw[X9 h];exact .of rfl ⟨rfl,pos,c,q,lr,ld,M1,R,FmT.refl⟩;have ns:¬slp X y=true:=by rw[h];exact QZ
 rw[XQ ns];have s0:=M1.get R.pT R.cT;have sr:=M1.get R.pR R.cR;have sy:=M1.get (R.py i y hy) (R.cy i y hy);unfold tO' at s0;unfold yO at sy;have hL:(X.rw.map U.int).length<LIM:=by rw[Q9];unfold LIM;omega
 have hrow:∃c2 T2,(dQ (yf (aR (cOp fEq (aS z.T 2 (ah 0)) (cC (.int 0)))) (aR (cOp (fIn true) (ah 1) (aS z.T 5 (ah 0))))) (b8 (cBM b7 (aS z.T 5 (ah 0)) (ag (ah 1) ay))) bP) [uR (t 0),uI i,uR (o i)] T1=some (.nx,[uR (t 0),uI i,uR (o i)],T2)/\Mm pos c2 T2/\Tr z j n w pos c2 (jb X i) p q t o lr ld/\FmT j pos c pos c2:=by
  have e2:=fun S=>LI (a:=0) (pa:=X.pa) (S:=S);have e3:=E3 (neg:=true) (b:=(i:Int)) sr;rw[X9 rfl]at e3;unfold jb;by_cases hp:X.pa=some 0;rw[XX hp]at e2;by_cases hi:(i:Int)∈X.rw;rw[XX hi]at e3;rw[XQ fun z=>z.2 hi];exact⟨c,T1,by rwa[s0,e2,e3],M1,R,FmT.refl⟩;rw[XZ hi]at e3;rw[X9 ⟨hp,hi⟩];have M2:=M1.set R.pR (.lst ((X.rw++[(i:Int)]).map U.int));refine⟨_,_,?_,M2,R.sr _,FmT.refl.upd (.tp (by omega))⟩;rw[Zg];rwa[s0,sr,e2,e3,fO hL];rw[XZ hp]at e2;rw[XQ fun z=>hp z.1];exact⟨c,T1,by rwa[s0,e2],M1,R,FmT.refl⟩
 obtain⟨c2,T2,e2,M2,R2,F2⟩:=hrow;rw[fY e2];have eK:(jb X i).K=X.K:=by unfold jb;split<;>rfl
 have eO:(jb X i).os=X.os:=by unfold jb;split<;>rfl
 have eB:(jb X i).be=X.be:=by unfold jb;split<;>rfl
 have rl2:(jb X i).rw.length<=r+1:=by
  unfold jb;split;show(X.rw++[(i:Int)]).length<=_;rw[QH];exact Nat.add_le_add_right rl 1;omega
 have rw2:∀k∈(jb X i).rw,0<=k/\k<(jb X i).os.length:=by
  rw[eO];have li:=(Q4.mp hy).1;unfold jb;split;intro k hk;rcases Z6.mp hk with h|h;exact I.rw k h;rw[Qu.mp h];exact⟨by omega,by omega⟩;exact I.rw
 generalize jb X i=X2 at R2 eK eO eB rl2 rw2;have hy2:X2.os[i]?=some y:=by rw[eO];exact hy
 have u0:=M2.get R2.pT R2.cT;have ur:=M2.get R2.pR R2.cR;unfold tO' at u0;obtain⟨G3,f3⟩:=Ay (i:=i) M2 R2;have e3:=E3 (neg:=false) (b:=(i:Int)) ur;rw[XQ QZ]at e3;have cond:∃G,(yf (aR (cOp (fIn false) (ah 1) (aS z.T 5 (ah 0)))) (IL (aR (aM z.T (vF z.T) (ah 0) (ag (ah 1) ay))))) [uR (t 0),uI i,uR (o i)] T2=some (decide ((i:Int)∈X2.rw)&&!isF X2 i,T2++G):=by
  cases hi:decide ((i:Int)∈X2.rw)with
  |false=>
   rw[hi]at e3;exact⟨[],by rw[Z8];rwa[u0,e3,Bool.false_and]⟩
  |true=>
   rw[hi]at e3;exact⟨G3,by rwa[u0,e3,f3,Bool.true_and]⟩
 obtain⟨G,f4⟩:=cond;have M3:=M2.app G;obtain⟨T3,hT3⟩:∃T3,T3=T2++G:=⟨_,rfl⟩;rw[<-hT3]at f4 M3;refine me f4 (fun h=>?_) fun h=>?_;rw[X9 h];exact .of rfl ⟨rfl,pos,c2,q,lr,ld,M3,R2,F2⟩;have nh:¬(decide ((i:Int)∈X2.rw)&&!isF X2 i)=true:=by rw[h];exact QZ
 rw[XQ nh];have v0:=M3.get R2.pT R2.cT;have vy:=M3.get (R2.py i y hy2) (R2.cy i y hy2);unfold tO' at v0;unfold yO at vy;have Ik:Ki X2.K n.toNat:=by rw[eK];exact I.k
 have ev2:X2.K.ev.length<=8000:=by rw[eK];omega
 have ho2:X2.K.ho.length<=80000:=by rw[eK];omega
 have goin:Wp ((bT (aM z.T (xn z) (ah 0) (ag (ah 2) ay)) [uR (t 0),uI i,uR (o i)] T3).bind kFn) fun r=>r.1=.str (("begun":Str),oY X2 i y).1/\NT z j n w pos c p t o (("begun":Str),oY X2 i y).2 r.2:=by
  obtain⟨e,e50,hdl⟩:=Y.dl;obtain⟨⟨v,T4⟩,e4,rfl,pos4,c4,q4,lr4,ld4,M4,R4,F4⟩:=HV (i:=i) hz M3 R2 hy2 hdl e50 n0 n1 (by rw[eK,eB];intro hb;have:=I.ids _ hb;omega) (by rw[eK];omega) (by omega);dsimp only at M4;exact IC (.of (r:=(.str "begun",T4)) (by rwa[v0,e4]) ⟨rfl,pos4,c4,q4,lr4,ld4,M4,R4,F2.trans F4⟩)
 cases Y.sg with
 |out hs=>
  have h1:¬y.sg="in":=by rw[hs];exact EW
  have h2:¬y.sg="taken":=by rw[hs];exact EV
  rw[XQ h1,XQ h2];refine me (b:=false) (S1:=T3) (by have:=XZ h1;rwa[vy,this]) (fun z=>nomatch z) fun _=>?_;exact me (b:=false) (S1:=T3) (by have:=XZ h2;rwa[vy,this]) (fun z=>nomatch z) fun _=>goin
 |sl hs ea=>
  have h1:¬y.sg="in":=by rw[hs];exact Lb
  have h2:¬y.sg="taken":=by rw[hs];exact La
  rw[XQ h1,XQ h2];refine me (b:=false) (S1:=T3) (by have:=XZ h1;rwa[vy,this]) (fun z=>nomatch z) fun _=>?_;exact me (b:=false) (S1:=T3) (by have:=XZ h2;rwa[vy,this]) (fun z=>nomatch z) fun _=>goin
 |dn hs=>exact absurd hs nd
 |@go a D hs ea ed op st=>
  rw[X9 hs,ea,ed];obtain⟨⟨v,T4⟩,e4,hv,pos4,c4,q4,lr4,ld4,M4,R4,F4⟩:=HU (i:=i) M3 R2 Ik hy2 ea ed (Y.dw D ed) (by rw[eK];exact Y.at_ a ea) (by rw[eK];exact op) (by rw[eK];exact st) (by omega) n1 w0 (by omega) ev2 ho2 rw2;dsimp only at M4 hv;exact me (b:=true) (S1:=T3) (by have:=XX hs;rwa[vy,this]) (fun _=>.of (r:=(v,T4)) (by rwa[v0,e4]) ⟨hv,pos4,c4,q4,lr4,ld4,M4,R4,F2.trans F4⟩) fun z=>nomatch z
 |@tk a D hs ea ed op st=>
  have h1:¬y.sg="in":=by rw[hs];exact K7
  rw[XQ h1,X9 hs,ea];refine me (b:=false) (S1:=T3) (by have:=XZ h1;rwa[vy,this]) (fun z=>nomatch z) fun _=>?_;obtain⟨⟨v,T4⟩,e4,hv,pos4,c4,q4,lr4,ld4,M4,R4,F4⟩:=AJ (i:=i) M3 R2 Ik hy2 ea (by rw[eK];exact Y.at_ a ea) (by rw[eK];exact op) (by rw[eK];exact st) (by omega) (by omega);dsimp only at M4 hv;exact me (b:=true) (S1:=T3) (by have:=XX hs;rwa[vy,this]) (fun _=>.of (r:=(v,T4)) (by rwa[v0,e4]) ⟨hv,pos4,c4,q4,lr4,ld4,M4,R4,F2.trans F4⟩) fun z=>nomatch z
end
section
variable{x:Int}
def t6{w:Str}(h:x≠a):(K.end a w).A x=K.A x:=XQ h
def wK(h:x≠a):(cV K a b).2.A x=K.A x:=by
 unfold cV;split;rfl;split;exact t6 h;exact XQ h
def DK{v:Int}(h:(cV K a b).1=.tup [.str "number",.int v]):((cV K a b).2.A a).op=(K.A a).op/\((cV K a b).2.A a).st=(K.A a).st:=by
 unfold cV at h ⊢;split;exact⟨rfl,rfl⟩;rename_i hv;rw[hv]at h;dsimp only at h;split;rename_i hw;rw[X9 hw]at h;cases h;have:((K.anew a b).A a)={ K.A a with g:=if (K.A a).g<K.ma.getD b.toNat 0 then K.tk else(K.A a).g,lk:=oW (K.A a).lk b }:=X9 rfl;show((K.anew a b).A a).op=_/\((K.anew a b).A a).st=_;rw[this];exact⟨rfl,rfl⟩
def DJ:(cV K a b).2.tk=K.tk:=by
 unfold cV;split;rfl
 ·split<;>rfl
def DI(h:x≠a):(bR K a).2.A x=K.A x:=by
 unfold bR;split;exact t6 h;split;exact t6 h;exact XQ h
def Ar:(bR K a).2.ids=K.ids:=by
 unfold bR;split;rfl
 ·split<;>rfl
def DH:(bR K a).2.tk<=K.tk+1:=by
 unfold bR;split;show K.tk<=_;omega;split;show K.tk<=_;omega;exact Zi _
def DG(h1:(bR K a).1≠"falls")(h2:(bR K a).1≠"done"):((bR K a).2.A a).op=(K.A a).op/\((bR K a).2.A a).st.isSome=true:=by
 unfold bR at h1 h2 ⊢;by_cases c1:(K.A a).pu=[];rw[X9 c1]at h2;exact absurd rfl h2;rw[XQ c1]at h1 ⊢;by_cases c2:(brd K a (K.A a).lk||(brd K a ((K.A a).pu.map (·.1))||HF K a))=true;rw[X9 c2]at h1;exact absurd rfl h1;rw[XQ c2];have:(K.up a { K.A a with st:=some (K.tk+1),un:=bI ((K.A a).pu.map (·.1)) }).A a={ K.A a with st:=some (K.tk+1),un:=bI ((K.A a).pu.map (·.1)) }:=X9 rfl;show((K.up a _).A a).op=_/\((K.up a _).A a).st.isSome=true;rw[this];exact⟨rfl,rfl⟩
def tm(h:x≠a):(bJ K a).2.A x=K.A x:=by
 unfold bJ;split;rfl;dsimp only;split;rw[t6 h];exact XQ h;exact XQ h
def pV:(bJ K a).2.ids=K.ids:=by
 unfold bJ;split;rfl
 ·dsimp only;split<;>rfl
def Aq:(bJ K a).2.tk=K.tk:=by
 unfold bJ;split;rfl
 ·dsimp only;split<;>rfl
def Ap(h:(bJ K a).1≠"done"):((bJ K a).2.A a).op=(K.A a).op/\((bJ K a).2.A a).st=(K.A a).st:=by
 unfold bJ at h ⊢;split;exact⟨rfl,rfl⟩;rename_i b r hu;rw[hu]at h;dsimp only at h ⊢;by_cases hr:r=[];rw[X9 hr]at h;exact absurd rfl h;rw[XQ hr];have:(K.up a { K.A a with un:=r }).A a={ K.A a with un:=r }:=X9 rfl;show((K.up a { K.A a with un:=r }).A a).op=_/\((K.up a { K.A a with un:=r }).A a).st=_;rw[this];exact⟨rfl,rfl⟩
def Kb.mono{m m':Nat}(h:Kb K m)(l:m<=m'):Kb K m':=⟨by have:=h.ev;omega,by have:=h.tk;omega,by have:=h.ids;omega⟩
def As:∀(ps:List (Int×Int)) (K:Kc) (m:Nat),Kb K m->Kb (cm K a ps) (m+ps.length)
 |[],K,m,h=>h
 |e::ps,K,m,h=>by
  have:=As ps (va K a e.1 e.2) (m+1) (Kb.call (k:=.pt a e.1 e.2) h);rw[QK,show m+(ps.length+1)=m+1+ps.length by omega];exact this
end
section
variable{n w:Int}{X':Tc}{m r:Nat}{y':Tyg}
def EM(hy:X.os[i]?=some y):(X.os.set i y')[i]?=some y':=ZK (Q4.mp hy).1
def Ti.mono(I:Ti n w X m r):Ti n w X (m+1) (r+1):=⟨I.k,I.b.mono (by omega),by have:=I.tk;omega,Nat.le_succ_of_le I.il,I.be,I.ids,I.ys,I.inj,I.rw,by have:=I.rl;omega⟩
def Ti.step(I:Ti n w X m r)(hy:X.os[i]?=some y)(ea:y.att=some a)(os:X'.os=X.os.set i y')(ids:X'.K.ids=X.K.ids)(oth:∀x,x≠a->X'.K.A x=X.K.A x)(be:X'.be=X.be)(att:y'.att=y.att)(dl:y'.dl=y.dl)(dw:∀E,y'.d=some E->DgW n w E)(sg:Sg X'.K y')(hk:Ki X'.K n.toNat)(hb:Kb X'.K (8*(m+1)))(ht:X'.K.tk<=m+1)(hr:∀k∈X'.rw,k∈X.rw\/k=(i:Int))(hl:X'.rw.length<=X.rw.length+1):Ti n w X' (m+1) (r+1):=by
 have li:=(Q4.mp hy).1;have old:∀k x,X'.os[k]?=some x->(k=i/\x=y')\/(k≠i/\X.os[k]?=some x):=fun k x h=>by
  rw[os]at h;by_cases e:k=i;subst e;rw[EM hy]at h;exact .inl ⟨rfl,(Option.some.inj h).symm⟩;rw[Qt (Ne.symm e)]at h;exact .inr ⟨e,h⟩
 have Y:=I.ys i y hy;refine⟨hk,hb,ht,by rw[ids];exact Nat.le_succ_of_le I.il,by rw[be];exact I.be,by rw[ids,be];exact I.ids,fun k x h=>?_,fun k k' x x' b h h' hb1 hb2=>?_,fun k hk=>?_,by have:=I.rl;omega⟩;rcases old k x h with⟨rfl,rfl⟩|⟨ne,h⟩;exact⟨by rw[dl];exact Y.dl,dw,by rw[att,ids];exact Y.at_,sg⟩;have Z:=I.ys k x h;have na:∀b,x.att=some b->b≠a:=fun b eb e=>ne (I.inj k i x y a h hy (by rw[eb,e]) ea);refine⟨Z.dl,Z.dw,by rw[ids];exact Z.at_,?_⟩;cases Z.sg with
 |out h=>exact .out h
 |go h eb ed op st=>exact .go h eb ed (by rw[oth _ (na _ eb)];exact op) (by rw[oth _ (na _ eb)];exact st)
 |tk h eb ed op st=>exact .tk h eb ed (by rw[oth _ (na _ eb)];exact op) (by rw[oth _ (na _ eb)];exact st)
 |sl h eb=>exact .sl h eb
 |dn h eb ed=>exact .dn h eb ed
 rcases old k x h with⟨rfl,rfl⟩|⟨ne,h⟩;rcases old k' x' h' with⟨rfl,rfl⟩|⟨ne',h'⟩;rfl;exact I.inj k k' y x' b hy h' (by rw[<-att];exact hb1) hb2;rcases old k' x' h' with⟨rfl,rfl⟩|⟨ne',h'⟩;exact I.inj k k' x y b h hy hb1 (by rw[<-att];exact hb2);exact I.inj k k' x x' b h h' hb1 hb2;rw[os,Qs];rcases hr k hk with h|rfl;exact I.rw k h;exact⟨by omega,by omega⟩
def Ti.row(I:Ti n w X m r)(hy:X.os[i]?=some y):Ti n w (jb X i) m (r+1):=by
 have li:=(Q4.mp hy).1;unfold jb;split;refine⟨I.k,I.b,I.tk,I.il,I.be,I.ids,I.ys,I.inj,fun k hk=>?_,?_⟩;rcases Z6.mp hk with h|h;exact I.rw k h;rw[Qu.mp h];exact⟨by omega,by show(i:Int)<X.os.length;omega⟩;show(X.rw++[_]).length<=_;rw[QH];exact Nat.add_le_add_right I.rl 1;exact⟨I.k,I.b,I.tk,I.il,I.be,I.ids,I.ys,I.inj,I.rw,by have:=I.rl;omega⟩
def Ti.fell{K':Kc}(I:Ti n w X m r)(hy:X.os[i]?=some y)(ea:y.att=some a)(ids:K'.ids=X.K.ids)(oth:∀x,x≠a->K'.A x=X.K.A x)(hk:Ki K' n.toNat)(hb:Kb K' (8*(m+1)))(ht:K'.tk<=m+1):Ti n w (fP { X with K:=K' } i y) (m+1) (r+1):=by
 have Y:=I.ys i y hy;have eo:(fP { X with K:=K' } i y).os=X.os.set i (oz y):=by unfold fP;split<;>rfl
 have eK:(fP { X with K:=K' } i y).K=K':=by unfold fP;split<;>rfl
 have eB:(fP { X with K:=K' } i y).be=X.be:=by unfold fP;split<;>rfl
 refine I.step hy ea eo (by rw[eK];exact ids) (by rw[eK];exact oth) eB rfl rfl Y.dw (.out rfl) (by rw[eK];exact hk) (by rw[eK];exact hb) (by rw[eK];exact ht) (fun k hk=>?_) ?_;unfold fP at hk;split at hk;exact(Z6.mp hk).imp id Qu.mp;exact .inl hk;unfold fP;split;show(X.rw++[_]).length<=_;rw[QH];exact Q7 _;exact X7 _
def Ti.done{K':Kc}(I:Ti n w X m r)(hy:X.os[i]?=some y)(ea:y.att=some a)(ed:y.d=some D)(ids:K'.ids=X.K.ids)(oth:∀x,x≠a->K'.A x=X.K.A x)(hk:Ki K' n.toNat)(hb:Kb K' (8*(m+1)))(ht:K'.tk<=m+1):Ti n w (xH { X with K:=K' } i y) (m+1) (r+1):=by
 have Y:=I.ys i y hy;exact I.step (y':={ y with sg:="done" }) hy ea rfl ids oth rfl rfl rfl Y.dw (.dn rfl ea ed) hk hb ht (fun k hk=>.inl (List.mem_filter.mp hk).1) (Nat.le_succ_of_le (List.length_filter_le _ _))
def Ti.slept(I:Ti n w X m r)(hy:X.os[i]?=some y)(ea:y.att=some a){D':Dc}(hD:DgW n w D'):Ti n w (vY (X.set i { y with d:=some D' }) i { y with d:=some D' } a) (m+1) (r+1):=by
 have Y:=I.ys i y hy;have ha:=Y.at_ a ea;refine I.step (y':={ y with d:=some D',sg:="asleep",fl:=0 }) hy ea ?_ rfl (fun x hx=>t6 hx) rfl rfl rfl (fun E h=>by cases h;exact hD) (.sl rfl ea) (I.k.end ha _) ((AX I.b).mono (by omega)) (by show X.K.tk<=_;have:=I.tk;omega) (fun k hk=>.inl (List.mem_filter.mp hk).1) (Nat.le_succ_of_le (List.length_filter_le _ _));show(X.os.set i _).set i _=_;rw[ZL]
def Ti.begun(I:Ti n w X m r)(hy:X.os[i]?=some y):Ti n w (oY X i y) (m+1) (r+1):=by
 have li:=(Q4.mp hy).1;have Y:=I.ys i y hy;have nb:X.be∉X.K.ids:=fun h=>by have:=I.ids _ h;omega
 have old:∀k x,(oY X i y).os[k]?=some x->(k=i/\x={ y with att:=some X.be,d:=some (mq y.dl),sg:="in" })\/(k≠i/\X.os[k]?=some x):=fun k x h=>by
  replace h:(X.os.set i { y with att:=some X.be,d:=some (mq y.dl),sg:="in" })[k]?=some x:=h
  by_cases e:k=i;subst e;rw[EM hy]at h;exact .inl ⟨rfl,(Option.some.inj h).symm⟩;rw[Qt (Ne.symm e)]at h;exact .inr ⟨e,h⟩
 have ata:(cM X.K X.be).A X.be=a0 X.K.tk:=X9 rfl;have ot:∀b,b≠X.be->(cM X.K X.be).A b=X.K.A b:=fun b h=>XQ h;have lt:∀b∈X.K.ids,b≠X.be:=fun b hb e=>nb (by rw[<-e];exact hb);have sub:∀b∈X.K.ids,b∈(cM X.K X.be).ids:=fun b hb=>Z6.mpr (.inl hb);refine⟨I.k.begin nb,(Kb.call (k:=.bg X.be) I.b).mono (by omega),by show X.K.tk<=_;have:=I.tk;omega,by show(X.K.ids++[_]).length<=_;rw[QH];exact Nat.add_le_add_right I.il 1,by show 0<=X.be+1;have:=I.be;omega,fun b hb=>?_,fun k x h=>?_,fun k k' x x' b h h' hb1 hb2=>?_,fun k hk=>?_,by show X.rw.length<=_;have:=I.rl;omega⟩;show 0<=b/\b<X.be+1;rcases Z6.mp hb with h|h;have:=I.ids b h;omega;rw[Qu.mp h];have:=I.be;omega;rcases old k x h with⟨rfl,rfl⟩|⟨ne,h⟩;obtain⟨e,e50,hd⟩:=Y.dl;refine⟨Y.dl,fun E hE=>by cases hE;exact LV hd e50,fun b hb=>by cases hb;exact Z6.mpr (.inr (Qu.mpr rfl)),.go rfl rfl rfl ?_ ?_⟩;show((cM X.K X.be).A X.be).op=true;rw[ata];rfl;show((cM X.K X.be).A X.be).st=none;rw[ata];rfl;have Z:=I.ys k x h;have na:∀b,x.att=some b->b≠X.be:=fun b eb=>lt b (Z.at_ b eb);refine⟨Z.dl,Z.dw,fun b hb=>sub b (Z.at_ b hb),?_⟩;cases Z.sg with
 |out h=>exact .out h
 |go h eb ed op st=>exact .go h eb ed (by show((cM X.K X.be).A _).op=_;rw[ot _ (na _ eb)];exact op) (by show((cM X.K X.be).A _).st=_;rw[ot _ (na _ eb)];exact st)
 |tk h eb ed op st=>exact .tk h eb ed (by show((cM X.K X.be).A _).op=_;rw[ot _ (na _ eb)];exact op) (by show((cM X.K X.be).A _).st.isSome=_;rw[ot _ (na _ eb)];exact st)
 |sl h eb=>exact .sl h eb
 |dn h eb ed=>exact .dn h eb ed
 rcases old k x h with⟨rfl,rfl⟩|⟨ne,h0⟩;rcases old k' x' h' with⟨rfl,rfl⟩|⟨ne',h'⟩;rfl;cases hb1;exact absurd rfl (lt _ ((I.ys k' x' h').at_ _ hb2));rcases old k' x' h' with⟨rfl,rfl⟩|⟨ne',h'0⟩;cases hb2;exact absurd rfl (lt _ ((I.ys k x h0).at_ _ hb1));exact I.inj k k' x x' b h0 h'0 hb1 hb2;show 0<=k/\k<((X.os.set i _).length:Nat);rw[Qs];exact I.rw k hk
def Ti.on(I:Ti n w X m r)(hy:X.os[i]?=some y)(ea:y.att=some a)(ed:y.d=some D)(op:(X.K.A a).op=true)(st:(X.K.A a).st=none)(hs:y.sg="in")(n0:1<=n)(n1:n<=6)(w0:2<=w):Ti n w (tOn n w X i y D a).2 (m+1) (r+1):=by
 have Y:=I.ys i y hy;have ha:=Y.at_ a ea;have hD:=Y.dw D ed;have tk:=I.tk;unfold tOn;cases hd:gM D with
 |none=>
  dsimp only;unfold jC;obtain⟨ps,hps⟩:∃ps,ps=ppL n ⟨D.hs,D.ps,[]⟩:=⟨_,rfl⟩;rw[<-hps];have hpb:∀e∈ps,0<=e.1/\e.1<n:=fun e h=>by rw[hps]at h;have:=uQ h;exact⟨this.1,this.2.1⟩
  have hpl:ps.length<=6:=by rw[hps];exact zH hD.hw.wf (by omega) n1
  split;exact I.mono;obtain⟨I3,i3,o3,st3,ot3,ev3,ho3,tk3⟩:=qz a ps X.K I.k ha st (fun e h=>by have:=hpb e h;omega);have hk:Ki (bR (cm X.K a ps) a).2 n.toNat:=I3.take (by rw[i3];exact ha) st3;have hi:(bR (cm X.K a ps) a).2.ids=X.K.ids:=Ar.trans i3;have ho:∀x,x≠a->(bR (cm X.K a ps) a).2.A x=X.K.A x:=fun x hx=>(DI hx).trans (ot3 x hx);have hb:Kb (bR (cm X.K a ps) a).2 (8*(m+1)):=(Kb.call (k:=.tk a) (As (a:=a) ps X.K _ I.b)).mono (by omega);have ht:(bR (cm X.K a ps) a).2.tk<=m+1:=by have:=DH (K:=cm X.K a ps) (a:=a);rw[tk3]at this;omega
  split;exact I.fell hy ea hi ho hk hb ht;rename_i h1;split;exact I.done hy ea ed hi ho hk hb ht;rename_i h2;obtain⟨p1,p2⟩:=DG h1 h2;exact I.step (y':={ y with sg:="taken" }) hy ea rfl hi ho rfl rfl rfl Y.dw (.tk rfl ea ed (by show((bR (cm X.K a ps) a).2.A a).op=true;rw[p1,o3];exact op) p2) hk hb ht (fun k hk=>.inl hk) (X7 _)
 |some u=>
  dsimp only;split;rename_i hk;have hk':HM u=true:=by unfold oT at hk;exact(Bool.and_eq_true_iff.mp hk).1
  obtain⟨g,b,rfl,g0,g1,b0,b1⟩:=hD.ask hd hk';have hb':lkB (lj.u (.look g b))=b:=rfl;rw[hb'];unfold jT;split;exact I.mono;have hK:Ki (cV X.K a b).2 n.toNat:=I.k.look ha st b0 (by omega);have hB:Kb (cV X.K a b).2 (8*(m+1)):=(Kb.call (k:=.lk a b) I.b).mono (by omega);have hT:(cV X.K a b).2.tk<=m+1:=by rw[DJ];omega
  rcases qC X.K a b with hc|⟨v,hc⟩;rw[hc];exact I.fell hy ea (nW _ _ _) (fun x hx=>wK hx) hK hB hT;rw[hc];obtain⟨p1,p2⟩:=DK hc;have hD2:DgW n w (rh D v):=(wQ (v:=v) (cD:=⟨0,[]⟩) (S:=[dOb ⟨0,[]⟩ w n D,.dic (dT [])]) (i:=0) (ll:=1) (lk:=[]) hD rfl rfl hd hk').2;exact I.step (y':={ y with d:=some (rh D v) }) hy ea rfl (nW _ _ _) (fun x hx=>wK hx) rfl rfl rfl (fun E h=>by cases h;exact hD2) (.go hs ea rfl (by show((cV X.K a b).2.A a).op=true;rw[p1];exact op) (by show((cV X.K a b).2.A a).st=none;rw[p2];exact st)) hK hB hT (fun k hk=>.inl hk) (X7 _);rename_i hk;have hk2:oT D u=false:=by simpa using hk
  obtain⟨_,hD2⟩:=Fi hD w0 n1 hd hk2;split;exact I.step (y':={ y with d:=some (dDo w n D).2 }) hy ea rfl rfl (fun x hx=>rfl) rfl rfl rfl (fun E h=>by cases h;exact hD2) (.go hs ea rfl op st) I.k (I.b.mono (by omega)) (by show X.K.tk<=_;omega) (fun k hk=>.inl hk) (X7 _);exact I.slept hy ea hD2
def Ti.writ(I:Ti n w X m r)(hy:X.os[i]?=some y)(ea:y.att=some a)(ed:y.d=some D)(op:(X.K.A a).op=true)(st:(X.K.A a).st.isSome=true)(hs:y.sg="taken"):Ti n w (mN X i y a).2 (m+1) (r+1):=by
 have Y:=I.ys i y hy;have ha:=Y.at_ a ea;have tk:=I.tk;have hK:Ki (bJ X.K a).2 n.toNat:=I.k.write ha op st;have hB:Kb (bJ X.K a).2 (8*(m+1)):=(Kb.call (k:=.wr a) I.b).mono (by omega);have hT:(bJ X.K a).2.tk<=m+1:=by rw[Aq];omega
 unfold mN;split;exact I.done hy ea ed pV (fun x hx=>tm hx) hK hB hT;rename_i hd;obtain⟨p1,p2⟩:=Ap hd;refine I.step (y':=y) hy ea ?_ pV (fun x hx=>tm hx) rfl rfl rfl Y.dw (.tk hs ea ed (by show((bJ X.K a).2.A a).op=true;rw[p1];exact op) (by show((bJ X.K a).2.A a).st.isSome=true;rw[p2];exact st)) hK hB hT (fun k hk=>.inl hk) (X7 _);show X.os=X.os.set i y;have li:=(Q4.mp hy);obtain⟨l,e⟩:=li;rw[<-e,List.set_getElem_self]
def Ti.go(I:Ti n w X m r)(hy:X.os[i]?=some y)(n0:1<=n)(n1:n<=6)(w0:2<=w):Ti n w (sh n w X i y).2 (m+1) (r+2):=by
 have up:∀{Z:Tc} {s:Nat},Ti n w Z (m+1) s->s<=r+2->Ti n w Z (m+1) (r+2):=fun h l=>⟨h.k,h.b,h.tk,h.il,h.be,h.ids,h.ys,h.inj,h.rw,by have:=h.rl;omega⟩;have eO:(jb X i).os=X.os:=by unfold jb;split<;>rfl
 have eK:(jb X i).K=X.K:=by unfold jb;split<;>rfl
 have I2:=I.row hy;have hy2:(jb X i).os[i]?=some y:=by rw[eO];exact hy
 unfold sh;split;exact up I.mono (by omega);rename_i nd;split;exact up I.mono (by omega);split;exact up I2.mono (by omega);cases (I2.ys i y hy2).sg with
 |out hs=>
  rw[XQ (by rw[hs];exact EW),XQ (by rw[hs];exact EV)];exact up (I2.begun hy2) (by omega)
 |sl hs ea=>
  rw[XQ (by rw[hs];exact Lb),XQ (by rw[hs];exact La)];exact up (I2.begun hy2) (by omega)
 |dn hs=>exact absurd hs nd
 |go hs ea ed op st=>
  rw[X9 hs,ea,ed];exact up (I2.on hy2 ea ed op st hs n0 n1 w0) (by omega)
 |tk hs ea ed op st=>
  rw[XQ (by rw[hs];exact K7),X9 hs,ea];exact up (I2.writ hy2 ea ed op st hs) (by omega)
end
def dnK(X:Tc):Nat->List (Int×Int)
 |0=>[]
 |k+1=>match X.os[k]? with
  |some y=>if y.sg="done" then fZ (dnK X k) (y.att.getD 0) (k:Int)else dnK X k
  |none=>dnK X k
def lA(X:Tc):List Int:=((eZ X.K).filter fun a=>(bC (dnK X X.os.length) a).isSome).map fun a=>(bC (dnK X X.os.length) a).getD 0
def vZ(X:Tc):Bool:=X.os.all fun y=>decide (y.sg="done")||slp X y
def xG(y:Tyg):U:=if y.sg="done" then .tup ((y.d.getD d00).hs.map U.int)else .non
def rsV(X:Tc)(i:Nat):Bool:=match X.os[i]? with
 |some y=>decide (y.sg="done")||slp X y
 |none=>true
def zt{X:Tc}{i:Nat}{y:Tyg}(h:X.os[i]?=some y):rsV X i=(decide (y.sg="done")||slp X y):=by unfold rsV;rw[h]
def A7(X:Tc):∀k,(dnK X k).length<=k
 |0=>Q7 _
 |k+1=>by
  have ih:=A7 X k;unfold dnK;split;split;exact ZQ (qq _ _ _) (by omega);omega;omega
def x6{m:Nat}{f:Nat->U}:x8 ((QF m).map f)=(List.range' 0 m).map fun i=>.tup [.int (i:Int),f i]:=by
 unfold x8;refine List.ext_getElem? fun k=>?_;rw[QL,QL,List.getElem?_zipIdx,QL];by_cases h:k<m;rw[Zn h,List.getElem?_range' h];simp;rw[Zx (by simp;omega),Zx (by simp;omega)];rfl
section
variable{n w:Int}{o:Nat->Nat}{q:Int->Nat->Nat}{m:Nat}{zO:O}
def BD(z:Cz):Fn:=fnU 1 1 (jN (BH z.K) z.K z.T)
def Gw(M:Mm pos c T)(R:Tr z j n w pos c X p q t o lr ld):BD z [.ref (t 0)] T=some (.ref T.length,T++[.lst X.K.ev]):=by
 have t0:=M.get R.pT R.cT;have k0:=M.get (R.kr.pk 0 (by decide)) R.kr.c0;have e:=HC M R.kr;unfold tO' at t0;unfold BD;rw[oS];rwa[jN,t0,k0,e]
def BC(z:Cz):Fn:=fnU 1 1 (jM (BG z.K) z.K z.T)
def Gv(M:Mm pos c T)(R:Tr z j n w pos c X p q t o lr ld):BC z [.ref (t 0)] T=some (.tup (X.K.bx.map U.int),T):=by
 have t0:=M.get R.pT R.cT;have k0:=M.get (R.kr.pk 0 (by decide)) R.kr.c0;have e:=HB M R.kr;unfold tO' at t0;unfold BC;rw[oS];rwa[jM,t0,k0,e]
def mJ(z:Cz):Fn:=fnU 2 2 (iD z.Y z.T)
def zg(M:Mm pos c T)(R:Tr z j n w pos c X p q t o lr ld)(hy:X.os[i]?=some y):mJ z [.ref (t 0),.int i] T=some (.int y.fa,T):=by
 have t0:=M.get R.pT R.cT;have t1:=M.get R.pO R.cO;have ty:=M.get (R.py i y hy) (R.cy i y hy);have ao:=yo (o:=o) hy;unfold tO' at t0;unfold yO at ty;unfold mJ;rw[kq];rwa[iD,t0,t1,ao,ty]
def mI(z:Cz):Fn:=fnU 3 2 (fL z.T z.Y z.D)
def zf(M:Mm pos c T)(R:Tr z j n w pos c X p q t o lr ld)(hy:X.os[i]?=some y)(hs:Sg X.K y):mI z [.ref (t 0),.int i] T=some (xG y,T):=by
 have t0:=M.get R.pT R.cT;have t1:=M.get R.pO R.cO;have ty:=M.get (R.py i y hy) (R.cy i y hy);have ao:=yo (o:=o) hy;unfold tO' at t0;unfold yO at ty;unfold mI xG;rw[oe];by_cases h:y.sg="done";obtain⟨D,ed⟩:∃D,y.d=some D:=by
  cases hs with
  |out h'=>rw[h']at h;exact absurd h wx
  |go h'=>rw[h']at h;exact absurd h z7
  |tk h'=>rw[h']at h;exact absurd h z6
  |sl h'=>rw[h']at h;exact absurd h uW
  |dn h' ea ed=>exact⟨_,ed⟩
 have td:=M.get (R.pd i y D hy ed) (R.cd i y D hy ed);unfold dOb dO at td;rw[ed]at ty ⊢;rw[X9 h];have dd:=XX h;simp only[duU]at ty;rwa[fL,t0,t1,ao,ty,dd,td,ZP];rw[XQ h];have dd:=XZ h;rwa[fL,t0,t1,ao,ty,dd]
def rA(z:Cz):Fn:=fnU 1 1 (fJ (BE z) z.T z.Y)
def zd(M:Mm pos c T)(R:Tr z j n w pos c X p q t o lr ld)(I:Ki X.K m)(hs:∀(i:Nat) (y:Tyg),X.os[i]?=some y->y.sg="asleep"->∃a,y.att=some a/\a∈X.K.ids)(hl:X.os.length<=900):∃G,rA z [.ref (t 0)] T=some (.bl (vZ X),T++G):=by
 have t0:=M.get R.pT R.cT;have t1:=M.get R.pO R.cO;unfold tO' at t0;have key:Wp ((fJ (BE z) z.T z.Y [uR (t 0)] T).bind kFn) fun r=>r.1=.bl (vZ X)/\∃G,r.2=T++G:=by
  unfold fJ;refine IC (P7 ?_);refine Gs (cs:=[uR (t 0)]) (xs:=QF X.os.length) (f:=fun i=>U.ref (o i)) (v:=fun i=>.bl (rsV X i)) (S1:=T) (tD (by rwa[t0]) t1) (fun G=>aC t1) (by rw[ZY];omega) rfl (fun i hi G=>?_) fun G=>?_;have li:=ZN.mp hi;have hy:X.os[i]?=some X.os[i]:=QQ li;have M1:=M.app G;have s0:=M1.get R.pT R.cT;have sy:=M1.get (R.py i _ hy) (R.cy i _ hy);unfold tO' at s0;unfold yO at sy;rw[zt hy];generalize X.os[i]=y at hy sy;cases hd:decide (y.sg="done")with
  |true=>exact .of (r:=(.bl true,T++G)) (by rwa[sy,hd]) ⟨rfl,[],(Z8 _).symm⟩
  |false=>
   obtain⟨G1,e1⟩:=EL (i:=i) M1 R I.w hy (hs i y hy);exact .of (r:=(.bl (slp X y),T++G++G1)) (by rwa[s0,sy,hd,e1]) ⟨by rw[Bool.false_or],G1,rfl⟩
  have el:(T++O.lst ((QF X.os.length).map fun i=>U.bl (rsV X i))::G)[T.length]?=some (.lst (((QF X.os.length).map (rsV X)).map U.bl)):=by
   rw[ga0,ZG];rfl
  refine P8 el ⟨?_,_,rfl⟩;show U.bl (((QF X.os.length).map (rsV X)).all id)=_;refine congrArg U.bl ?_;unfold vZ;rw[List.all_map];refine Zc.mpr ?_;rw[Ze,Ze];constructor;intro h y hy;obtain⟨k,lk,e⟩:=List.getElem_of_mem hy;have:=h k (ZN.mpr lk);rw[Function.comp,id,zt (QQ lk),e]at this;exact this;intro h k hk;have lk:=ZN.mp hk;rw[Function.comp,id,zt (QQ lk)];exact h _ (List.getElem_mem lk)
 obtain⟨⟨v,T1⟩,e,rfl,G,hG⟩:=key;dsimp only at hG;subst hG;refine⟨G,?_⟩;unfold rA;rw[oS];exact e
def rB(z:Cz)(zO:O):Fn:=fnU 4 1 (fK (ky z.K z.A zO) z.T z.Y z.K)
def ze{l0:Nat}(M:Mm pos c T)(R:Tr z j n w pos c X p q t o lr ld)(hz:T[l0]?=some zO)(h64:X.K.ids.length<64)(hl:X.os.length<=900)(hs:∀(i:Nat) (y:Tyg),X.os[i]?=some y->Sg X.K y):∃G l,rB z zO [.ref (t 0)] T=some (.ref l,T++G)/\(T++G)[l]?=some (.lst ((lA X).map U.int))/\T.length<=l:=by
 have t0:=M.get R.pT R.cT;have t1:=M.get R.pO R.cO;have k0:=M.get (R.kr.pk 0 (by decide)) R.kr.c0;unfold tO' at t0;have key:Wp ((fK (ky z.K z.A zO) z.T z.Y z.K [uR (t 0),none,none,none] T).bind kFn) fun r=>∃G l,r.1=.ref l/\r.2=T++G/\(T++G)[l]?=some (.lst ((lA X).map U.int))/\T.length<=l:=by
  unfold fK;rw[fY (ρ':=[uR (t 0),uR T.length,none,none]) (S':=T++[.dic []]) (by rwa[])];have lp:Wp (oV (ve (aS z.T 3 (ah 0))) (gTp [2,3]) (d9 (ky z.K z.A zO) z.T z.Y z.K) [uR (t 0),uR T.length,none,none] (T++[.dic []])) fun s=>s.1=.nx/\∃r2 r3,s.2.1=[uR (t 0),uR T.length,r2,r3]/\s.2.2=T++[.dic (dI (dnK X X.os.length))]:=by
   have ei:ve (aS z.T 3 (ah 0)) [uR (t 0),uR T.length,none,none] (T++[.dic []])=some ((List.range' 0 X.os.length).map (fun i:Nat=>U.tup [.int (i:Int),.ref (o i)]),fun S=>S[t 1]?=some (.lst ((QF X.os.length).map fun i=>U.ref (o i))),T++[.dic []]):=by
    have s0:=aC (r:=[O.dic []]) t0;have s1:=aC (r:=[O.dic []]) t1;have ef:aS z.T 3 (ah 0) [uR (t 0),uR T.length,none,none] (T++[.dic []])=some (.ref (t 1),T++[.dic []]):=by rwa[s0]
    unfold ve;rw[ef,Q8];simp only[IE,s1,Q8,x6]
   refine Me ei (Cg (fun xs ρ S=>∃k r2 r3,k<=X.os.length/\xs=List.range' k (X.os.length-k)/\ρ=[uR (t 0),uR T.length,r2,r3]/\S=T++[.dic (dI (dnK X k))]) (fun ρ S h=>?_) (fun x xs ρ S h=>?_) _ _ _ ⟨0,none,none,ZC _,rfl,rfl,rfl⟩);obtain⟨k,r2,r3,hk,hx,rfl,rfl⟩:=h;have:X.os.length-k=0:=by
    have:=congrArg List.length hx;rw[Zk,List.length_range']at this;omega
   have ek:k=X.os.length:=by omega
   subst ek;exact⟨aC t1,rfl,r2,r3,rfl,rfl⟩;obtain⟨k,r2,r3,hk,hx,rfl,rfl⟩:=h;have hlt:k<X.os.length:=by
    have:=congrArg List.length hx;rw[QK,List.length_range']at this;omega
   rw[show X.os.length-k=(X.os.length-(k+1))+1 by omega,List.range'_succ]at hx;obtain⟨rfl,rfl⟩:=List.cons.inj hx;have hy:X.os[x]?=some X.os[x]:=QQ hlt;have sg:=hs x _ hy;have sy:=aC (r:=[O.dic (dI (dnK X x))]) (M.get (R.py x _ hy) (R.cy x _ hy));unfold yO at sy;have en:dnK X (x+1)=if (X.os[x]).sg="done" then fZ (dnK X x) ((X.os[x]).att.getD 0) (x:Int)else dnK X x:=by
    rw[dnK,hy]
   refine⟨aC t1,.of (r:=([uR (t 0),uR T.length,uI (x:Int),uR (o x)],T++[.dic (dI (dnK X x))])) rfl ?_⟩;have hL:(dI (dnK X x)).length<LIM:=by unfold dI;rw[Q9];have:=A7 X x;unfold LIM;omega
   generalize X.os[x]=y at hy sg sy en;by_cases hd:y.sg="done";obtain⟨a,ea⟩:∃a,y.att=some a:=by
    cases sg with
    |out h'=>rw[h']at hd;exact absurd hd wx
    |go h'=>rw[h']at hd;exact absurd hd z7
    |tk h'=>rw[h']at hd;exact absurd hd z6
    |sl h'=>rw[h']at hd;exact absurd hd uW
    |dn h' ea ed=>exact⟨_,ea⟩
   rw[X9 hd,ea,ZP]at en;rw[ea]at sy;simp only[stU]at sy;have dd:=XX hd;refine .of (r:=(.nx,[uR (t 0),uR T.length,uI (x:Int),uR (o x)],T++[.dic (dI (dnK X (x+1)))])) ?_ (.inl ⟨rfl,x+1,_,_,hlt,rfl,rfl,rfl⟩);rw[en,<-zF];rwa[d9,sy,dd,hL,if_true];rw[XQ hd]at en;have dd:=XZ hd;refine .of (r:=(.nx,[uR (t 0),uR T.length,uI (x:Int),uR (o x)],T++[.dic (dI (dnK X (x+1)))])) ?_ (.inl ⟨rfl,x+1,_,_,hlt,rfl,rfl,rfl⟩);rw[en];rwa[d9,sy,dd]
  obtain⟨⟨ot,ρ1,T1⟩,e1,h1,r2,r3,h2,h3⟩:=lp;dsimp only at h1 h2 h3;subst h1 h2;rw[fY e1];have M1:=M.app [.dic (dI (dnK X X.os.length))];rw[<-h3]at M1;have s0:=M1.get R.pT R.cT;have sk:=M1.get (R.kr.pk 0 (by decide)) R.kr.c0;unfold tO' at s0;have hz1:T1[l0]?=some zO:=by rw[h3];exact aC hz
  have e2:=Ai M1 R.kr hz1 h64;have sd:T1[T.length]?=some (.dic (dI (dnK X X.os.length))):=by rw[h3,ga0];rfl
  have gl:(T1++[O.lst ((eZ X.K).map U.int)])[T1.length]?=some (.lst ((eZ X.K).map U.int)):=by rw[ga0];rfl
  have kl:(eZ X.K).length<=9000:=by
   unfold eZ sx;rw[Q9,(hZ _).length_eq,ZY,Q9];omega
  have hT1:T1.length=T.length+1:=by rw[h3,QH];rfl
  refine IC (yX (cs:=[uR T.length]) (xs:=eZ X.K) (f:=U.int) (p:=fun a=>(bC (dnK X X.os.length) a).isSome) (v:=fun a=>.int ((bC (dnK X X.os.length) a).getD 0)) (S1:=T1++[.lst ((eZ X.K).map U.int)]) (tD (l:=T1.length) (by rwa[s0,sk,e2]) gl) (fun G=>aC gl) kl rfl (fun a ha G=>?_) fun G=>?_);have sd2:=aC (r:=G) (aC (r:=[O.lst ((eZ X.K).map U.int)]) sd);refine .of (r:=((bC (dnK X X.os.length) a).isSome,T1++[.lst ((eZ X.K).map U.int)]++G)) ?_ ⟨rfl,[],(Z8 _).symm,fun hv=>?_⟩;generalize T1++[O.lst ((eZ X.K).map U.int)]++G=S at sd2;rwa[sd2,jS,Option.isSome_map,Zt,if_false];rw[Z8];obtain⟨v,ev⟩:=ZF.mp hv;rw[ev];refine .of (r:=(.int v,T1++[.lst ((eZ X.K).map U.int)]++G)) ?_ ⟨rfl,[],(Z8 _).symm⟩;generalize T1++[O.lst ((eZ X.K).map U.int)]++G=S at sd2;rwa[sd2,jS,ev,Zj];refine⟨.dic (dI (dnK X X.os.length))::.lst ((eZ X.K).map U.int)::.lst ((lA X).map U.int)::G,_,rfl,?_,?_,?_⟩;rw[h3];unfold lA;rw[ZG];simp;have:T++O.dic (dI (dnK X X.os.length))::O.lst ((eZ X.K).map U.int)::O.lst ((lA X).map U.int)::G=(T1++[O.lst ((eZ X.K).map U.int)])++(O.lst ((lA X).map U.int)::G):=by rw[h3];simp
  rw[this,ga0];rfl;rw[QH];omega
 obtain⟨⟨v,T1⟩,e,G,l,h1,h2,h3,h4⟩:=key;dsimp only at h1 h2;subst h1 h2;refine⟨G,l,?_,h3,h4⟩;unfold rB;rw[D0];exact e
end
def rP(dl:List U):Tyg:=⟨dl,none,none,"out",0,0⟩
def Mh(st:List Int)(pa:Option Int)(dls:List (List U)):Tc:=⟨wI st,pa,0,[],dls.map rP⟩
def ow(cY:Cl):Fn:=fnU 2 2 (iA cY)
def Hr{T:Sto}{dl:List U}(hz:CzO z):fU z.Y (ow z.Y) [.tup dl] T=some (.ref T.length,T++[yO z.Y (rP dl) 0]):=by
 rw[rR,hz.Y];unfold ow;rw[kq];have ey:yO z.Y (rP dl) 0=.ins z.Y [some (.tup dl),some .non,some .non,some (.str "out"),uI 0,uI 0]:=rfl;rw[ey];rwa[iA,QX]
def sW{ll lo:Nat}{us:List U}{sd:Pl}(hz:CzO z)(sd1:sd≠tp j 0 1)(sd2:∀i,sd≠tp j 1 i):∀(ds ds0:List (List U)) (pos:Pl->Option Nat) (c:Pl->O) (S:Sto) (o:Nat->Nat) (ρ:Rho),Mm pos c S->pos sd=some ll->c sd=.lst us->pos (tp j 0 1)=some lo->c (tp j 0 1)=.lst ((QF ds0.length).map fun i=>U.ref (o i))->(∀i y,(ds0.map rP)[i]?=some y->pos (tp j 1 i)=some (o i)/\c (tp j 1 i)=yO z.Y y 0)->ds0.length+ds.length<=900->ρ.length=1->
  ∃(pos':Pl->Option Nat) (c':Pl->O) (S':Sto) (o':Nat->Nat),ic (fun S=>S[ll]?=some (.lst us)) (gNm 0) (cCB (fU z.Y (ow z.Y)) (ag (ah 0) ay)) lo (ds.map U.tup) ρ S=some S'/\Mm pos' c' S'/\pos' (tp j 0 1)=some lo/\c' (tp j 0 1)=.lst ((QF (ds0++ds).length).map fun i=>U.ref (o' i))/\(∀i y,((ds0++ds).map rP)[i]?=some y->pos' (tp j 1 i)=some (o' i)/\c' (tp j 1 i)=yO z.Y y 0)/\(∀s,s≠tp j 0 1->(∀i,s≠tp j 1 i)->pos' s=pos s/\c' s=c s)
 |[],ds0,pos,c,S,o,ρ,M,hp,hc,hlo,hco,hy,hl,hρ=>⟨pos,c,S,o,je (M.get hp hc),M,hlo,by rw[Z8];exact hco,by rw[Z8];exact hy,fun s _ _=>⟨rfl,rfl⟩⟩
 |d::ds,ds0,pos,c,S,o,ρ,M,hp,hc,hlo,hco,hy,hl,hρ=>by
  rw[QK]at hl;have M1:=M.new (tp j 1 ds0.length) (yO z.Y (rP d) 0) [];have lo1:eD pos (tp j 1 ds0.length) S.length (tp j 0 1)=some lo:=(aK (aW (by omega))).trans hlo;have co1:aE c (tp j 1 ds0.length) (yO z.Y (rP d) 0) (tp j 0 1)=.lst ((QF ds0.length).map fun i=>U.ref (o i)):=(aq (aW (by omega))).trans hco;have M2:=M1.set lo1 (.lst ((QF ds0.length).map (fun i=>U.ref (o i))++[.ref S.length]));obtain⟨o2,ho2⟩:∃o2:Nat->Nat,o2=fun i=>if i=ds0.length then S.length else o i:=⟨_,rfl⟩
  have el:(QF ds0.length).map (fun i=>U.ref (o i))++[U.ref S.length]=(QF (ds0++[d]).length).map fun i=>U.ref (o2 i):=by
   rw[QH,X0,List.range_succ,Zg,ho2];congr 1;refine Zb fun i hi=>?_;show _=U.ref (if i=ds0.length then _ else _);rw[XQ (by have:=ZN.mp hi;omega)];simp
  obtain⟨pos',c',S',o',e,M',q1,q2,q3,q4⟩:=sW (us:=us) hz sd1 sd2 ds (ds0++[d]) _ _ _ o2 [some (.tup d)] M2 ((aK (sd2 _)).trans hp) (by rw[aq sd1,aq (sd2 _)];exact hc) lo1 (by rw[aJ,el]) (fun i y h=>by
    rw[Zg,QU,Zv]at h;by_cases e:i<ds0.length;rw[ZJ (by rw[Q9];exact e)]at h;obtain⟨h1,h2⟩:=hy i y h;rw[aK (aW (by omega)),aq (aW (by omega)),aq (aW (by omega)),show o2 i=o i by rw[ho2];exact XQ (by omega)];exact⟨h1,h2⟩;have hi:i=ds0.length:=by
     have:=(Q4.mp h).1;simp at this;omega
    subst hi;rw[ZZ (by rw[Q9];exact Q7 _),Q9,Nat.sub_self]at h;cases h;rw[cX,aq (aW (by omega)),aJ,show o2 ds0.length=S.length by rw[ho2];exact X9 rfl];exact⟨rfl,rfl⟩) (by rw[QH,X0];omega) rfl
  rw[Qw,List.singleton_append]at q2 q3;refine⟨pos',c',S',o',?_,M',q1,q2,q3,fun s h1 h2=>?_⟩;rw[QU,ib (ρ0:=[some (.tup d)]) (S0:=S) (S1:=S++[yO z.Y (rP d) 0]) (x:=.ref S.length) (ys:=(QF ds0.length).map fun i=>U.ref (o i)) (M.get hp hc) (by
   match ρ,hρ with
   |[r],_=>rfl) (by rw[FN,lu,uE,ZI,mK,Q8,jA,uF,Q8,jy,Q8,xw,Hr hz]) (M1.get lo1 co1) (by rw[Q9,ZY];unfold LIM;omega)]
  exact e;obtain⟨r1,r2⟩:=q4 s h1 h2;rw[r1,r2,aK (h2 _),aq h1,aq (h2 _)];exact⟨rfl,rfl⟩
section
variable{n w:Int}
def gT(z:Cz):Fn:=fnU 5 5 (gD (rH z.K) (ow z.Y) z.T z.K z.Y)
def uL{st:List Int}{pa:Option Int}{dls:List (List U)}{ll:Nat}{sd:Pl}(hz:CzO z)(M:Mm pos c T)(hp:pos sd=some ll)(hc:c sd=.lst (dls.map U.tup))(hs:¬ym j sd)(hl:st.length<=900)(hd:dls.length<=900) :
  Wp (fU z.T (gT z) [.tup [.int n,.int w],.tup (st.map U.int),.ref ll,stU pa] T) fun r=>∃(pos':Pl->Option Nat) (c':Pl->O) (p:Nat->Nat) (q:Int->Nat->Nat) (t o:Nat->Nat) (lr:Nat) (ld:Nat->Nat),r.1=.ref (t 0)/\Mm pos' c' r.2/\Tr z j n w pos' c' (Mh st pa dls) p q t o lr ld/\FmT j pos c pos' c':=by
 have sne:∀f i,f<4->sd≠tp j f i:=fun f i h e=>hs (by rw[e];exact .tp h);have M0:=M.new (tp j 0 0) (.ins z.T [none,none,none,none,none,none]) [];have p00:eD pos (tp j 0 0) T.length (tp j 0 0)=some T.length:=cX;obtain⟨T0,hT0⟩:∃T0,T0=T++[O.ins z.T [none,none,none,none,none,none]]:=⟨_,rfl⟩;rw[<-hT0]at M0;have s0:=M0.get p00 aJ;have M1:=M0.set p00 (.ins z.T [some (.tup [.int n,.int w]),none,none,none,none,none]);obtain⟨T1,hT1⟩:∃T1,T1=T0.set T.length (O.ins z.T [some (.tup [.int n,.int w]),none,none,none,none,none]):=⟨_,rfl⟩;rw[<-hT1]at M1;obtain⟨⟨u2,T2⟩,e2,hu2,pos2,c2,M2,R2,F2⟩:=K6 (cA:=z.A) (j:=j) (st:=st) (x:=.tup [.int n,.int w]) hz.K hl M1;dsimp only at hu2 M2 e2;subst hu2;have f2:∀f i,pos2 (tp j f i)=eD pos (tp j 0 0) T.length (tp j f i)/\c2 (tp j f i)=_:=fun f i=>F2 _ Gu;have p20:pos2 (tp j 0 0)=some T.length:=(f2 0 0).1.trans p00;have s2:=M2.get p20 ((f2 0 0).2.trans aJ);have M3:=M2.set p20 (.ins z.T [some (.tup [.int n,.int w]),uR T1.length,some (stU pa),none,none,none]);have lt2:=M2.lt p20;have g2:∀x:O,(T2.set T.length x)[T.length]?=some x:=fun x=>by rw[ZR,X9 rfl,X9 lt2]
 obtain⟨T3,hT3⟩:∃T3,T3=T2.set T.length (O.ins z.T [some (.tup [.int n,.int w]),uR T1.length,some (stU pa),none,none,none]):=⟨_,rfl⟩;rw[<-hT3]at M3;have R3:Kr z.K z.A j pos2 (aE c2 (tp j 0 0) (.ins z.T [some (.tup [.int n,.int w]),uR T1.length,some (stU pa),none,none,none])) (wI st) (BR T1.length) (fun _ _=>0):=R2.fx Fx.upd;have psd:pos2 sd=some ll:=((F2 sd fun h=>hs (.inl h)).1.trans (aK (sne 0 0 (by omega)))).trans hp;have csd:aE c2 (tp j 0 0) (.ins z.T [some (.tup [.int n,.int w]),uR T1.length,some (stU pa),none,none,none]) sd=.lst (dls.map U.tup):=by
  rw[aq (sne 0 0 (by omega)),(F2 sd fun h=>hs (.inl h)).2,aq (sne 0 0 (by omega)),aq (sne 0 0 (by omega))];exact hc
 have M4:=M3.new (tp j 0 1) (.lst []) [];obtain⟨pos5,c5,T5,o,e5,M5,q1,q2,q3,q4⟩:=sW (lo:=T3.length) (us:=dls.map U.tup) hz (sne 0 1 (by omega)) (fun i=>sne 1 i (by omega)) dls [] _ _ _ (fun _=>0) [none] M4 ((aK (sne 0 1 (by omega))).trans psd) ((aq (sne 0 1 (by omega))).trans csd) cX aJ (fun i y h=>by simp at h) (by rw[Zk];omega) rfl;rw[Zq]at q2 q3;have p50:pos5 (tp j 0 0)=some T.length:=by
  rw[(q4 (tp j 0 0) (aW (by omega)) fun i=>aW (by omega)).1,aK (aW (by omega))];exact p20
 have c50:c5 (tp j 0 0)=.ins z.T [some (.tup [.int n,.int w]),uR T1.length,some (stU pa),none,none,none]:=by
  rw[(q4 (tp j 0 0) (aW (by omega)) fun i=>aW (by omega)).2,aq (aW (by omega)),aJ]
 have s5:=M5.get p50 c50;have M6:=M5.set p50 (.ins z.T [some (.tup [.int n,.int w]),uR T1.length,some (stU pa),uR T3.length,uI 0,none]);have lt5:=M5.lt p50;have g5:∀x:O,(T5.set T.length x)[T.length]?=some x:=fun x=>by rw[ZR,X9 rfl,X9 lt5]
 obtain⟨T6,hT6⟩:∃T6,T6=T5.set T.length (O.ins z.T [some (.tup [.int n,.int w]),uR T1.length,some (stU pa),uR T3.length,uI 0,none]):=⟨_,rfl⟩;rw[<-hT6]at M6;have M7:=M6.new (tp j 0 2) (.lst []) [];have p70:eD pos5 (tp j 0 2) T6.length (tp j 0 0)=some T.length:=(aK (aW (by omega))).trans p50;have s7:=M7.get p70 ((aq (aW (by omega))).trans aJ);have M8:=M7.set p70 (tO' z.T n w T1.length pa T3.length 0 T6.length);refine⟨(.ref T.length,_),?_,_,_,BR T1.length,fun _ _=>0,fun f=>if f=0 then T.length else T3.length,o,T6.length,fun _=>0,rfl,M8,⟨?_,?_,?_,?_,?_,?_,?_,?_,?_,?_,?_⟩,?_⟩;rw[rR,hz.T];unfold gT tO';rw[OM];have ec:dG (iTp (ah 3)) (gNm 0) (cCB (fU z.Y (ow z.Y)) (ag (ah 0) ay)) 1 [] [uR T.length,some (.tup [.int n,.int w]),some (.tup (st.map U.int)),uR ll,some (stU pa)] T3=some (.ref T3.length,T5):=by
  unfold dG;rw[tD (l:=ll) (us:=dls.map U.tup) (S1:=T3) (by rwa[]) (M3.get psd csd),Q8];show Option.bind (ic _ _ _ _ _ [none] _) _=_;rw[e5];rfl
 obtain⟨ss,hss⟩:∃ss,ss=st.map U.int:=⟨_,rfl⟩;rw[<-hss]at e2 ec ⊢;rwa[gD,QX,hT0.symm,s0,hT1.symm,e2,s2,g2,ZL,hT3.symm,ec,s5,g5,hT6.symm,s7];exact(R3.fx fun s hs=>by
  have h1:s≠tp j 0 1:=hs _ _;have h2:∀i,s≠tp j 1 i:=fun i=>hs _ _;have h0:s≠tp j 0 0:=hs _ _;have h3:s≠tp j 0 2:=hs _ _;obtain⟨a1,a2⟩:=q4 s h1 h2;rw[aK h3,a1,aK h1,aq h0,aq h3,aq h0,a2,aq h1];exact⟨rfl,rfl⟩)
 exact p70;show eD pos5 (tp j 0 2) T6.length (tp j 0 1)=some T3.length;rw[aK (aW (by omega))];exact q1;exact cX;rw[aJ];rfl;rw[aq (aW (by omega)),aq (aW (by omega)),aq (aW (by omega)),q2];show _=O.lst ((QF (dls.map rP).length).map _);rw[Q9];rw[aq (aW (by omega)),aJ];rfl;intro i y h;rw[aK (aW (by omega))];exact(q3 i y h).1;intro i y h;rw[aq (aW (by omega)),aq (aW (by omega)),aq (aW (by omega))];exact(q3 i y h).2;intro i y D h h';obtain⟨d,hd',rfl⟩:=ZV.mp (ZS (show(dls.map rP)[i]?=some y from h));cases h';intro i y D h h';obtain⟨d,hd',rfl⟩:=ZV.mp (ZS (show(dls.map rP)[i]?=some y from h));cases h';intro s hs';have nt:∀f i,f<4->s≠tp j f i:=fun f i h e=>hs' (by rw[e];exact .tp h);obtain⟨a1,a2⟩:=q4 s (nt 0 1 (by omega)) fun i=>nt 1 i (by omega);obtain⟨b1,b2⟩:=F2 s fun h=>hs' (.inl h);rw[aK (nt 0 2 (by omega)),a1,aK (nt 0 1 (by omega)),b1,aK (nt 0 0 (by omega)),aq (nt 0 0 (by omega)),aq (nt 0 2 (by omega)),aq (nt 0 0 (by omega)),a2,aq (nt 0 1 (by omega)),aq (nt 0 0 (by omega)),b2,aq (nt 0 0 (by omega)),aq (nt 0 0 (by omega))];exact⟨rfl,rfl⟩
def JL{st:List Int}{pa:Option Int}{dls:List (List U)}{e:Nat}(hs:st.length=n.toNat)(hn:n.toNat<64)(he:e<=50)(hd:∀d∈dls,∀u∈d,DU n w e u):Ti n w (Mh st pa dls) 0 0:=by
 refine⟨Ki.new hs hn,Kb.new,Zi _,Q7 _,Zi _,(fun a h=>nomatch h),fun i y h=>?_,fun i i' y y' a h h' ha=>?_,(fun k h=>nomatch h),Q7 _⟩;obtain⟨d,hd',rfl⟩:=ZV.mp (ZS (show(dls.map rP)[i]?=some y from h));exact⟨⟨e,he,hd d hd'⟩,(fun D hD=>nomatch hD),(fun a h=>nomatch h),.out rfl⟩;obtain⟨d,hd',rfl⟩:=ZV.mp (ZS (show(dls.map rP)[i]?=some y from h));cases ha
end
end OQ
namespace OL
open PySem PySem.Spec PyProof.Rows L2 OG OP OQ
def Dv{ok:Sto->Prop}{gg:CG}{cbd:CS}{u:U}{us:List U}{ρ ρ0 ρ1:Rho}{S S0 S1:Sto}(h:ok S)(hg:gg u ρ S=some (ρ0,S0))(hb:cbd ρ0 S0=some (.bk,ρ1,S1)):eY ok gg cbd (u::us) ρ S=some (.nx,ρ1,S1):=by
 unfold eY;rw[X9 h,hg,Q8];dsimp only;rw[hb,Q8]
def EC{α:Type}{ok:Sto->Prop}{gg:CG}{cb:CS}{f:α->U}{R:Out×Rho×Sto->Prop}(I:List α->Rho->Sto->Prop)(h0:∀ρ S,I [] ρ S->ok S/\R (.nx,ρ,S))
  (h1:∀x xs ρ S,I (x::xs) ρ S->ok S/\Wp (gg (f x) ρ S) fun r=>Wp (cb r.1 r.2) fun s=>(s.1=.nx/\I xs s.2.1 s.2.2)\/(s.1=.bk/\R (.nx,s.2.1,s.2.2))) :
  ∀(xs:List α) (ρ:Rho) (S:Sto),I xs ρ S->Wp (eY ok gg cb (xs.map f) ρ S) R
 |[],ρ,S,h=>by
  obtain⟨a,b⟩:=h0 ρ S h;exact .of (jd a) b
 |x::xs,ρ,S,h=>by
  obtain⟨a,⟨ρ0,S0⟩,e1,⟨o,ρ1,S1⟩,e2,c⟩:=h1 x xs ρ S h;rcases c with⟨c,i⟩|⟨c,q⟩;cases c;obtain⟨r,e3,q⟩:=EC I h0 h1 xs ρ1 S1 i;exact⟨r,(kF a e1 e2).trans e3,q⟩;cases c;exact⟨_,Dv a e1 e2,q⟩
def mM{c:Pl->O}{s:Pl}{o o':O}:aE (aE c s o) s o'=aE c s o':=by
 funext s';by_cases e:s'=s;subst e;rw[aJ,aJ];rw[aq e,aq e,aq e]
def iQ{c:Pl->O}{s s':Pl}{o o':O}(h:s≠s'):aE (aE c s o) s' o'=aE (aE c s' o') s o:=by
 funext x;by_cases e:x=s;subst e;rw[aq h,aJ,aJ];by_cases e':x=s';subst e';rw[aJ,aq e,aJ];rw[aq e',aq e,aq e,aq e']
def Ds(pos:Pl->Option Nat)(c:Pl->O)(T:Sto):Prop:=∃z pu:Int,Mm pos (aE (aE c (.x 8 0) (.lst [.int pu])) (.x 9 0) (.lst [.int z])) T
variable{pos:Pl->Option Nat}{c:Pl->O}{T:Sto}{lw lp l:Nat}{s:Pl}{o:O}
def Ds.app(D:Ds pos c T)(X:Sto):Ds pos c (T++X):=let ⟨z,pu,M⟩:=D;⟨z,pu,M.app X⟩
def Ds.sip{mm:Int}(D:Ds pos c T)(hw:pos (.x 9 0)=some lw)(h0:0<mm)(h1:mm<2^60):∃d T',jR [.ref lw,.int mm] T=some (.int d,T')/\Ds pos c T'/\0<=d/\d<mm/\∀l,l≠lw->T'[l]?=T[l]?:=by
 obtain⟨z,pu,M⟩:=D;obtain⟨d,z',e,M',d0,d1⟩:=NI M hw aJ h0 h1;rw[mM]at M';exact⟨d,_,e,⟨z',pu,M'⟩,d0,d1,fun l hl=>Qt hl.symm⟩
def Ds.get(D:Ds pos c T)(hs:pos s=some l)(n8:s≠.x 8 0)(n9:s≠.x 9 0):T[l]?=some (c s):=by
 obtain⟨z,pu,M⟩:=D;exact M.get hs ((aq n9).trans (aq n8))
def Ds.set(D:Ds pos c T)(hs:pos s=some l)(n8:s≠.x 8 0)(n9:s≠.x 9 0)(o:O):Ds pos (aE c s o) (T.set l o):=by
 obtain⟨z,pu,M⟩:=D;have M':=M.set hs o;rw[iQ n9.symm,iQ n8.symm]at M';exact⟨z,pu,M'⟩
def Ds.new(D:Ds pos c T)(n8:s≠.x 8 0)(n9:s≠.x 9 0)(o:O):Ds (eD pos s T.length) (aE c s o) (T++[o]):=by
 obtain⟨z,pu,M⟩:=D;have M':=M.new s o [];rw[iQ n9.symm,iQ n8.symm]at M';exact⟨z,pu,M'⟩
def Ds.purse(D:Ds pos c T)(hp:pos (.x 8 0)=some lp):∃pu,T[lp]?=some (.lst [.int pu])/\∀pu':Int,Ds pos c (T.set lp (.lst [.int pu'])):=by
 obtain⟨z,pu,M⟩:=D;refine⟨pu,M.get hp ((aq (by simp)).trans aJ),fun pu'=>⟨z,pu',?_⟩⟩;have M':=M.set hp (.lst [.int pu']);rw[iQ (by simp),mM]at M';exact M'
def Fe(e:Nat)(pos:Pl->Option Nat)(c:Pl->O)(pos':Pl->Option Nat)(c':Pl->O):Prop:=∀s,(∀i,i<=e->s≠.x 7 i)->pos' s=pos s/\c' s=c s
def xo(n w:Int)(e:Nat)(fd:Fn):Prop:=∀(most:Int) (pos:Pl->Option Nat) (c:Pl->O) (T:Sto) (lw lp:Nat),0<=most->most<=4->Ds pos c T->pos (.x 9 0)=some lw->pos (.x 8 0)=some lp->Wp (fd [.ref lw,.tup [.int n,.int w],.int most,.int (e:Int),.ref lp] T) fun r=>∃ds,r.1=.tup ds/\(∀u∈ds,DU n w e u)/\∃pos' c',Ds pos' c' r.2/\Fe e pos c pos' c'
structure Fo(n w:Int)(e lw lp lf:Nat)(pos:Pl->Option Nat)(c:Pl->O)(S:Sto)(ds:List U)(pos':Pl->Option Nat)(c':Pl->O):Prop where
 D:Ds pos' c' S
 pf:pos' (.x 7 e)=some lf
 cf:c' (.x 7 e)=.lst ds
 ok:∀u∈ds,DU n w e u
 fr:Fe e pos c pos' c'
variable{pos':Pl->Option Nat}{c':Pl->O}
section
variable{n w:Int}{e lf:Nat}{S S':Sto}{ds:List U}{u:U}
def Fo.ww(F:Fo n w e lw lp lf pos c S ds pos' c')(hw:pos (.x 9 0)=some lw):pos' (.x 9 0)=some lw:=(F.fr _ fun _ _=>by simp).1.trans hw
def Fo.pp(F:Fo n w e lw lp lf pos c S ds pos' c')(hp:pos (.x 8 0)=some lp):pos' (.x 8 0)=some lp:=(F.fr _ fun _ _=>by simp).1.trans hp
def Fo.st(F:Fo n w e lw lp lf pos c S ds pos' c')(D:Ds pos' c' S'):Fo n w e lw lp lf pos c S' ds pos' c':=⟨D,F.pf,F.cf,F.ok,F.fr⟩
def Fo.get(F:Fo n w e lw lp lf pos c S ds pos' c'):S[lf]?=some (.lst ds):=by rw[F.D.get F.pf (by simp) (by simp),F.cf]
def Fo.add(F:Fo n w e lw lp lf pos c S ds pos' c')(us:List U)(h:∀u∈us,DU n w e u):Fo n w e lw lp lf pos c (S.set lf (.lst (ds++us))) (ds++us) pos' (aE c' (.x 7 e) (.lst (ds++us))):=
 ⟨F.D.set F.pf (by simp) (by simp) _,F.pf,aJ,fun u hu=>(Z6.mp hu).elim (F.ok u) (h u),fun s hs=>⟨(F.fr s hs).1,by rw[aq (hs e (Q7 _))];exact(F.fr s hs).2⟩⟩
def Fo.sip{mm:Int}(F:Fo n w e lw lp lf pos c S ds pos' c')(hw:pos (.x 9 0)=some lw)(h0:0<mm)(h1:mm<2^60):∃d S',jR [.ref lw,.int mm] S=some (.int d,S')/\Fo n w e lw lp lf pos c S' ds pos' c'/\0<=d/\d<mm/\∀l,l≠lw->S'[l]?=S[l]?:=by
 obtain⟨d,S',e,D',d0,d1,k⟩:=F.D.sip (F.ww hw) h0 h1;exact⟨d,S',e,F.st D',d0,d1,k⟩
def Fo.lt(F:Fo n w e lw lp lf pos c S ds pos' c')(hw:pos (.x 9 0)=some lw):lw<S.length:=let ⟨_,_,M⟩:=F.D;M.lt (F.ww hw)
def rhD(lw lp lf:Nat)(n w most:Int)(e:Nat)(r:List (Option U)):Rho:=(uR lw)::some (.tup [.int n,.int w])::uI most::uI (e:Int)::uR lp::uR lf::r
def Eh{fd:Fn}{most:Int}{k r7 r8 r9 r10:Option U}(H:∀e',e=e'+1->xo n w e' fd)(n0:1<=n)(n1:n<=6)(w0:2<=w)(w1:w<=1000)(hw:pos (.x 9 0)=some lw)(hp:pos (.x 8 0)=some lp)(F:Fo n w e lw lp lf pos c S ds pos' c')(hl:ds.length<=100) :
  Wp (dH jR fd (rhD lw lp lf n w most e [k,r7,r8,r9,r10]) S) fun s=>(s.1=.nx\/s.1=.bk)/\∃r ds2 pos2 c2,s.2.1=rhD lw lp lf n w most e r/\r.length=5/\Fo n w e lw lp lf pos c s.2.2 ds2 pos2 c2/\ds2.length<=ds.length+3:=by
 obtain⟨way,S1,e1,F1,y0,y1,_⟩:=F.sip (mm:=13) hw (by decide) (by decide);obtain⟨g,S2,e2,F2,g0,g1,k2⟩:=(F1.st (F1.D.app [.lst [.int 2,.int 2,.int 4]])).sip (mm:=3) hw (by decide) (by decide);obtain⟨hm,hhm,h2,h4⟩:∃hm:Int,atI [U.int 2,U.int 2,U.int 4] g=uI hm/\0<hm/\hm<=4:=by
  have:g=0\/g=1\/g=2:=by omega
  rcases this with rfl|rfl|rfl;exact⟨2,at0,by decide,by decide⟩;exact⟨2,at1,by decide,by decide⟩;exact⟨4,at2,by decide,by decide⟩
 have gl:S2[S1.length]?=some (.lst [.int 2,.int 2,.int 4]):=by
  rw[k2 _ (Nat.ne_of_gt (F1.lt hw)),ga0];rfl
 obtain⟨h,S3,e3,F3,h0,h1,_⟩:=F2.sip (mm:=hm) hw h2 (by omega);obtain⟨box,S4,e4,F4,b0,b1,_⟩:=F3.sip (mm:=n) hw (by omega) (by omega);obtain⟨pu,gp,hpu⟩:=F4.D.purse (F4.pp hp);unfold dH rhD;rw[fY (ρ':=rhD lw lp lf n w most e [k,uI way,r8,r9,r10]) (S':=S1) (by rwa[rhD,e1])];rw[fY (ρ':=rhD lw lp lf n w most e [k,uI way,uI h,r9,r10]) (S':=S3) (by rwa[rhD,e2,gl,hhm,e3])];rw[fY (ρ':=rhD lw lp lf n w most e [k,uI way,uI h,uI box,r10]) (S':=S4) (by rwa[rhD,e4])];by_cases hz:pu<=0;refine .of (r:=(.bk,rhD lw lp lf n w most e [k,uI way,uI h,uI box,r10],S4)) ?_ ⟨.inr rfl,_,ds,pos',c',rfl,rfl,F4,by omega⟩;have dd:=XX hz;unfold OW;rwa[rhD,gp,dd];have sk:(dQ (aR (cOp fLe (cOp fIx (ah 4) (cC (.int 0))) (cC (.int 0)))) OW bP) (rhD lw lp lf n w most e [k,uI way,uI h,uI box,r10]) S4=some (.nx,rhD lw lp lf n w most e [k,uI way,uI h,uI box,r10],S4):=by
  have dd:=XZ hz;rwa[rhD,gp,dd]
 rw[fY sk];obtain⟨F5,hF5⟩:∃x:Int,x=pu-1-2*(if decide (way=12)=true then 1 else 0):=⟨_,rfl⟩;have mu:oR (.int 2) (.int (if decide (way=12)=true then 1 else 0)) S4=some (.int (2*(if decide (way=12)=true then 1 else 0)),S4):=rQ (.inl (by decide));have F6:=F4.st (hpu F5);rw[fY (ρ':=rhD lw lp lf n w most e [k,uI way,uI h,uI box,r10]) (S':=S4.set lp (.lst [.int F5])) (by rw[hF5];rwa[rhD,gp,mu])];generalize S4.set lp (.lst [.int F5])=S5 at F6;clear e1 e2 e3 e4 k2 gl gp hpu mu sk F1 F2 F3 F4 hF5 F5;have hL:ds.length<LIM:=by unfold LIM;omega
 have fin:∀(S6:Sto) (pos2:Pl->Option Nat) (c2:Pl->O) (us:List U) (r10':Option U),Fo n w e lw lp lf pos c S6 ds pos2 c2->(∀u∈us,DU n w e u)->us.length<=3->∃r ds2 pos2 c2,rhD lw lp lf n w most e [k,uI way,uI h,uI box,r10']=rhD lw lp lf n w most e r/\r.length=5/\Fo n w e lw lp lf pos c (S6.set lf (.lst (ds++us))) ds2 pos2 c2/\ds2.length<=ds.length+3:=fun S6 pos2 c2 us r10' G hu h3=>⟨_,_,pos2,_,rfl,rfl,G.add us hu,by rw[QH];omega⟩;have one:∀{x:U},DU n w e x->∀u∈[x],DU n w e u:=fun hx u hu=>by rw[Qu.mp hu];exact hx
 have g6:=F6.get;by_cases c1:way<4;have dd:=XX c1;refine .of (r:=(.nx,_,S5.set lf (.lst (ds++[.tup [.str "look",.int h,.int box]])))) ?_ ⟨.inl rfl,fin S5 pos' c' [_] r10 F6 (one (.pl (d:=.look h box) ⟨h0,by omega,b0,b1⟩)) (ZU rfl)⟩;rwa[rhD,dd,g6,fO hL];have d1:=XZ c1;by_cases c2:way<7;have dd:=XX c2;refine .of (r:=(.nx,_,S5.set lf (.lst (ds++[.tup [.str "put",.int box,.int h]])))) ?_ ⟨.inl rfl,fin S5 pos' c' [_] r10 F6 (one (.pl (d:=.put box h) ⟨h0,by omega,b0,b1⟩)) (ZU rfl)⟩;rwa[rhD,d1,dd,g6,fO hL];have d2:=XZ c2;by_cases c3:way=7;obtain⟨v,S7,e7,F7,v0,v1,_⟩:=F6.sip (mm:=w) hw (by omega) (by omega);have dd:=XX c3;have g7:=F7.get;refine .of (r:=(.nx,_,S7.set lf (.lst (ds++[.tup [.str "set",.int h,.int v]])))) ?_ ⟨.inl rfl,fin S7 pos' c' [_] r10 F7 (one (.pl (d:=.set h v) ⟨h0,by omega,v0,v1⟩)) (ZU rfl)⟩;rwa[rhD,d1,d2,dd,g6,e7,g7,fO hL];have d3:=XZ c3;by_cases c4:way=8;obtain⟨v,S7,e7,F7,v0,v1,_⟩:=F6.sip (mm:=4) hw (by decide) (by decide);have dd:=XX c4;have g7:=F7.get;refine .of (r:=(.nx,_,S7.set lf (.lst (ds++[.tup [.str "plus",.int h,.int v]])))) ?_ ⟨.inl rfl,fin S7 pos' c' [_] r10 F7 (one (.pl (d:=.plus h v) ⟨h0,by omega,v0,v1⟩)) (ZU rfl)⟩;rwa[rhD,d1,d2,d3,dd,g6,e7,g7,fO hL];have d4:=XZ c4;by_cases c5:way=9;obtain⟨v,S7,e7,F7,v0,v1,_⟩:=F6.sip (mm:=3) hw (by decide) (by decide);have dd:=XX c5;have g7:=F7.get;refine .of (r:=(.nx,_,S7.set lf (.lst (ds++[.tup [.str "leap",.int h,.int (1+v)]])))) ?_ ⟨.inl rfl,fin S7 pos' c' [_] r10 F7 (one (.pl (d:=.leap h (1+v)) ⟨h0,by omega,by omega,by omega⟩)) (ZU rfl)⟩;rwa[rhD,d1,d2,d3,d4,dd,g6,e7,g7,fO hL];have d5:=XZ c5;by_cases c6:way<12
 ·have dd:=XX c6;cases e with
  |zero=>
   have de:decide ((0:Int)<((0:Nat):Int))=false:=by decide
   refine .of (r:=(.nx,_,S5.set lf (.lst (ds++[.tup [.str "put",.int box,.int h]])))) ?_ ⟨.inl rfl,fin S5 pos' c' [_] r10 F6 (one (.pl (d:=.put box h) ⟨h0,by omega,b0,b1⟩)) (ZU rfl)⟩;rwa[rhD,d1,d2,d3,d4,d5,dd,de,g6,fO hL]
  |succ e'=>
   have de:decide ((0:Int)<((e'+1:Nat):Int))=true:=XX (by omega);have es:((e'+1:Nat):Int)-1=(e':Int):=by omega
   have H':=H e' rfl;obtain⟨⟨u7,S7⟩,e7,ds7,hu7,ok7,pos7,c7,D7,F7⟩:=H' 3 pos' c' S5 lw lp (by decide) (by decide) F6.D (F6.ww hw) (F6.pp hp);dsimp only at hu7 D7;subst hu7;have fr7:∀s,(∀i,i<=e'->s≠.x 7 i)->pos7 s=pos' s/\c7 s=c' s:=F7;obtain⟨⟨u8,S8⟩,e8,ds8,hu8,ok8,pos8,c8,D8,F8⟩:=H' 3 pos7 c7 S7 lw lp (by decide) (by decide) D7 ((fr7 _ fun _ _=>by simp).1.trans (F6.ww hw)) ((fr7 _ fun _ _=>by simp).1.trans (F6.pp hp));dsimp only at hu8 D8;subst hu8;have fr8:∀s,(∀i,i<=e'->s≠.x 7 i)->pos8 s=pos' s/\c8 s=c' s:=fun s hs=>⟨(F8 s hs).1.trans (fr7 s hs).1,(F8 s hs).2.trans (fr7 s hs).2⟩;have own7:∀i,i<=e'->Pl.x 7 (e'+1)≠.x 7 i:=fun i hi z=>by injection z with _ z2;omega
   have G:Fo n w (e'+1) lw lp lf pos c S8 ds pos8 c8:=⟨D8,(fr8 _ own7).1.trans F6.pf,(fr8 _ own7).2.trans F6.cf,F6.ok,fun s hs=>by
    obtain⟨a1,a2⟩:=fr8 s fun i hi=>hs i (by omega);rw[a1,a2];exact F6.fr s hs⟩
   have G7:S7[lf]?=some (.lst ds):=by
    rw[D7.get ((fr7 _ own7).1.trans F6.pf) (by simp) (by simp),(fr7 _ own7).2,F6.cf]
   have g8:=G.get;refine .of (r:=(.nx,_,S8.set lf (.lst (ds++[.tup [.str "try",.tup ds7,.tup ds8]])))) ?_ ⟨.inl rfl,fin S8 pos8 c8 [_] (some (.tup ds7)) G (one (.tr ok7 ok8)) (ZU rfl)⟩;rwa[rhD,d1,d2,d3,d4,d5,dd,de,es,g6,e7,G7,e8,g8,fO hL]
 have d6:=XZ c6;obtain⟨v,S7,e7,F7,v0,v1,_⟩:=F6.sip (mm:=6) hw (by decide) (by decide);have g7:=F7.get;by_cases c7:v=0;have dd:=XX c7;refine .of (r:=(.nx,_,S7.set lf (.lst (ds++[.tup [.str "wait"]])))) ?_ ⟨.inl rfl,fin S7 pos' c' [_] r10 F7 (one (.pl (d:=.wait) trivial)) (ZU rfl)⟩;rwa[rhD,d1,d2,d3,d4,d5,d6,e7,dd,g7,fO hL];have dd:=XZ c7;obtain⟨v2,hv2⟩:∃v2,v2=(h+1) % 4:=⟨_,rfl⟩;have md:∀S:Sto,tX (.int (h+1)) (.int 4) S=some (.int v2,S):=fun S=>by rw[hv2];exact xt (by decide)
 have m0:0<=v2:=by omega
 have m1:v2<4:=by omega
 obtain⟨us,hus⟩:∃us:List U,us=[.tup [.str "look",.int v2,.int box],.tup [.str "leap",.int v2,.int 1],.tup [.str "wait"]]:=⟨_,rfl⟩;have F8:=F7.st (F7.D.app [.lst us]);have g8:=F8.get;have gu:(S7++[O.lst us])[S7.length]?=some (.lst us):=by rw[ga0];rfl
 have ex:kW (.ref lf) [.ref S7.length] (S7++[.lst us])=some (.non,(S7++[O.lst us]).set lf (.lst (ds++us))):=by
  simp only[kW,g8,gu];rw[X9 (by rw[hus];simp;unfold LIM;omega)]
 refine .of (r:=(.nx,_,(S7++[O.lst us]).set lf (.lst (ds++us)))) ?_ ⟨.inl rfl,fin _ pos' c' us r10 F8 (fun u hu=>?_) (by rw[hus];exact ZU rfl)⟩;rw[hus]at ex g8 ⊢;rwa[rhD,d1,d2,d3,d4,d5,d6,e7,dd,md,g7,g8,ex];rw[hus]at hu;rcases Qz.mp hu with rfl|hu;exact .pl (d:=.look v2 box) ⟨m0,m1,b0,b1⟩;rcases Qz.mp hu with rfl|hu;exact .pl (d:=.leap v2 1) ⟨m0,m1,by decide,by decide⟩;rw[Qu.mp hu];exact .pl (d:=.wait) trivial
def rM(fd:Fn):Fn:=fnU 11 5 (gN jR fd)
def rg{fd:Fn}(H:∀e',e=e'+1->xo n w e' fd)(n0:1<=n)(n1:n<=6)(w0:2<=w)(w1:w<=1000):xo n w e (rM fd):=by
 intro most pos c T lw lp m0 m1 D hw hp;unfold rM;rw[LR];unfold gN;rw[fY (ρ':=rhD lw lp T.length n w most e [none,none,none,none,none]) (S':=T++[.lst []]) (by rwa[rhD])];have F0:Fo n w e lw lp T.length pos c (T++[.lst []]) [] (eD pos (.x 7 e) T.length) (aE c (.x 7 e) (.lst [])):=⟨D.new (by simp) (by simp) _,cX,aJ,(fun u h=>nomatch h),fun s hs=>⟨aK (hs e (Q7 _)),aq (hs e (Q7 _))⟩⟩;obtain⟨d,S1,e1,F1,d0,d1,_⟩:=F0.sip (mm:=most+1) hw (by omega) (by omega);have hi:bS (ag (cCB jR (ag (ah 0) (ag (cOp iM (ah 2) (cC (.int 1))) ay))) ay) (rhD lw lp T.length n w most e [none,none,none,none,none]) (T++[.lst []])=some ((QF d.toNat).map fun i:Nat=>U.int (i:Int),fun _=>True,S1):=by
  rw[kG (n:=d) (S1:=S1) (by rwa[rhD,e1]) d0 (by omega),pH]
 have lp1:Wp (oV (bS (ag (cCB jR (ag (ah 0) (ag (cOp iM (ah 2) (cC (.int 1))) ay))) ay)) (gNm 6) (dH jR fd) (rhD lw lp T.length n w most e [none,none,none,none,none]) (T++[.lst []])) fun s=>s.1=.nx/\∃r ds pos' c',s.2.1=rhD lw lp T.length n w most e r/\Fo n w e lw lp T.length pos c s.2.2 ds pos' c':=by
  refine Me hi (EC (fun xs ρ S=>∃r ds pos' c',ρ=rhD lw lp T.length n w most e r/\r.length=5/\Fo n w e lw lp T.length pos c S ds pos' c'/\ds.length+3*xs.length<=90) (fun ρ S h=>?_) (fun x xs ρ S h=>?_) _ _ _ ⟨_,[],_,_,rfl,rfl,F1,by rw[ZY];show 0+_<=90;omega⟩);obtain⟨r,ds,pos',c',rfl,_,F,_⟩:=h;exact⟨trivial,rfl,r,ds,pos',c',rfl,F⟩;obtain⟨r,ds,pos',c',rfl,hr,F,hl⟩:=h;match r,hr with
  |[r6,r7,r8,r9,r10],_=>
   rw[QK]at hl;refine⟨trivial,.of (r:=(rhD lw lp T.length n w most e [uI (x:Int),r7,r8,r9,r10],S)) rfl ?_⟩;refine(Eh (k:=(uI (x:Int))) (r7:=r7) (r8:=r8) (r9:=r9) (r10:=r10) (most:=most) H n0 n1 w0 w1 hw hp F (by omega)).mono fun s hs=>?_;obtain⟨h1,r2,ds2,pos2,c2,h2,h3,h4,h5⟩:=hs;rcases h1 with h1|h1;exact .inl ⟨h1,r2,ds2,pos2,c2,h2,h3,h4,by omega⟩;exact .inr ⟨h1,rfl,r2,ds2,pos2,c2,h2,h4⟩
 obtain⟨⟨ot,ρ2,S2⟩,e2,h1,r,ds,pos',c',h2,F2⟩:=lp1;dsimp only at h1 h2 F2;subst h1 h2;rw[fY e2];have g:=F2.get;refine .of (r:=(.tup ds,S2)) ?_ ⟨ds,rfl,F2.ok,pos',c',F2.D,F2.fr⟩;rwa[rhD,g]
end
def oy:Nat->Fn
 |0=>rM fun _ _=>none
 |j+1=>rM (oy j)
def wY{n w:Int}(n0:1<=n)(n1:n<=6)(w0:2<=w)(w1:w<=1000):∀(J e:Nat),e<=J->xo n w e (oy J)
 |0,0,_=>rg (fun e' z=>nomatch z) n0 n1 w0 w1
 |J+1,0,_=>rg (fun e' z=>nomatch z) n0 n1 w0 w1
 |J+1,e+1,h=>rg (fun e' z=>by cases z;exact wY n0 n1 w0 w1 J e (by omega)) n0 n1 w0 w1
def DU.mono{n w:Int}{e:Nat}{u:U}(h:DU n w e u):∀{e':Nat},e<=e'->DU n w e' u:=by
 induction h with
 |pl h=>intro e' _;exact .pl h
 |tr h1 h2 ih1 ih2=>
  intro e' he;obtain⟨f,rfl⟩:∃f,e'=f+1:=⟨e'-1,by omega⟩;exact .tr (fun u hu=>ih1 u hu (by omega)) (fun u hu=>ih2 u hu (by omega))
def Ws(pos:Pl->Option Nat)(c:Pl->O)(T:Sto):Prop:=∃z:Int,Mm pos (aE c (.x 9 0) (.lst [.int z])) T
def Ft(sD:Pl)(pos:Pl->Option Nat)(c:Pl->O)(pos':Pl->Option Nat)(c':Pl->O):Prop:=∀s,s≠sD->(∀f i,6<=f->f<=8->s≠.x f i)->pos' s=pos s/\c' s=c s
section
variable{sD:Pl}
def Ws.app(D:Ws pos c T)(X:Sto):Ws pos c (T++X):=let ⟨z,M⟩:=D;⟨z,M.app X⟩
def Ws.lt(D:Ws pos c T)(h:pos s=some l):l<T.length:=let ⟨_,M⟩:=D;M.lt h
def Ws.sip{mm:Int}(D:Ws pos c T)(hw:pos (.x 9 0)=some lw)(h0:0<mm)(h1:mm<2^60):∃d T',jR [.ref lw,.int mm] T=some (.int d,T')/\Ws pos c T'/\0<=d/\d<mm/\∀l,l≠lw->T'[l]?=T[l]?:=by
 obtain⟨z,M⟩:=D;obtain⟨d,z',e,M',d0,d1⟩:=NI M hw aJ h0 h1;rw[mM]at M';exact⟨d,_,e,⟨z',M'⟩,d0,d1,fun l hl=>Qt hl.symm⟩
def Ws.get(D:Ws pos c T)(hs:pos s=some l)(n9:s≠.x 9 0):T[l]?=some (c s):=by
 obtain⟨z,M⟩:=D;exact M.get hs (aq n9)
def Ws.set(D:Ws pos c T)(hs:pos s=some l)(n9:s≠.x 9 0)(o:O):Ws pos (aE c s o) (T.set l o):=by
 obtain⟨z,M⟩:=D;have M':=M.set hs o;rw[iQ n9.symm]at M';exact⟨z,M'⟩
def Ws.new(D:Ws pos c T)(n9:s≠.x 9 0)(o:O):Ws (eD pos s T.length) (aE c s o) (T++[o]):=by
 obtain⟨z,M⟩:=D;have M':=M.new s o [];rw[iQ n9.symm]at M';exact⟨z,M'⟩
def Ws.ds(D:Ws pos c T)(pu:Int):Ds (eD pos (.x 8 0) T.length) c (T++[.lst [.int pu]]):=by
 obtain⟨z,M⟩:=D;have M':=M.new (.x 8 0) (.lst [.int pu]) [];rw[iQ (by simp)]at M';exact⟨z,pu,M'⟩
def Ds.ws(D:Ds pos c T):∃o,Ws pos (aE c (.x 8 0) o) T:=let ⟨z,pu,M⟩:=D;⟨_,z,M⟩
def LW{α:Type}{ok:Sto->Prop}{ce:CE}{l:Nat}{f:α->U}{cs:Rho}(St:List U->Sto->Prop)(hok:∀ys S,St ys S->ok S)
  (he:∀x ys S,St ys S->Wp (ce (some (f x)::cs) S) fun r=>r.2[l]?=some (.lst ys)/\St (ys++[r.1]) (r.2.set l (.lst (ys++[r.1])))) :
  ∀(xs:List α) (ys:List U) (S:Sto) (r0:Option U),St ys S->ys.length+xs.length<=9000->Wp (ic ok (gNm 0) ce l (xs.map f) (r0::cs) S) fun S'=>∃ys',ys'.length=ys.length+xs.length/\St ys' S'
 |[],ys,S,r0,h,_=>.of (je (hok ys S h)) ⟨ys,rfl,h⟩
 |x::xs,ys,S,r0,h,hn=>by
  rw[QK]at hn;obtain⟨⟨v,S1⟩,e1,g1,h1⟩:=he x ys S h;dsimp only at g1 h1;obtain⟨S2,e2,ys',hl,h2⟩:=LW St hok he xs (ys++[v]) _ (some (f x)) h1 (by simp;omega);refine⟨S2,?_,ys',by rw[hl];simp;omega,h2⟩;rw[QU,ib (ρ0:=some (f x)::cs) (S0:=S) (S1:=S1) (x:=v) (ys:=ys) (hok ys S h) rfl e1 g1 (by unfold LIM;omega)];exact e2
def ED{α:Type}{ci:CI}{ok:Sto->Prop}{ce:CE}{f:α->U}{ρ cs:Rho}{S S1:Sto}{xs:List α}{caps:List Nat}{Q:U×Sto->Prop}(St:List U->Sto->Prop)(hi:ci ρ S=some (xs.map f,ok,S1))(hr:qj 1 caps ρ=none::cs)(hok:∀ys S,St ys S->ok S)
  (he:∀x ys S,St ys S->Wp (ce (some (f x)::cs) S) fun r=>r.2[S1.length]?=some (.lst ys)/\St (ys++[r.1]) (r.2.set S1.length (.lst (ys++[r.1]))))
  (h0:St [] (S1++[.lst []])) (hn:xs.length<=9000) (hQ:∀ys S',ys.length=xs.length->St ys S'->Q (.ref S1.length,S')):Wp (dG ci (gNm 0) ce 1 caps ρ S) Q:=by
 obtain⟨S2,e,ys,hl,h⟩:=LW (l:=S1.length) (cs:=cs) St hok he xs [] (S1++[.lst []]) none h0 (by rw[Zk];omega);refine⟨_,?_,hQ ys S2 (by rw[hl,Zk,Nat.zero_add]) h⟩;unfold dG;rw[hi,Q8,hr];dsimp only;rw[e];rfl
def uy(fd:Fn):Fn:=fnU 6 2 (jL jR fd)
structure SmO(n w:Int)(st:List Int)(dls:List (List U)):Prop where
 n0:1<=n
 n1:n<=3
 w0:2<=w
 w1:w<=1000
 st:st.length=n.toNat
 d0:2<=dls.length
 d1:dls.length<=5
 ok:∀d∈dls,∀u∈d,DU n w 3 u
def GC(W:Ws pos c T)(hw:pos (.x 9 0)=some lw)(hD:∀f i,6<=f->f<=9->sD≠.x f i):Wp (uy (oy 3) [.ref lw,.int 4] T) fun r=>∃n w st dls lo,r.1=.tup [.tup [.int n,.int w],.tup (st.map U.int),.ref lo]/\SmO n w st dls/\∃pos' c',Ws pos' c' r.2/\pos' sD=some lo/\c' sD=.lst (dls.map U.tup)/\Ft sD pos c pos' c':=by
 obtain⟨d1,T1,e1,W1,a0,a1,_⟩:=W.sip (mm:=3) hw (by decide) (by decide);obtain⟨n,hn⟩:∃n,n=1+d1:=⟨_,rfl⟩;obtain⟨d2,T2,e2,W2,b0,b1,k2⟩:=(W1.app [.lst [.int 2,.int 3,.int 5,.int 1000]]).sip (mm:=4) hw (by decide) (by decide);obtain⟨w,hw2,w0,w1⟩:∃w:Int,atI [U.int 2,U.int 3,U.int 5,U.int 1000] d2=uI w/\2<=w/\w<=1000:=by
  have:d2=0\/d2=1\/d2=2\/d2=3:=by omega
  rcases this with rfl|rfl|rfl|rfl;exact⟨2,at0,by decide,by decide⟩;exact⟨3,at1,by decide,by decide⟩;exact⟨5,at2,by decide,by decide⟩;exact⟨1000,at3,by decide,by decide⟩
 have gl:T2[T1.length]?=some (.lst [.int 2,.int 3,.int 5,.int 1000]):=by
  rw[k2 _ (Nat.ne_of_gt (W1.lt hw)),ga0];rfl
 unfold uy;rw[LN];unfold jL;rw[fY (ρ':=[uR lw,uI 4,uI n,none,none,none]) (S':=T1) (by rw[hn];rwa[e1])];rw[fY (ρ':=[uR lw,uI 4,uI n,some (.tup [.int n,.int w]),none,none]) (S':=T2) (by rwa[e2,gl,hw2])];have cst:Wp (dG (bS (ag (ah 2) ay)) (gNm 0) (cCB jR (ag (ah 1) (ag (cOp fIx (ah 2) (cC (.int 1))) ay))) 1 [0,3] [uR lw,uI 4,uI n,some (.tup [.int n,.int w]),none,none] T2) fun r=>∃st:List Int,st.length=n.toNat/\∃l,r.1=.ref l/\r.2[l]?=some (.lst (st.map U.int))/\∃pos' c',Ws pos' c' r.2/\Ft sD pos c pos' c':=by
  refine ED (cs:=[uR lw,some (.tup [.int n,.int w])]) (xs:=QF n.toNat) (f:=fun i:Nat=>U.int (i:Int)) (S1:=T2) (ok:=fun _=>True) (fun ys S=>∃(st:List Int) (pos':Pl->Option Nat) (c':Pl->O),ys=st.map U.int/\Ws pos' c' S/\pos' (.x 6 0)=some T2.length/\c' (.x 6 0)=.lst ys/\Ft sD pos c pos' c') ?_ rfl (fun _ _ _=>trivial) ?_ ?_ (by rw[ZY];omega) ?_;rw[kG (n:=n) (S1:=T2) (by rwa[]) (by omega) (by omega),pH];rintro x ys S ⟨st,pos',c',rfl,W',p6,c6,F⟩;have hw':pos' (.x 9 0)=some lw:=(F _ (fun z=>hD 9 0 (by omega) (by omega) z.symm) fun f i h1 h2 z=>by injection z with z1 z2;omega).1.trans hw;obtain⟨v,S',e,W2',v0,v1,k'⟩:=W'.sip (mm:=w) hw' (by omega) (by omega);have g6:S'[T2.length]?=some (.lst (st.map U.int)):=by rw[W2'.get p6 (by simp),c6]
  refine .of (r:=(.int v,S')) (by rwa[e]) ⟨g6,st++[v],pos',_,by rw[Zg];rfl,W2'.set p6 (by simp) _,p6,aJ,fun s h1 h2=>⟨(F s h1 h2).1,by rw[aq (h2 6 0 (by omega) (by omega))];exact(F s h1 h2).2⟩⟩;exact⟨[],eD pos (.x 6 0) T2.length,aE c (.x 6 0) (.lst []),rfl,W2.new (by simp) _,cX,aJ,fun s h1 h2=>⟨aK (h2 6 0 (by omega) (by omega)),aq (h2 6 0 (by omega) (by omega))⟩⟩;rintro ys S' hl ⟨st,pos',c',rfl,W',p6,c6,F⟩;rw[Q9,ZY]at hl;exact⟨st,hl,_,rfl,by rw[W'.get p6 (by simp),c6],pos',c',W',F⟩
 obtain⟨⟨u3,T3⟩,e3,st,hst,l3,rfl,g3,pos3,c3,W3,F3⟩:=cst;dsimp only at g3 W3;have hw3:pos3 (.x 9 0)=some lw:=(F3 _ (fun z=>hD 9 0 (by omega) (by omega) z.symm) fun f i h1 h2 z=>by injection z with z1 z2;omega).1.trans hw;obtain⟨us,hus⟩:∃us,us=st.map U.int:=⟨_,rfl⟩;rw[<-hus]at g3;rw[fY (ρ':=[uR lw,uI 4,uI n,some (.tup [.int n,.int w]),some (.tup us),none]) (S':=T3) (by rwa[e3,g3])];obtain⟨d4,T4,e4,W4,m0,m1,_⟩:=W3.sip (mm:=3) hw3 (by decide) (by decide);obtain⟨many,hmany⟩:∃many,many=2+d4:=⟨_,rfl⟩;have s3:(4:Int)-1=3:=by decide
 rw[fY (ρ':=[uR lw,uI 4,uI n,some (.tup [.int n,.int w]),some (.tup us),uI many]) (S':=T4) (by rw[hmany];rwa[e4,s3])];have cdl:Wp (dG (bS (ag (ah 5) ay)) (gNm 0) (cCB (oy 3) (ag (ah 1) (ag (ah 2) (ag (cC (.int 4)) (ag (cOp fIx (mH (ag (cC (.int 2)) (ag (cC (.int 2)) (ag (cC (.int 3)) ay)))) (cCB jR (ag (ah 1) (ag (cC (.int 3)) ay)))) (ag (mH (ag (cC (.int 12)) ay)) ay)))))) 1 [0,3] [uR lw,uI 4,uI n,some (.tup [.int n,.int w]),some (.tup us),uI many] T4) fun r=>∃dls:List (List U),dls.length=many.toNat/\(∀d∈dls,∀u∈d,DU n w 3 u)/\∃l,r.1=.ref l/\∃pos' c',Ws pos' c' r.2/\pos' sD=some l/\c' sD=.lst (dls.map U.tup)/\Ft sD pos c pos' c':=by
  refine ED (cs:=[uR lw,some (.tup [.int n,.int w])]) (xs:=QF many.toNat) (f:=fun i:Nat=>U.int (i:Int)) (S1:=T4) (ok:=fun _=>True) (fun ys S=>∃(dls:List (List U)) (pos':Pl->Option Nat) (c':Pl->O),ys=dls.map U.tup/\(∀d∈dls,∀u∈d,DU n w 3 u)/\Ws pos' c' S/\pos' sD=some T4.length/\c' sD=.lst ys/\Ft sD pos c pos' c') ?_ rfl (fun _ _ _=>trivial) ?_ ?_ (by rw[ZY];omega) ?_;rw[kG (n:=many) (S1:=T4) (by rwa[]) (by omega) (by omega),pH];rintro x ys S ⟨dls,pos',c',rfl,ok,W',pD,cD,F⟩;have hw':pos' (.x 9 0)=some lw:=(F _ (fun z=>hD 9 0 (by omega) (by omega) z.symm) fun f i h1 h2 z=>by injection z with z1 z2;omega).1.trans hw;obtain⟨g,S2,f2,W2',g0,g1,k2'⟩:=(W'.app [.lst [.int 2,.int 2,.int 3]]).sip (mm:=3) hw' (by decide) (by decide);obtain⟨e,he,he3⟩:∃e:Nat,atI [U.int 2,U.int 2,U.int 3] g=uI (e:Int)/\e<=3:=by
   have:g=0\/g=1\/g=2:=by omega
   rcases this with rfl|rfl|rfl;exact⟨2,at0,by decide⟩;exact⟨2,at1,by decide⟩;exact⟨3,at2,by decide⟩
  have gl2:S2[S.length]?=some (.lst [.int 2,.int 2,.int 3]):=by
   rw[k2' _ (Nat.ne_of_gt (W'.lt hw')),ga0];rfl
  have n98:Pl.x 9 0≠.x 8 0:=by simp
  obtain⟨⟨u5,S5⟩,f5,ds,hu5,ok5,pos5,c5,D5,F5⟩:=wY (n:=n) (w:=w) (by omega) (by omega) w0 w1 3 e he3 4 _ c' _ lw S2.length (by decide) (by decide) (W2'.ds 12) ((aK n98).trans hw') cX;dsimp only at hu5 D5;subst hu5;obtain⟨o8,W5⟩:=D5.ws;have fr5:∀s,(∀f i,6<=f->f<=8->s≠.x f i)->pos5 s=pos' s/\c5 s=c' s:=fun s hs=>by
   obtain⟨q1,q2⟩:=F5 s fun i _=>hs 7 i (by omega) (by omega);exact⟨q1.trans (aK (hs 8 0 (by omega) (by omega))),q2⟩
  have hDs:∀f i,6<=f->f<=8->sD≠.x f i:=fun f i h1 h2=>hD f i h1 (by omega);have pD5:pos5 sD=some T4.length:=(fr5 sD hDs).1.trans pD;have n9:sD≠.x 9 0:=hD 9 0 (by omega) (by omega);have g5:S5[T4.length]?=some (.lst (dls.map U.tup)):=by
   rw[W5.get pD5 n9,aq (hDs 8 0 (by omega) (by omega)),(fr5 sD hDs).2,cD]
  refine .of (r:=(.tup ds,S5)) (by rwa[f2,gl2,he,f5]) ⟨g5,dls++[ds],pos5,_,by rw[Zg];rfl,fun d hd u hu=>?_,W5.set pD5 n9 _,pD5,aJ,fun s h1 h2=>?_⟩;rcases Z6.mp hd with h|h;exact ok d h u hu;rw[Qu.mp h]at hu;exact DU.mono (ok5 u hu) he3;obtain⟨q1,q2⟩:=fr5 s h2;obtain⟨q3,q4⟩:=F s h1 h2;exact⟨q1.trans q3,by rw[aq h1,aq (h2 8 0 (by omega) (by omega)),q2,q4]⟩;have n9:sD≠.x 9 0:=hD 9 0 (by omega) (by omega);exact⟨[],eD pos3 sD T4.length,aE c3 sD (.lst []),rfl,(fun d hd=>nomatch hd),W4.new n9 _,cX,aJ,fun s h1 h2=>⟨(aK h1).trans (F3 s h1 h2).1,(aq h1).trans (F3 s h1 h2).2⟩⟩;rintro ys S' hl ⟨dls,pos',c',rfl,ok,W',pD,cD,F⟩;rw[Q9,ZY]at hl;exact⟨dls,hl,ok,_,rfl,pos',c',W',pD,cD,F⟩
 obtain⟨⟨u5,T5⟩,e5,dls,hdl,okd,lo,rfl,pos5,c5,W5,pD,cD,F5⟩:=cdl;dsimp only at W5;refine IC (.of (r:=(.tup [.tup [.int n,.int w],.tup us,.ref lo],T5)) (by rwa[e5]) ⟨n,w,st,dls,lo,by rw[hus],⟨by omega,by omega,w0,w1,hst,by omega,by omega,okd⟩,pos5,c5,W5,pD,cD,F5⟩)
end
end OL
namespace OQ
open PySem PySem.Spec PyProof.Rows L2 OG OP
def EF(n w:Int):Tc->List Nat->List Str
 |_,[]=>[]
 |X,i::r=>(tGo n w X i).1::EF n w (tGo n w X i).2 r
section
variable{n w:Int}{X:Tc}{i:Nat}{y:Tyg}{a:Int}{D:Dc}{K:Kc}
def AM:(fP X i y).os.length=X.os.length/\(fP X i y).pa=X.pa:=by
 unfold fP;split;exact⟨Qs ..,rfl⟩;exact⟨Qs ..,rfl⟩
def lX:(jb X i).os.length=X.os.length/\(jb X i).pa=X.pa:=by unfold jb;split<;>exact⟨rfl,rfl⟩
def K4{X:Tc}:(tOn n w X i y D a).2.os.length=X.os.length/\(tOn n w X i y D a).2.pa=X.pa:=by
 unfold tOn;split;unfold jC;split;exact⟨rfl,rfl⟩;split;exact AM;split;exact⟨Qs ..,rfl⟩;exact⟨Qs ..,rfl⟩;split;unfold jT;split;exact⟨rfl,rfl⟩;split;exact⟨Qs ..,rfl⟩;exact AM;split;exact⟨Qs ..,rfl⟩;refine⟨?_,rfl⟩;show((X.os.set i _).set i _).length=_;rw[Qs,Qs]
def OH:(tGo n w X i).2.os.length=X.os.length/\(tGo n w X i).2.pa=X.pa:=by
 unfold tGo;split;unfold sh;split;exact⟨rfl,rfl⟩;split;exact⟨rfl,rfl⟩;split;exact lX;split;exact⟨K4.1.trans lX.1,K4.2.trans lX.2⟩;split;unfold mN;split;exact⟨(Qs ..).trans lX.1,lX.2⟩;exact lX;exact⟨(Qs ..).trans lX.1,lX.2⟩;exact⟨rfl,rfl⟩
def twL:List Str:=["","idle","asleep","held","begun","went","fell","slept","took","wrote","done"]
def JM:(jC n X i y D a).1∈twL:=by
 unfold jC;split
 (dsimp only;decide +kernel)
 ·split
  (dsimp only;decide +kernel)
  ·split<;>(dsimp only;decide +kernel)
def Qi:(tOn n w X i y D a).1∈twL:=by
 unfold tOn;split;exact JM
 ·split
  ·unfold jT;split
   (dsimp only;decide +kernel)
   ·split<;>(dsimp only;decide +kernel)
  ·split<;>(dsimp only;decide +kernel)
def Ql:(tGo n w X i).1∈twL:=by
 unfold tGo;split
 ·unfold sh;split
  (dsimp only;decide +kernel)
  ·split
   (dsimp only;decide +kernel)
   ·split
    (dsimp only;decide +kernel)
    ·split;exact Qi
     ·split
      ·unfold mN;split<;>(dsimp only;decide +kernel)
      (dsimp only;decide +kernel)
 (dsimp only;decide +kernel)
def yS:∀(is:List Nat) (X:Tc),∀s∈EF n w X is,s∈twL
 |[],X,s,h=>nomatch h
 |k::is,X,s,h=>by
  rcases Qz.mp h with rfl|h;exact Ql;exact yS is _ s h
def JK{s:Str}{S:Sto}{k:Nat}(h:s∈twL):Lay k S (.str s):=.str (by
 have:twL.all (fun w=>PyData.strOk w)=true:=by decide +kernel
 exact Ze.mp this s h)
def EvA(K:Kc):Prop:=∀x∈K.ev,EvL x
def EvA.call{k:Kl}(h:EvA K):EvA (HI K k).2:=Ia h
def EvA.puts(a:Int):∀(ps:List (Int×Int)) (K:Kc),EvA K->EvA (cm K a ps)
 |[],K,h=>h
 |e::ps,K,h=>EvA.puts a ps (va K a e.1 e.2) (EvA.call (k:=.pt a e.1 e.2) h)
def EvA.fall(h:EvA K):EvA (DM K a):=jV h (.two _ (by decide +kernel) _)
def E7:(fP X i y).K=X.K:=by unfold fP;split<;>rfl
def NL:(jb X i).K=X.K:=by unfold jb;split<;>rfl
def EvA.on{X:Tc}(h:EvA X.K):EvA (tOn n w X i y D a).2.K:=by
 unfold tOn;split
 ·unfold jC;have h2:EvA (bR (cm X.K a (ppL n ⟨D.hs,D.ps,[]⟩)) a).2:=EvA.call (k:=.tk a) (EvA.puts a _ _ h);split;exact h
  ·split;rw[E7];exact h2
   ·split<;>exact h2
 split;unfold jT;have h2:∀b,EvA (cV X.K a b).2:=fun b=>EvA.call (k:=.lk a b) h;split;exact h;split;exact h2 _;rw[E7];exact h2 _;split;exact h;exact h.fall
def EvA.go{X:Tc}(h:EvA X.K):EvA (tGo n w X i).2.K:=by
 have h1:EvA (jb X i).K:=by rw[NL];exact h
 unfold tGo;split
 ·unfold sh;split;exact h
  ·split;exact h
   ·split;exact h1
    ·split;exact h1.on
     ·split
      ·unfold mN;split<;>exact EvA.call (k:=.wr _) h1
      exact EvA.call (k:=.bg _) h1
 exact h
end
def Lay.bl{b:Bool}{S:Sto}{k:Nat}:Lay k S (.bl b):=⟨_,.bl b,rfl,ZC _⟩
def Lay.non{S:Sto}{k:Nat}:Lay k S .non:=⟨_,.non,rfl,ZC _⟩
end OQ
namespace OL
open PySem PySem.Spec PyProof.Rows L2 OG OP OQ
def BS(X:Tc)(i:Nat):U:=match X.os[i]? with
 |some y=>.tup [.int y.fa,xG y]
 |none=>.non
def Hj{X:Tc}{i:Nat}{y:Tyg}(h:X.os[i]?=some y):BS X i=.tup [.int y.fa,xG y]:=by unfold BS;rw[h]
def Dh{X:Tc}{i:Nat}{S:Sto}:Lay 2 S (BS X i):=by
 unfold BS;split;rename_i y _;refine .tup fun u hu=>?_;simp only[Qz,Zp,or_false]at hu;rcases hu with rfl|rfl;exact .int;unfold xG;split;exact .ints;exact .non;exact .non
section
variable{z:Cz}{zO:O}{j m r l0:Nat}{n w:Int}{pos:Pl->Option Nat}{c:Pl->O}{T:Sto}{X:Tc}{p t o:Nat->Nat}{q:Int->Nat->Nat}{lr:Nat}{ld:Nat->Nat}
def gH(z:Cz)(zO:O):Fn:=fnU 3 2 (kZ (mI z) (mJ z) (rA z) (BC z) (rB z zO) (BD z) z.T)
def IP(X:Tc)(l1 l2 l3:Nat):U:=.tup [.ref l1,.ref l2,.tup (X.K.bx.map U.int),.ref l3,.bl (vZ X)]
structure uD(X:Tc)(l1 l2 l3:Nat)(S:Sto):Prop where
 a:S[l1]?=some (.lst X.K.ev)
 b:S[l2]?=some (.lst ((lA X).map U.int))
 c:S[l3]?=some (.lst ((QF X.os.length).map (BS X)))
def uD.app{l1 l2 l3:Nat}{S:Sto}(h:uD X l1 l2 l3 S)(Y:Sto):uD X l1 l2 l3 (S++Y):=⟨aC h.a,aC h.b,aC h.c⟩
def Ah{many:Int}(M:Mm pos c T)(R:Tr z j n w pos c X p q t o lr ld)(I:Ti n w X m r)(hz:T[l0]?=some zO)(hm:m<64)(hmany:many=X.os.length)(hl:X.os.length<=900):∃G l1 l2 l3,gH z zO [.ref (t 0),.int many] T=some (IP X l1 l2 l3,T++G)/\uD X l1 l2 l3 (T++G):=by
 have t0:=M.get R.pT R.cT;unfold tO' at t0;have cc:Wp (dG (bS (ag (ah 1) ay)) (gNm 0) (iN (ag (aM z.T (mJ z) (ah 1) (ag (ah 0) ay)) (ag (aM z.T (mI z) (ah 1) (ag (ah 0) ay)) ay))) 1 [0] [uR (t 0),uI many,none] T) fun s=>s.1=.ref T.length/\∃G,s.2=T++(.lst ((QF X.os.length).map (BS X))::G):=by
  refine Gs (cs:=[uR (t 0)]) (xs:=QF X.os.length) (f:=fun i:Nat=>U.int (i:Int)) (v:=BS X) (S1:=T) (ok:=fun _=>True) ?_ (fun _=>trivial) (by rw[ZY];omega) rfl (fun i hi G=>?_) fun G=>⟨rfl,G,rfl⟩;rw[kG (n:=many) (S1:=T) (by rwa[]) (by omega) (by omega),pH,hmany,Int.toNat_natCast];obtain⟨y,hy⟩:∃y,X.os[i]?=some y:=⟨_,QQ (ZN.mp hi)⟩;have M1:=M.app G;have s0:=aC (r:=G) t0;have e1:=zg M1 R hy;have e2:=zf M1 R hy (I.ys i _ hy).sg;rw[Hj hy];generalize T++G=S at s0 e1 e2;exact .of (r:=(.tup [.int y.fa,xG y],S)) (by rwa[s0,e1,e2]) ⟨rfl,[],(Z8 _).symm⟩
 obtain⟨⟨u1,T1⟩,e1,rfl,G1,hT1⟩:=cc;dsimp only at hT1;have M1:=M.app (.lst ((QF X.os.length).map (BS X))::G1);rw[<-hT1]at M1;have s1:=M1.get R.pT R.cT;unfold tO' at s1;have e2:=Gw M1 R;have M2:=M1.app [.lst X.K.ev];have g3:T1[T.length]?=some (.lst ((QF X.os.length).map (BS X))):=by rw[hT1,ga0];rfl
 have g2:(T1++[O.lst X.K.ev])[T1.length]?=some (.lst X.K.ev):=by rw[ga0];rfl
 have hz2:(T1++[O.lst X.K.ev])[l0]?=some zO:=aC (by rw[hT1];exact aC hz);obtain⟨G3,l2,e3,g4,_⟩:=ze M2 R hz2 (by have:=I.il;omega) hl fun i y h=>(I.ys i y h).sg;have s2:=aC (r:=[O.lst X.K.ev]) s1;obtain⟨T2,hT2⟩:∃T2,T2=T1++[O.lst X.K.ev]:=⟨_,rfl⟩;rw[<-hT2]at e2 M2 g2 e3 g4 s2;have M3:=M2.app G3;have s3:=aC (r:=G3) s2;obtain⟨T3,hT3⟩:∃T3,T3=T2++G3:=⟨_,rfl⟩;rw[<-hT3]at e3 M3 g4 s3;have e4:=Gv M3 R;obtain⟨G5,e5⟩:=zd M3 R I.k (fun i y h hs=>by
  have Y:=I.ys i y h;cases Y.sg with
  |out h=>rw[h]at hs;exact absurd hs EX
  |go h=>rw[h]at hs;exact absurd hs K9
  |tk h=>rw[h]at hs;exact absurd hs K8
  |sl h ea=>exact⟨_,ea,Y.at_ _ ea⟩
  |dn h=>rw[h]at hs;exact absurd hs.symm uW) hl
 refine⟨(.lst ((QF X.os.length).map (BS X))::G1)++([O.lst X.K.ev]++(G3++G5)),T1.length,l2,T.length,?_,?_⟩;rw[<-Qw,<-hT1,<-Qw,<-hT2,<-Qw,<-hT3];unfold gH IP;rw[oe];unfold kZ;rwa[e1,s1,e2,s2,e3,s3,e4,e5];rw[<-Qw,<-hT1,<-Qw,<-hT2,<-Qw,<-hT3];exact⟨aC (by rw[hT3];exact aC g2),aC g4,aC (by rw[hT3];exact aC (by rw[hT2];exact aC g3))⟩
def LZ{l1 l2 l3 k1 k2 k3:Nat}{S:Sto}(h:uD X l1 l2 l3 S)(k:uD X k1 k2 k3 S)(ev:EvA X.K):tZ true (IP X l1 l2 l3) (IP X k1 k2 k3) S=some (.bl false,S):=by
 have il:∀{ns:List Int},∀u∈ns.map U.int,Lay 2 S u:=fun u hu=>by
  obtain⟨i,_,rfl⟩:=ZV.mp hu;exact .int
 have a:=jk.lst h.a k.a (zq fun u hu=>((ev u hu).lay S).mono (by decide:1<=2));have b:=jk.lst h.b k.b (zq (d:=2) (S:=S) il);have c:=jk.lst h.c k.c (zq fun u hu=>by
  obtain⟨i,_,rfl⟩:=ZV.mp hu;exact Dh)
 have d:=jk.tup (fX.all (k:=2) (S:=S) (us:=X.K.bx.map U.int) il);exact(jk.tup (.cons a (.cons b (.cons d (.cons c (.cons (.refl .bl) .nil)))))).ne (by decide)
end
end OL
namespace OQ
open PySem PySem.Spec PyProof.Rows L2 OG OP
def Tc.pt(X:Tc)(p:Option Int):Tc:={ X with pa:=p }
structure Lt(X:Tc)(m:Nat):Prop where
 pa:X.pa=none
 rw:X.rw=[]
 fl:∀(i:Nat) (y:Tyg),X.os[i]?=some y->0<=y.fl/\2*y.fl+(if y.sg="in" then 1 else 0)<=m
section
variable{X:Tc}{i m:Nat}{y:Tyg}{n w a b:Int}{D:Dc}{K:Kc}{p:Int}
def v8(h:y.fl+1≠p)(e:X.pa=none):fP (X.pt (some p)) i y=(fP X i y).pt (some p):=by
 unfold fP;rw[XQ (by show ¬some p=_;rintro⟨⟩;exact h rfl),XQ (by rw[e];simp)];rfl
def Co(h:y.fl+1≠p)(e:X.pa=none):jT (X.pt (some p)) i y D a b=((jT X i y D a b).1,(jT X i y D a b).2.pt (some p)):=by
 unfold jT;show(if (isF X i&&brd X.K a [b])=true then _ else _)=_;split;rfl;rcases qC X.K a b with q|⟨v,q⟩;show(match (cV X.K a b).1 with|.tup [.str _,.int v]=>_|_=>_)=_;rw[q];exact Prod.ext rfl (v8 (X:={ X with K:=(cV X.K a b).2 }) h e);show(match (cV X.K a b).1 with|.tup [.str _,.int v]=>_|_=>_)=_;rw[q];rfl
def Cm(h:y.fl+1≠p)(e:X.pa=none):jC n (X.pt (some p)) i y D a=((jC n X i y D a).1,(jC n X i y D a).2.pt (some p)):=by
 unfold jC;show(if (!decide (ppL n ⟨D.hs,D.ps,[]⟩=[])&&ID X i a ((ppL n ⟨D.hs,D.ps,[]⟩).map (·.1)))=true then _ else if (bR (cm X.K a (ppL n ⟨D.hs,D.ps,[]⟩)) a).1="falls" then _ else if (bR (cm X.K a (ppL n ⟨D.hs,D.ps,[]⟩)) a).1="done" then _ else _)=_;split;rfl
 ·split;exact Prod.ext rfl (v8 (X:={ X with K:=(bR (cm X.K a (ppL n ⟨D.hs,D.ps,[]⟩)) a).2 }) h e)
  ·split<;>rfl
def JP(h:y.fl+1≠p)(e:X.pa=none):tOn n w (X.pt (some p)) i y D a=((tOn n w X i y D a).1,(tOn n w X i y D a).2.pt (some p)):=by
 unfold tOn;cases gM D with
 |none=>exact Cm h e
 |some u=>
  dsimp only;split;exact Co h e
  ·split<;>rfl
def uM(h:X.pa≠some 0):jb X i=X:=XQ fun q=>h q.1
def Gx(h:y.fl+1≠p)(e:X.pa=none)(p0:p≠0):sh n w (X.pt (some p)) i y=((sh n w X i y).1,(sh n w X i y).2.pt (some p)):=by
 unfold sh;rw[uM (X:=X.pt (some p)) (by show some p≠some 0;rintro⟨⟩;exact p0 rfl),uM (X:=X) (by rw[e];simp)];show(if y.sg="done" then _ else if slp X y=true then _ else if (decide ((i:Int)∈X.rw)&&!isF X i)=true then _ else _)=_;split;rfl
 ·split;rfl
  ·split;rfl
   ·split;exact JP h e
    ·split
     ·show(if (bJ X.K (y.att.getD 0)).1="done" then _ else _)=_;unfold mN;split<;>rfl
     rfl
def JS(L:Lt X m)(hm:(m:Int)<2*p-2)(p0:p≠0):tGo n w (X.pt (some p)) i=((tGo n w X i).1,(tGo n w X i).2.pt (some p)):=by
 unfold tGo;show(match X.os[i]? with|some y=>_|none=>_)=_;cases h:X.os[i]? with
 |none=>rfl
 |some y=>
  have:=L.fl i y h;exact Gx (by split at this<;>omega) L.pa p0
def Lt.mono(L:Lt X m):Lt X (m+1):=⟨L.pa,L.rw,fun k x hx=>by have:=L.fl k x hx;push_cast;omega⟩
def Lt.set(L:Lt X m)(h:0<=y.fl/\2*y.fl+(if y.sg="in" then 1 else 0)<=((m+1:Nat):Int))(K:Kc)(be:Int):Lt ⟨K,X.pa,be,X.rw,X.os.set i y⟩ (m+1):=by
 refine⟨L.pa,L.rw,fun k x hx=>?_⟩
 replace hx:(X.os.set i y)[k]?=some x:=hx
 rw[ZR]at hx;split at hx;split at hx;cases hx;exact h;cases hx;exact L.mono.fl k x hx
def se(h:X.rw=[]):sf X i=X:=by
 unfold sf;obtain⟨K,pa,be,rw_,os⟩:=X;cases h;rfl
def Lt.fell(L:Lt X m)(hy:X.os[i]?=some y)(hs:y.sg="in")(K:Kc):Lt (fP { X with K:=K } i y) (m+1):=by
 unfold fP;rw[XQ (by show ¬X.pa=_;rw[L.pa];simp)];refine L.set (y:=oz y) ?_ K X.be;have:=L.fl i y hy;rw[X9 hs]at this;refine⟨by show 0<=y.fl+1;omega,?_⟩;show 2*(y.fl+1)+(if ("out":Str)="in" then 1 else 0)<=_;rw[XQ (by decide)];push_cast;omega
def Lt.done(L:Lt X m)(hy:X.os[i]?=some y)(K:Kc):Lt (xH { X with K:=K } i y) (m+1):=by
 unfold xH;rw[se (by exact L.rw)];refine L.set (y:={ y with sg:="done" }) ?_ K X.be;have:=L.fl i y hy;refine⟨this.1,?_⟩;show 2*y.fl+(if ("done":Str)="in" then 1 else 0)<=_;rw[XQ (by decide)];split at this<;>push_cast<;>omega
def Lt.go(L:Lt X m):Lt (tGo n w X i).2 (m+1):=by
 unfold tGo;cases hy:X.os[i]? with
 |none=>exact L.mono
 |some y=>
  have f:=L.fl i y hy;show Lt (sh n w X i y).2 (m+1);unfold sh;rw[uM (X:=X) (by rw[L.pa];simp)];split;exact L.mono
  ·split;exact L.mono
   ·split;exact L.mono
    ·split;rename_i hs;rw[X9 hs]at f;have g:∀(D:Option Dc),Lt (X.set i { y with d:=D }) (m+1):=fun D=>L.set (y:={ y with d:=D }) (by show 0<=y.fl/\2*y.fl+(if y.sg="in" then 1 else 0)<=_;rw[X9 hs];push_cast;omega) X.K X.be;unfold tOn;cases gM (y.d.getD d00)with
     |none=>
      show Lt (jC ..).2 _;unfold jC;split;exact L.mono;split;exact L.fell hy hs _;split;exact L.done hy _;exact L.set (y:={ y with sg:="taken" }) (by show 0<=y.fl/\2*y.fl+(if ("taken":Str)="in" then 1 else 0)<=_;rw[XQ (by decide)];push_cast;omega) _ X.be
     |some u=>
      dsimp only;split;unfold jT;split;exact L.mono;rcases qC X.K (y.att.getD 0) (lkB u)with q|⟨v,q⟩;rw[q];exact L.fell hy hs _;rw[q];exact L.set (y:={ y with d:=_ }) (by show 0<=y.fl/\2*y.fl+(if y.sg="in" then 1 else 0)<=_;rw[X9 hs];push_cast;omega) _ X.be;split;exact g _;unfold vY;rw[se (by exact L.rw)];show Lt ⟨_,X.pa,X.be,X.rw,(X.os.set i _).set i _⟩ _;rw[ZL];refine L.set ?_ _ X.be;show 0<=(0:Int)/\2*(0:Int)+(0:Int)<=((m+1:Nat):Int);exact⟨by omega,by push_cast;omega⟩
     ·split;unfold mN;split;exact L.done hy _;exact⟨L.pa,L.rw,L.mono.fl⟩
      ·have f2:0<=y.fl/\2*y.fl<=m:=by split at f<;>omega
       exact L.set (y:={ y with att:=some X.be,d:=some (mq y.dl),sg:="in" }) (by show 0<=y.fl/\2*y.fl+(1:Int)<=((m+1:Nat):Int);push_cast;omega) _ _
end
end OQ
namespace OL
open PySem PySem.Spec PyProof.Rows L2 OG OP OQ
def Fq{α:Type}{ok:Sto->Prop}{ce:CE}{l:Nat}{f:α->U}{cs:Rho}(St:List α->List U->Sto->Prop)(hok:∀xs ys S,St xs ys S->ok S)
  (he:∀x xs ys S,St (x::xs) ys S->Wp (ce (some (f x)::cs) S) fun r=>r.2[l]?=some (.lst ys)/\St xs (ys++[r.1]) (r.2.set l (.lst (ys++[r.1])))) :
  ∀(xs:List α) (ys:List U) (S:Sto) (r0:Option U),St xs ys S->ys.length+xs.length<=9000->Wp (ic ok (gNm 0) ce l (xs.map f) (r0::cs) S) fun S'=>∃ys',St [] ys' S'
 |[],ys,S,r0,h,_=>.of (je (hok [] ys S h)) ⟨ys,h⟩
 |x::xs,ys,S,r0,h,hn=>by
  rw[QK]at hn;obtain⟨⟨v,S1⟩,e1,g1,h1⟩:=he x xs ys S h;dsimp only at g1 h1;obtain⟨S2,e2,ys',h2⟩:=Fq St hok he xs (ys++[v]) _ (some (f x)) h1 (by simp;omega);refine⟨S2,?_,ys',h2⟩;rw[QU,ib (ρ0:=some (f x)::cs) (S0:=S) (S1:=S1) (x:=v) (ys:=ys) (hok _ ys S h) rfl e1 g1 (by unfold LIM;omega)];exact e2
def JG{α:Type}{ci:CI}{ok:Sto->Prop}{ce:CE}{f:α->U}{ρ cs:Rho}{S S1:Sto}{xs:List α}{caps:List Nat}{Q:U×Sto->Prop}(St:List α->List U->Sto->Prop)(hi:ci ρ S=some (xs.map f,ok,S1))(hr:qj 1 caps ρ=none::cs)(hok:∀xs ys S,St xs ys S->ok S)
  (he:∀x xs ys S,St (x::xs) ys S->Wp (ce (some (f x)::cs) S) fun r=>r.2[S1.length]?=some (.lst ys)/\St xs (ys++[r.1]) (r.2.set S1.length (.lst (ys++[r.1]))))
  (h0:St xs [] (S1++[.lst []])) (hn:xs.length<=9000) (hQ:∀ys S',St [] ys S'->Q (.ref S1.length,S')):Wp (dG ci (gNm 0) ce 1 caps ρ S) Q:=by
 obtain⟨S2,e,ys,h⟩:=Fq (l:=S1.length) (cs:=cs) St hok he xs [] (S1++[.lst []]) none h0 (by rw[Zk];omega);refine⟨_,?_,hQ ys S2 h⟩;unfold dG;rw[hi,Q8,hr];dsimp only;rw[e];rfl
variable{j:Nat}{s:Pl}
def iV{f i:Nat}(hf:f<20)(h:ym j s):s≠.x f i:=fun e=>by
 subst e;rcases h with h|⟨f',i',_,h⟩;exact h;unfold tp at h;injection h with h1 h2;omega
def gJ{f i:Nat}(hf:f<20):¬ym j (.x f i):=fun h=>iV hf h rfl
def mE{j':Nat}(hj:j≠j')(h:ym j s):¬ym j' s:=fun h'=>by
 rcases h with h|⟨f,i,hf,rfl⟩;rcases h' with h'|⟨f',i',_,rfl⟩;cases s with
 |k a b=>exact hj (h.symm.trans h')
 |a a b c=>exact hj (h.symm.trans h')
 |x a b=>exact h
 exact h;rcases h' with h'|⟨f',i',hf',e⟩;exact h';unfold tp at e;injection e with e1 e2;omega
structure F5 where
 lw:Nat
 l7:Nat
 n:Int
 w:Int
 p:Nat->Nat->Nat
 t:Nat->Nat->Nat
 o:Nat->Nat->Nat
def xJ(X:Tc)(j:Nat):Tc:=if j=1 then X.pt (some 20)else X
structure A5(zO:O)(F:F5)(pos:Pl->Option Nat)(c:Pl->O):Prop where
 z0:pos (.x 0 0)=some 0
 cz:c (.x 0 0)=zO
 p9:pos (.x 9 0)=some F.lw
 c9:∃z:Int,c (.x 9 0)=.lst [.int z]
 p2:pos (.x 2 0)=some F.l7
 c2:c (.x 2 0)=.lst ((QF 3).map fun j=>U.ref (F.t j 0))
def T5(z:Cz)(F:F5)(pos:Pl->Option Nat)(c:Pl->O)(Y:Nat->Tc):Prop:=∀j,j<3->∃q lr ld,Tr z j F.n F.w pos c (Y j) (F.p j) q (F.t j) (F.o j) lr ld
structure S5(F:F5)(X:Tc)(m:Nat):Prop where
 I:Ti F.n F.w X m (2*m)
 L:Lt X m
 n0:1<=F.n
 n1:F.n<=6
 w0:2<=F.w
variable{z:Cz}{zO:O}{F:F5}{m i:Nat}{pos pos':Pl->Option Nat}{c c':Pl->O}{T:Sto}{X:Tc}
section
variable{Y:Nat->Tc}
def A5.fr(h:A5 zO F pos c)(k:∀f i,f<=2\/f=9->pos' (.x f i)=pos (.x f i)/\c' (.x f i)=c (.x f i)):A5 zO F pos' c':=by
 have k9:=k 9 0 (.inr rfl);have k0:=k 0 0 (.inl (by decide));have k2:=k 2 0 (.inl (by decide));exact⟨k0.1.trans h.z0,k0.2.trans h.cz,k9.1.trans h.p9,let ⟨z,e⟩:=h.c9;⟨z,k9.2.trans e⟩,k2.1.trans h.p2,k2.2.trans h.c2⟩
def T5.fr(h:T5 z F pos c Y)(k:∀j s,ym j s->pos' s=pos s/\c' s=c s):T5 z F pos' c' Y:=fun j hj=>by
 obtain⟨q,lr,ld,R⟩:=h j hj;exact⟨q,lr,ld,R.keep fun s hs=>k j s hs⟩
def NC{r:Nat}(I:Ti F.n F.w X m r)(j:Nat):Ti F.n F.w (xJ X j) m r:=by
 unfold xJ;split;exact⟨I.k,I.b,I.tk,I.il,I.be,I.ids,I.ys,I.inj,I.rw,I.rl⟩;exact I
def yz(j:Nat):(xJ X j).os=X.os:=by unfold xJ;split<;>rfl
def ND(L:Lt X m)(hm:m<38)(j:Nat):tGo F.n F.w (xJ X j) i=((tGo F.n F.w X i).1,xJ (tGo F.n F.w X i).2 j):=by
 unfold xJ;split;exact JS L (by omega) (by decide);rfl
def S5.go(S:S5 F X m)(hi:i<X.os.length):S5 F (tGo F.n F.w X i).2 (m+1):=by
 have hy:X.os[i]?=some X.os[i]:=QQ hi;have eg:tGo F.n F.w X i=sh F.n F.w X i X.os[i]:=by unfold tGo;rw[hy]
 exact⟨by rw[eg];exact S.I.go hy S.n0 S.n1 S.w0,S.L.go,S.n0,S.n1,S.w0⟩
def JF{ρ:Rho}(hz:CzO z)(M:Mm pos c T)(A:A5 zO F pos c)(B:T5 z F pos c (xJ X))(S:S5 F X m)(hm:m<38)(hi:i<X.os.length)(h7:ρ[7]?=some (uR F.l7))(h9:qj 1 [9] ρ=[none,uI (i:Int)]) :
  Wp (dG (iTp (ah 7)) (gNm 0) (aM z.T (L1 z) (ah 0) (ag (ah 1) ay)) 1 [9] ρ T) fun r=>∃pos' c',r.1=.ref T.length/\r.2[T.length]?=some (.lst (QX 3 (.str (tGo F.n F.w X i).1)))/\Mm pos' c' r.2/\A5 zO F pos' c'/\T5 z F pos' c' (xJ (tGo F.n F.w X i).2):=by
 have g7:=M.get A.p2 A.c2;refine JG (cs:=[uI (i:Int)]) (xs:=QF 3) (f:=fun j:Nat=>U.ref (F.t j 0)) (S1:=T) (ok:=fun S=>S[F.l7]?=some (.lst ((QF 3).map fun j=>U.ref (F.t j 0)))) (fun xs ys S=>∃(d:Nat) (pos':Pl->Option Nat) (c':Pl->O),d<=3/\xs=(QF 3).drop d/\ys=QX d (.str (tGo F.n F.w X i).1)/\Mm pos' c' S/\A5 zO F pos' c'/\T5 z F pos' c' (fun j=>xJ (if j<d then(tGo F.n F.w X i).2 else X) j)/\pos' (.x 6 0)=some T.length/\c' (.x 6 0)=.lst ys) (tD (l:=F.l7) (by unfold ah;rw[h7]) g7) h9 ?_ ?_ ?_ (by decide) ?_;rintro xs ys S' ⟨d,pos',c',_,_,_,M',A',_⟩;exact M'.get A'.p2 A'.c2;rintro j xs ys S' ⟨d,pos',c',dl,hd,hy,M',A',B',p6,c6⟩;obtain⟨hj,d3,hx⟩:j=d/\d<3/\xs=(QF 3).drop (d+1):=by
  match d,hd with
  |0,h=>cases h;exact⟨rfl,by decide,rfl⟩
  |1,h=>cases h;exact⟨rfl,by decide,rfl⟩
  |2,h=>cases h;exact⟨rfl,by decide,rfl⟩
  |d+3,h=>rw[List.drop_of_length_le (by rw[ZY];omega)]at h;cases h
 subst hj;obtain⟨q,lr,ld,R⟩:=B' j d3;dsimp only at R;rw[XQ (Zr _)]at R;have hy':(xJ X j).os[i]?=some X.os[i]:=by rw[yz];exact QQ hi
 have eg:tGo F.n F.w (xJ X j) i=sh F.n F.w (xJ X j) i X.os[i]:=by unfold tGo;rw[hy']
 obtain⟨⟨v4,T4⟩,e4,hv4,pos4,c4,q4,lr4,ld4,M4,R4,F4⟩:=OI (i:=i) hz M' R (NC S.I j) (by omega) (by omega) S.n0 S.n1 S.w0 hy';rw[<-eg,ND S.L hm j]at hv4 R4;dsimp only at hv4 M4 R4;subst hv4;have t4:=M'.get R.pT R.cT;unfold tO' at t4;have f6:=F4 (.x 6 0) (gJ (by decide));have p64:pos4 (.x 6 0)=some T.length:=f6.1.trans p6;have M5:=M4.set p64 (.lst (ys++[.str (tGo F.n F.w X i).1]));refine .of (r:=(.str (tGo F.n F.w X i).1,T4)) (by rwa[t4,e4]) ⟨M4.get p64 (f6.2.trans c6),j+1,pos4,_,d3,hx,by rw[hy,List.replicate_succ'],M5,A'.fr fun f k h=>?_,fun x x3=>?_,p64,aJ⟩;have:=F4 (.x f k) (gJ (by omega));exact⟨this.1,(aq (fun e=>by injection e with e1 e2;omega)).trans this.2⟩;by_cases e:x=j;subst e;refine⟨q4,lr4,ld4,?_⟩;dsimp only;rw[X9 (Nat.lt_succ_self _)];exact R4.keep fun s hs=>⟨rfl,aq (iV (by decide) hs)⟩;obtain⟨q,lr,ld,R⟩:=B' x x3;refine⟨q,lr,ld,?_⟩;dsimp only;have eq:(if x<j+1 then(tGo F.n F.w X i).2 else X)=(if x<j then(tGo F.n F.w X i).2 else X):=by
  by_cases l:x<j;rw[X9 l,X9 (by omega)];rw[XQ l,XQ (by omega)]
 rw[eq];exact R.keep fun s hs=>by
  have:=F4 s (mE e hs);exact⟨this.1,(aq (iV (by decide) hs)).trans this.2⟩
 have M2:=M.new (.x 6 0) (.lst []) [];exact⟨0,_,_,by decide,rfl,rfl,M2,A.fr fun f i h=>⟨aK (fun e=>by injection e with e1 e2;omega),aq (fun e=>by injection e with e1 e2;omega)⟩,T5.fr (Y:=fun j=>xJ (if j<0 then(tGo F.n F.w X i).2 else X) j) (fun j hj=>by dsimp only;rw[XQ (Nat.not_lt_zero _)];exact B j hj) fun j s hs=>⟨aK (iV (by decide) hs),aq (iV (by decide) hs)⟩,cX,aJ⟩;rintro ys S' ⟨d,pos',c',dl,hd,hy,M',A',B',p6,c6⟩;have d3:d=3:=by
  have:=congrArg List.length hd;rw[List.length_drop,ZY,Zk]at this;omega
 subst d3;exact⟨pos',c',rfl,by rw[M'.get p6 c6,hy],M',A',fun j hj=>by
  obtain⟨q,lr,ld,R⟩:=B' j hj;dsimp only at R;rw[X9 hj]at R;exact⟨q,lr,ld,R⟩⟩
end
def f5(z:Cz)(zO:O)(g:Fn->Fn->Fn->Fn->Fn->Fn->Cl->CS):CS:=g ux (uy (oy 3)) jR (gH z zO) (L1 z) (gT z) z.T
def rh5(ns:List Int)(F:F5)(k many:Int)(r3 r4 r5 r8 r9 r10:Option U):Rho:=[some (.kl ns),uI k,uR F.lw,r3,r4,r5,uI many,uR F.l7,r8,r9,r10]
def Jx{l1 l2 l3:Nat}(j:Nat):IP (xJ X j) l1 l2 l3=IP X l1 l2 l3:=by unfold xJ;split<;>rfl
def Ff{p:Option Int}:∀k,dnK (X.pt p) k=dnK X k
 |0=>rfl
 |k+1=>by
  unfold dnK;rw[Ff k];rfl
def Jw{l1 l2 l3:Nat}{S:Sto}(j:Nat)(h:uD (xJ X j) l1 l2 l3 S):uD X l1 l2 l3 S:=by
 unfold xJ at h;split at h;exact⟨h.a,by have:=h.b;unfold lA at this ⊢;rw[Ff]at this;exact this,h.c⟩;exact h
def PM{a b:Nat}{many:Int}{ρ:Rho}(M:Mm pos c T)(A:A5 zO F pos c)(B:T5 z F pos c (xJ X))(S:S5 F X m)(hm:m<64)(ev:EvA X.K)(ha:a<3)(hb:b<3)(hl:X.os.length<=900)(hmany:many=X.os.length)(h7:ρ[7]?=some (uR F.l7))(h6:ρ[6]?=some (uI many)) :
  ∃G,cOp (tZ true) (cCB (gH z zO) (ag (cOp fIx (ah 7) (cC (.int (a:Int)))) (ag (ah 6) ay))) (cCB (gH z zO) (ag (cOp fIx (ah 7) (cC (.int (b:Int)))) (ag (ah 6) ay))) ρ T=some (.bl false,T++G):=by
 have g7:=M.get A.p2 A.c2;obtain⟨q,lr,ld,R⟩:=B a ha;obtain⟨G3,l31,l32,l33,e3,A3⟩:=Ah (many:=many) M R (NC S.I a) (M.get A.z0 A.cz) hm (by rw[yz];exact hmany) (by rw[yz];exact hl);have M3:=M.app G3;have g73:=M3.get A.p2 A.c2;obtain⟨q,lr,ld,R⟩:=B b hb;obtain⟨G4,l41,l42,l43,e4,A4⟩:=Ah (many:=many) M3 R (NC S.I b) (M3.get A.z0 A.cz) hm (by rw[yz];exact hmany) (by rw[yz];exact hl);rw[Jx]at e3 e4;have ea:=LZ ((Jw a A3).app G4) (Jw b A4) ev;have at_:∀x:Nat,x<3->atI ((QF 3).map fun j=>U.ref (F.t j 0)) (x:Int)=some (.ref (F.t x 0)):=fun x hx=>by
  match x,hx with
  |0,_=>exact at0
  |1,_=>exact at1
  |2,_=>exact at2
 have aa:=at_ a ha;have ab:=at_ b hb;have v7:∀S,ah 7 ρ S=some (.ref F.l7,S):=fun S=>by unfold ah;rw[h7]
 have v6:∀S,ah 6 ρ S=some (.int many,S):=fun S=>by unfold ah;rw[h6]
 obtain⟨us,hus⟩:∃us,us=(QF 3).map fun j=>U.ref (F.t j 0):=⟨_,rfl⟩;rw[<-hus]at g7 g73 aa ab;obtain⟨T3,hT3⟩:∃T3,T3=T++G3:=⟨_,rfl⟩;rw[<-hT3]at e3 e4 g73 ea;obtain⟨T4,hT4⟩:∃T4,T4=T3++G4:=⟨_,rfl⟩;rw[<-hT4]at e4 ea;refine⟨G3++G4,?_⟩;rw[<-Qw,<-hT3,<-hT4];rwa[v7,v6,g7,aa,e3,g73,ab,e4,ea]
def Qa{S:Sto}{l:Nat}{a:U}{us:List U}(h:S[l]?=some (.lst (a::us))):fSl (.ref l) none (some 1) S=some (.ref S.length,S++[.lst [a]]):=by
 have e:HT.sIx (a::us).length (a::us).length (some ((1:Nat):Int))=min 1 (a::us).length:=by rw[HT.sIx_nat]
 simp only[fSl,h,Fp,HT.sIx_none];rw[show(1:Int)=((1:Nat):Int)from rfl,e,List.drop_zero,Nat.sub_zero,Nat.min_eq_left (by rw[QK];omega)];rfl
def Qj{S:Sto}{l:Nat}{a:U}(h:S[l]?=some (.lst [a])):n6 (.ref l) (.int 3) S=some (.ref S.length,S++[.lst (QX 3 a)]):=by
 simp only[n6,h];rfl
def ne5{S:Sto}{l k n:Nat}{w:Str}(hw:w∈twL)(h:S[l]?=some (.lst (QX n (.str w))))(k':S[k]?=some (.lst (QX n (.str w)))):tZ true (.ref l) (.ref k) S=some (.bl false,S):=
 (jk.lst h k' (zq (d:=1) fun u hu=>by rw[List.eq_of_mem_replicate hu];exact JK hw)).ne (by decide)
def NG{ns:List Int}{k many:Int}{r3 r4 r5 r8 r9 r10:Option U}(hz:CzO z)(M:Mm pos c T)(A:A5 zO F pos c)(B:T5 z F pos c (xJ X))(S:S5 F X m)(hm:m<38)(ev:EvA X.K)(hl:X.os.length<=900)(h0:0<X.os.length)(hmany:many=X.os.length) :
  Wp (f5 z zO rp (rh5 ns F k many r3 r4 r5 r8 r9 r10) T) fun s=>s.1=.nx/\∃r9' r10' pos' c' X',s.2.1=rh5 ns F k many r3 r4 r5 r8 r9' r10'/\Mm pos' c' s.2.2/\A5 zO F pos' c'/\T5 z F pos' c' (xJ X')/\S5 F X' (m+1)/\EvA X'.K/\X'.os.length=X.os.length:=by
 obtain⟨zz,e9⟩:=A.c9;obtain⟨d,z',e1,M1,d0,d1⟩:=NI (m:=many) M A.p9 e9 (by omega) (by omega);obtain⟨i,hi⟩:∃i:Nat,d=(i:Int):=⟨d.toNat,by omega⟩;subst hi;have li:i<X.os.length:=by omega
 have A1:A5 zO F pos (aE c (.x 9 0) (.lst [.int z'])):=⟨A.z0,(aq (by simp)).trans A.cz,A.p9,⟨z',aJ⟩,A.p2,(aq (by simp)).trans A.c2⟩;have B1:T5 z F pos (aE c (.x 9 0) (.lst [.int z'])) (xJ X):=B.fr fun j s hs=>⟨rfl,aq (iV (by decide) hs)⟩;obtain⟨T1,hT1⟩:∃T1,T1=T.set F.lw (.lst [.int z']):=⟨_,rfl⟩;rw[<-hT1]at e1 M1;obtain⟨⟨u2,T2⟩,e2,pos2,c2,rfl,g2,M2,A2,B2⟩:=JF (ρ:=rh5 ns F k many r3 r4 r5 r8 (uI (i:Int)) r10) hz M1 A1 B1 S hm li rfl rfl;dsimp only at g2 M2;have S2:=S.go li;have hw:(tGo F.n F.w X i).1∈twL:=yS [i] X _ QN;obtain⟨wd,hwd⟩:∃wd,wd=(tGo F.n F.w X i).1:=⟨_,rfl⟩;rw[<-hwd]at g2 hw;have sl:=Qa (a:=.str wd) (us:=[.str wd,.str wd]) g2;have mu:=Qj (S:=T2++[.lst [.str wd]]) (l:=T2.length) (a:=.str wd) (by rw[ga0];rfl);have l3:(T2++[O.lst [U.str wd]]).length=T2.length+1:=by rw[QH];rfl
 have ne:=ne5 (S:=T2++[.lst [.str wd]]++[.lst (QX 3 (.str wd))]) (l:=T1.length) (k:=T2.length+1) hw (aC (aC g2)) (by rw[<-l3,ga0];rfl);rw[l3]at mu;have M3:=(M2.app [.lst [.str wd]]).app [.lst (QX 3 (.str wd))];obtain⟨T3,hT3⟩:∃T3,T3=T2++[O.lst [.str wd]]++[.lst (QX 3 (.str wd))]:=⟨_,rfl⟩;rw[<-hT3]at mu ne M3;have lo:=(OH (n:=F.n) (w:=F.w) (X:=X) (i:=i)).1;obtain⟨G,ea⟩:=PM (a:=1) (b:=0) (ρ:=rh5 ns F k many r3 r4 r5 r8 (uI (i:Int)) (uR T1.length)) M3 A2 B2 S2 (by omega) ev.go (by decide) (by decide) (by rw[lo];exact hl) (by rw[lo];exact hmany) rfl rfl;refine .of (r:=(.nx,rh5 ns F k many r3 r4 r5 r8 (uI (i:Int)) (uR T1.length),T3++G)) ?_ ⟨rfl,_,_,pos2,c2,_,rfl,M3.app G,A2,B2,S2,ev.go,lo⟩;have hp:∀(ρ:Rho) (S:Sto),ug (some (cC (.int 1))) ρ S=some (some 1,S):=fun _ _=>rfl;have hn:∀(ρ:Rho) (S:Sto),ug none ρ S=some (none,S):=fun _ _=>rfl;unfold f5 rp;rw[fY (ρ':=rh5 ns F k many r3 r4 r5 r8 (uI (i:Int)) r10) (S':=T1) (by rwa[rh5,e1])];rw[fY (ρ':=rh5 ns F k many r3 r4 r5 r8 (uI (i:Int)) (uR T1.length)) (S':=T2) (by rwa[e2];rfl)];have v10:∀S,ah 10 (rh5 ns F k many r3 r4 r5 r8 (uI (i:Int)) (uR T1.length)) S=some (.ref T1.length,S):=fun S=>rfl
 replace ea:cOp (tZ true) (cCB (gH z zO) (ag (cOp fIx (ah 7) (cC (.int 1))) (ag (ah 6) ay))) (cCB (gH z zO) (ag (cOp fIx (ah 7) (cC (.int 0))) (ag (ah 6) ay))) (rh5 ns F k many r3 r4 r5 r8 (uI (i:Int)) (uR T1.length)) T3=some (.bl false,T3++G):=ea
 generalize cOp (tZ true) (cCB (gH z zO) (ag (cOp fIx (ah 7) (cC (.int 1))) (ag (ah 6) ay))) (cCB (gH z zO) (ag (cOp fIx (ah 7) (cC (.int 0))) (ag (ah 6) ay)))=ce at ea ⊢;rwa[v10,cSl,hp,hn,sl,mu,ne,ea]
section
variable{ns:List Int}
def Bg(zO:O)(S:Sto):Prop:=∃pos c,Mm pos c S/\pos (.x 0 0)=some 0/\c (.x 0 0)=zO
def pk{α:Type}(a b d:α)(j:Nat):α:=if j=0 then a else if j=1 then b else d
def Ld{st:List Int}{dls:List (List U)}:Lt (Mh st none dls) 0:=by
 refine⟨rfl,rfl,fun i y h=>?_⟩
 replace h:(dls.map rP)[i]?=some y:=h
 rw[QL]at h;obtain⟨d,_,rfl⟩:=Zz.mp h;exact⟨Zi 0,Zi 0⟩
def Ol{k:Int}{a2 a3 a4 a5 a6 a7 a8 a9 a10:Option U}{T:Sto}(hz:CzO z)(B:Bg zO T)(k0:0<=k) :
  ∃F many r3 r4 r5 pos c T' X,Mm pos c T'/\A5 zO F pos c/\T5 z F pos c (xJ X)/\S5 F X 0/\EvA X.K/\X.os.length<=900/\0<X.os.length/\many=(X.os.length:Int)/\∀g:CS,(aV (dF 2 (cCB ux (ag (ah 0) (ag (ah 1) ay))))
  (aV (LY (cCB (uy (oy 3)) (ag (ah 2) (ag (cC (.int 4)) ay))) (gTp [3,4,5]))
  (aV (dF 6 (cCB jI (ag (ah 5) ay)))
  (aV (dF 7 (mH (ag (cCB (tY z.T (gT z)) (ag (ah 3) (ag (ah 4) (ag (ah 5) ay)))) (ag (cCB (fU z.T (gT z)) (ag (ah 3) (ag (ah 4) (ag (ah 5) (ag (cC (.int 20)) ay))))) (ag (cCB (fU z.T (gT z)) (ag (ah 3) (ag (ah 4) (ag (ah 5) (ag (cC .non) ay))))) ay))))) g)))) [some (.kl ns),uI k,a2,a3,a4,a5,a6,a7,a8,a9,a10] T=g (rh5 ns F k many r3 r4 r5 a8 a9 a10) T':=by
 obtain⟨pos,c,M,p0,c0⟩:=B;obtain⟨z1,ew⟩:=Gq (S:=T) ns k0;have W1:Ws (eD pos (.x 9 0) T.length) c (T++[.lst [.int z1]]):=⟨z1,M.new (.x 9 0) (.lst [.int z1]) []⟩;have h9:eD pos (.x 9 0) T.length (.x 9 0)=some T.length:=cX;obtain⟨⟨u2,T2⟩,e2,n,w,st,dls,lo,hu2,K,pos2,c2,⟨z2,M2⟩,pD,cD,F2⟩:=GC (sD:=.x 1 0) W1 h9 (fun f i h1 h2 z=>by injection z with z1 z2;omega);dsimp only at hu2 M2;subst hu2;have fr2:∀f i,f<6\/f=9->(f≠1\/i≠0)->pos2 (.x f i)=eD pos (.x 9 0) T.length (.x f i)/\c2 (.x f i)=c (.x f i):=fun f i hf hi=>F2 _ (fun z=>by injection z with z1 z2;omega) (fun f' i' h1 h2 z=>by injection z with z1 z2;omega);have sl:st.length<=900:=by rw[K.st];have:=K.n1;omega
 have dl:dls.length<=900:=by have:=K.d1;omega
 have cD2:aE c2 (.x 9 0) (.lst [.int z2]) (.x 1 0)=.lst (dls.map U.tup):=(aq (by simp)).trans cD;obtain⟨⟨u3,T3⟩,e3,pos3,c3,p3,q3,t3,o3,lr3,ld3,hu3,M3,R3,F3⟩:=uL (j:=0) (n:=n) (w:=w) (st:=st) (pa:=none) (dls:=dls) (sd:=.x 1 0) hz M2 pD cD2 (gJ (by decide)) sl dl;dsimp only at hu3 M3;subst hu3;have f3:=F3 (.x 1 0) (gJ (by decide));obtain⟨⟨u4,T4⟩,e4,pos4,c4,p4,q4,t4,o4,lr4,ld4,hu4,M4,R4,F4⟩:=uL (j:=1) (n:=n) (w:=w) (st:=st) (pa:=some 20) (dls:=dls) (sd:=.x 1 0) hz M3 (f3.1.trans pD) (f3.2.trans cD2) (gJ (by decide)) sl dl;dsimp only at hu4 M4;subst hu4;have f4:=F4 (.x 1 0) (gJ (by decide));obtain⟨⟨u5,T5'⟩,e5,pos5,c5,p5,q5,t5,o5,lr5,ld5,hu5,M5,R5,F5'⟩:=uL (j:=2) (n:=n) (w:=w) (st:=st) (pa:=none) (dls:=dls) (sd:=.x 1 0) hz M4 (f4.1.trans (f3.1.trans pD)) (f4.2.trans (f3.2.trans cD2)) (gJ (by decide)) sl dl;dsimp only at hu5 M5;subst hu5;have M6:=M5.new (.x 2 0) (.lst [.ref (t3 0),.ref (t4 0),.ref (t5 0)]) [];have fr:∀f i,f<20->pos5 (.x f i)=pos2 (.x f i)/\c5 (.x f i)=aE c2 (.x 9 0) (.lst [.int z2]) (.x f i):=fun f i hf=>by
  have a:=F3 (.x f i) (gJ hf);have b:=F4 (.x f i) (gJ hf);have d:=F5' (.x f i) (gJ hf);exact⟨d.1.trans (b.1.trans a.1),d.2.trans (b.2.trans a.2)⟩
 have ln:jI [.ref lo] T2=some (.int (dls.length:Int),T2):=by simp only[jI,M2.get pD cD2,Q9]
 have q0:=fr 0 0 (by decide);have q9:=fr 9 0 (by decide);have s0:=fr2 0 0 (.inl (by decide)) (.inl (by decide));have s9:=fr2 9 0 (.inr rfl) (.inl (by decide));refine⟨⟨T.length,T5'.length,n,w,pk p3 p4 p5,pk t3 t4 t5,pk o3 o4 o5⟩,(dls.length:Int),some (.tup [.int n,.int w]),some (.tup (st.map U.int)),uR lo,_,_,T5'++[.lst [.ref (t3 0),.ref (t4 0),.ref (t5 0)]],Mh st none dls,M6,?_,?_,?_,(fun x hx=>nomatch hx),?_,?_,?_,fun g=>?_⟩;exact⟨(aK (by simp)).trans (q0.1.trans (s0.1.trans ((aK (by simp)).trans p0))),(aq (by simp)).trans (q0.2.trans ((aq (by simp)).trans (s0.2.trans c0))),(aK (by simp)).trans (q9.1.trans (s9.1.trans h9)),⟨z2,(aq (by simp)).trans (q9.2.trans aJ)⟩,cX,aJ⟩;have up:∀{j:Nat} {X:Tc} {p:Nat->Nat} {q:Int->Nat->Nat} {t o:Nat->Nat} {lr:Nat} {ld:Nat->Nat},Tr z j n w pos5 c5 X p q t o lr ld->Tr z j n w (eD pos5 (.x 2 0) T5'.length) (aE c5 (.x 2 0) (.lst [.ref (t3 0),.ref (t4 0),.ref (t5 0)])) X p q t o lr ld:=fun R=>R.keep fun s hs=>⟨aK (iV (by decide) hs),aq (iV (by decide) hs)⟩;intro j hj;match j,hj with
 | 0,_=>exact⟨q3,lr3,ld3,up (R3.keep fun s hs=>by
   have b:=F4 s (mE (by decide) hs);have d:=F5' s (mE (by decide) hs);exact⟨d.1.trans b.1,d.2.trans b.2⟩)⟩
 |1,_=>exact⟨q4,lr4,ld4,up (R4.keep fun s hs=>F5' s (mE (by decide) hs))⟩
 |2,_=>exact⟨q5,lr5,ld5,up R5⟩
 exact⟨JL (e:=3) K.st (by have:=K.n1;show n.toNat<64;omega) (by decide) K.ok,Ld,K.n0,by have:=K.n1;show n<=6;omega,K.w0⟩;show(dls.map rP).length<=900;rw[Q9];exact dl;show 0<(dls.map rP).length;rw[Q9];have:=K.d0;omega
 show(dls.length:Int)=((dls.map rP).length:Int);rw[Q9];obtain⟨ss,hss⟩:∃ss,ss=st.map U.int:=⟨_,rfl⟩;rw[<-hss]at e2 e3 e4 e5 ⊢;have e3':tY z.T (gT z) [.tup [.int n,.int w],.tup ss,.ref lo] T2=some (.ref (t3 0),T3):=e3
 replace e4:fU z.T (gT z) [.tup [.int n,.int w],.tup ss,.ref lo,.int 20] T3=some (.ref (t4 0),T4):=e4
 replace e5:fU z.T (gT z) [.tup [.int n,.int w],.tup ss,.ref lo,.non] T4=some (.ref (t5 0),T5'):=e5
 rw[fY (ρ':=[some (.kl ns),uI k,uR T.length,a3,a4,a5,a6,a7,a8,a9,a10]) (S':=T++[.lst [.int z1]]) (by rwa[ew])];rw[fY (ρ':=[some (.kl ns),uI k,uR T.length,some (.tup [.int n,.int w]),some (.tup ss),uR lo,a6,a7,a8,a9,a10]) (S':=T2) (by rwa[e2])];rw[fY (ρ':=[some (.kl ns),uI k,uR T.length,some (.tup [.int n,.int w]),some (.tup ss),uR lo,uI (dls.length:Int),a7,a8,a9,a10]) (S':=T2) (by rwa[ln])];rw[fY (ρ':=[some (.kl ns),uI k,uR T.length,some (.tup [.int n,.int w]),some (.tup ss),uR lo,uI (dls.length:Int),uR T5'.length,a8,a9,a10]) (S':=T5'++[.lst [.ref (t3 0),.ref (t4 0),.ref (t5 0)]]) (by rwa[e3',e4,e5])];rfl
def OV{k:Int}{a2 a3 a4 a5 a6 a7 a8 a9 a10:Option U}{T:Sto}(hz:CzO z)(B:Bg zO T)(k0:0<=k):Wp (f5 z zO rn [some (.kl ns),uI k,a2,a3,a4,a5,a6,a7,a8,a9,a10] T) fun s=>s.1=.nx/\(∃r:List (Option U),r.length=9/\s.2.1=some (.kl ns)::uI k::r)/\Bg zO s.2.2:=by
 obtain⟨F,many,r3,r4,r5,pos,c,T1,X,M,A,B1,S,ev,hl,h0,hm,e1⟩:=Ol (ns:=ns) (k:=k) (a2:=a2) (a3:=a3) (a4:=a4) (a5:=a5) (a6:=a6) (a7:=a7) (a8:=a8) (a9:=a9) (a10:=a10) hz B k0;unfold f5 rn;rw[e1];clear e1;have lp:Wp (oV (bS (ag (cC (.int 30)) ay)) (gNm 8) (f5 z zO rp) (rh5 ns F k many r3 r4 r5 a8 a9 a10) T1) fun s=>s.1=.nx/\∃r8 r9 r10 pos' c' X',s.2.1=rh5 ns F k many r3 r4 r5 r8 r9 r10/\Mm pos' c' s.2.2/\A5 zO F pos' c'/\T5 z F pos' c' (xJ X')/\S5 F X' 30/\EvA X'.K/\X'.os.length=X.os.length:=by
  have hi:bS (ag (cC (.int 30)) ay) (rh5 ns F k many r3 r4 r5 a8 a9 a10) T1=some ((QF 30).map fun i:Nat=>U.int (i:Int),fun _=>True,T1):=by
   rw[kG (n:=30) (S1:=T1) (by rwa[]) (by decide) (by decide),pH];rfl
  refine Me hi (Cg (fun xs ρ S'=>∃m r8 r9 r10 pos' c' X',m+xs.length=30/\ρ=rh5 ns F k many r3 r4 r5 r8 r9 r10/\Mm pos' c' S'/\A5 zO F pos' c'/\T5 z F pos' c' (xJ X')/\S5 F X' m/\EvA X'.K/\X'.os.length=X.os.length) (fun ρ S' h=>?_) (fun x xs ρ S' h=>?_) _ _ _ ⟨0,_,_,_,_,_,_,by rw[ZY],rfl,M,A,B1,S,ev,rfl⟩);obtain⟨m,r8,r9,r10,pos',c',X',hm',rfl,h⟩:=h;rw[Zk,Nat.add_zero]at hm';subst hm';exact⟨trivial,rfl,_,_,_,_,_,_,rfl,h⟩;obtain⟨m,r8,r9,r10,pos',c',X',hm',rfl,M',A',B',S5',ev',lo⟩:=h;rw[QK]at hm';refine⟨trivial,.of (r:=(rh5 ns F k many r3 r4 r5 (uI (x:Int)) r9 r10,S')) rfl ?_⟩;refine(NG (ns:=ns) (k:=k) (many:=many) (r3:=r3) (r4:=r4) (r5:=r5) (r8:=uI (x:Int)) (r9:=r9) (r10:=r10) hz M' A' B' S5' (by omega) ev' (by omega) (by omega) (by rw[lo];exact hm)).mono fun s hs=>?_;obtain⟨h1,r9',r10',pos2,c2,X2,h2,M2,A2,B2,S2,ev2,lo2⟩:=hs;exact .inl ⟨h1,m+1,_,_,_,pos2,c2,X2,by omega,h2,M2,A2,B2,S2,ev2,lo2.trans lo⟩
 obtain⟨⟨ot,ρ3,T3⟩,e3,h1,r8,r9,r10,pos3,c3,X3,h2,M3,A3,B3,S3,ev3,lo3⟩:=lp;dsimp only at h1 h2 M3;subst h1 h2;unfold f5 at e3;rw[fY e3];clear e3;obtain⟨G,ea⟩:=PM (a:=2) (b:=0) (ρ:=rh5 ns F k many r3 r4 r5 r8 r9 r10) M3 A3 B3 S3 (by decide) ev3 (by decide) (by decide) (by rw[lo3];exact hl) (by rw[lo3];exact hm) rfl rfl;refine .of (r:=(.nx,rh5 ns F k many r3 r4 r5 r8 r9 r10,T3++G)) ?_ ⟨rfl,⟨_,rfl,rfl⟩,pos3,c3,M3.app G,A3.z0,A3.cz⟩
 replace ea:cOp (tZ true) (cCB (gH z zO) (ag (cOp fIx (ah 7) (cC (.int 2))) (ag (ah 6) ay))) (cCB (gH z zO) (ag (cOp fIx (ah 7) (cC (.int 0))) (ag (ah 6) ay))) (rh5 ns F k many r3 r4 r5 r8 r9 r10) T3=some (.bl false,T3++G):=ea
 generalize cOp (tZ true) (cCB (gH z zO) (ag (cOp fIx (ah 7) (cC (.int 2))) (ag (ah 6) ay))) (cCB (gH z zO) (ag (cOp fIx (ah 7) (cC (.int 0))) (ag (ah 6) ay)))=ce at ea ⊢;rwa[ea]
def CW:Pl->Option Nat:=fun s=>if s=.x 0 0 then some 0 else none
def m0D:Mm CW (fun _=>zO) [zO]:=by
 refine⟨fun s p h=>?_,fun s s' p h h'=>?_⟩;unfold CW at h;split at h;cases h;rfl;cases h;unfold CW at h h';split at h;split at h';rename_i a b;rw[a,b];cases h';cases h
def bg0:Bg zO [zO]:=⟨CW,_,m0D,X9 rfl,rfl⟩
def Lg(hz:CzO z)(ns:List Int)(hl:ns.length<=63):∃ρ' S',Im ux (uy (oy 3)) jR (gH z zO) (L1 z) (gT z) z.T [some (.kl ns),none,none,none,none,none,none,none,none,none,none] [zO]=some (.rt (.bl true),ρ',S'):=by
 obtain⟨v,hv⟩:∃v,v=(if ((if ((ns.length:Nat):Int)<3 then((ns.length:Nat):Int)else 3):Int)>2 then(if ((ns.length:Nat):Int)<3 then((ns.length:Nat):Int)else 3)else 2):=⟨_,rfl⟩;have v0:0<=v/\v<=3:=by rw[hv];split<;>split<;>omega
 have a1:ag (cCB IK (ag (cC (.int 2)) (ag (cCB IJ (ag (cC (.int 3)) (ag (cCB jI (ag (ah 0) ay)) ay))) ay))) ay [some (.kl ns),none,none,none,none,none,none,none,none,none,none] [zO]=some ([.int v],[zO]):=by
  have h1:∀i j:Int,IJ [.int i,.int j] [zO]=some (.int (if j<i then j else i),[zO]):=fun i j=>rfl;have h2:∀i j:Int,IK [.int i,.int j] [zO]=some (.int (if j>i then j else i),[zO]):=fun i j=>rfl;have h3:jI [.kl ns] [zO]=some (.int ((ns.length:Nat):Int),[zO]):=rfl;rw[hv];rwa[h1,h2,h3]
 have hi:bS (ag (cCB IK (ag (cC (.int 2)) (ag (cCB IJ (ag (cC (.int 3)) (ag (cCB jI (ag (ah 0) ay)) ay))) ay))) ay) [some (.kl ns),none,none,none,none,none,none,none,none,none,none] [zO]=some ((QF v.toNat).map fun i:Nat=>U.int (i:Int),fun _=>True,[zO]):=by
  rw[kG (n:=v) (S1:=[zO]) a1 v0.1 (by omega),pH]
 have b0:Bg zO [zO]:=bg0;have lp:Wp (oV (bS (ag (cCB IK (ag (cC (.int 2)) (ag (cCB IJ (ag (cC (.int 3)) (ag (cCB jI (ag (ah 0) ay)) ay))) ay))) ay)) (gNm 1) (f5 z zO rn) [some (.kl ns),none,none,none,none,none,none,none,none,none,none] [zO]) fun s=>s.1=.nx:=by
  refine Me hi (Cg (fun xs ρ S=>(∃r:List (Option U),r.length=10/\ρ=some (.kl ns)::r)/\Bg zO S) (fun ρ S h=>⟨trivial,rfl⟩) (fun x xs ρ S h=>?_) _ _ _ ⟨⟨_,rfl,rfl⟩,b0⟩);obtain⟨⟨r,hr,rfl⟩,B⟩:=h;match r,hr with
  |[a1,a2,a3,a4,a5,a6,a7,a8,a9,a10],_=>
   refine⟨trivial,.of (r:=([some (.kl ns),uI (x:Int),a2,a3,a4,a5,a6,a7,a8,a9,a10],S)) rfl ?_⟩;refine(OV (k:=(x:Int)) hz B (by omega)).mono fun s hs=>?_;obtain⟨h1,⟨r,hr,h2⟩,h3⟩:=hs;exact .inl ⟨h1,⟨_,by rw[QK,hr],h2⟩,h3⟩
 obtain⟨⟨o,ρ1,S1⟩,e,h1⟩:=lp;dsimp only at h1;subst h1;unfold f5 at e;unfold Im;rw[fY e];exact⟨_,_,rfl⟩
end
def Hx{P:Qx}{w:Z7}{K:Q1}{h:Heap}{mg:Str->Option Q2}{st:Z0}{k:Nat}{sp:Sp}{fa:Addr}(d:Mb K "law" st)(X:K.In h)(G:h.Ns mainGlobals mg)(hfa:mg "law"=some (.ref fa))(ok:∀fd,Fun K "law" "law" st fa fd->∀base:Heap,BP mg base->kC P w K mg base CX0 k fa fd ["script"] sp)
  (b:∀(kV doc pm:Q2) (an:Option Addr) (cdv ct v:Q2),bindArgs (PySem.W.fnOf "law" "law" (gK st) (bF st) (ax st) .none kV doc pm an cdv ct) ⟨[v],[]⟩=pure [(("script":Str),v)]:=by intros;rfl) :
  ∃fd:Zu,(∀(s:Q3) (v:Q2),BindsTo s fd ⟨[v],[]⟩ [("script",v)])/\∀base:Heap,K.In base->base.Ns mainGlobals mg->BP mg base->kC P w K mg base CX0 k fa fd ["script"] sp:=by
 obtain⟨f,a,fd,F⟩:=d;cases hfa.symm.trans (PySem.W.mg_of X G a);refine⟨fd,fun s v=>?_,fun base _ _ bm=>ok fd F base bm⟩;obtain⟨oc,od,kV,doc,pm,an,cdv,ct,osl,rfl,lk,hcd⟩:=F.ex;exact .of_eq (b kV doc pm an cdv ct v)
def L0{l:PySem.W.OpenLaw}{w:Z7}{K:Q1}{h:Heap}{mg:Str->Option Q2}{fa:Addr}(X:K.In h)(G:h.Ns mainGlobals mg)(hfa:mg "law"=some (.ref fa))
  {y125:Addr}
  {y129:Addr}
  {y135:Addr}
  {y130:Addr}
  {y134:Addr}
  (ds:Ma K [("with_at",sG),("onwards",sH),("_law_well",nG),("_law_sip",pE),("_law_dealing",jl),("_law_some",nH),("_law_all",pF),("law",GH)])
  (y110:BN K "Attempt" y125 ["glance","looked","puts","stamp","unwritten","is_open"] [("__init__","Attempt.__init__",jr),("instant","Attempt.instant",hX)])
  (y120:BN K "Keeper" y129 ["boxes","marks","holders","ticks","events","known"] [("__init__","Keeper.__init__",j5),("end","Keeper.end",lR),("found","Keeper.found",jo),("untaken","Keeper.untaken",iL),("is_barred","Keeper.is_barred",gq),("has_changed","Keeper.has_changed",fi),("would_fall","Keeper.would_fall",fQ),("look_anew","Keeper.look_anew",gn),("begin","Keeper.begin",jq),("look","Keeper.look",j4),("put","Keeper.put",lO),("take","Keeper.take",j3),("write","Keeper.write",jn),("fall","Keeper.fall",j6),("looked_into","Keeper.looked_into",fh),("log","Keeper.log",lQ),("order","Keeper.order",gI),("now","Keeper.now",lP)])
  (y127:BN K "Doing" y135 ["wheel","held","puts","part"] [("__init__","Doing.__init__",lS),("deed","Doing.deed",lV),("asks","Doing.asks",lW),("hold","Doing.hold",lT),("part_behind","Doing.part_behind",fR),("go_behind","Doing.go_behind",hU),("hear","Doing.hear",lU),("enter_try","Doing.enter_try",hV),("goes_back","Doing.goes_back",hR),("do_deed","Doing.do_deed",iT),("put_pairs","Doing.put_pairs",hJ)])
  (y121:BN K "Trying" y130 ["dealing","attempt","doing","stage","fallen","fallen_lately"] [("__init__","Trying.__init__",jW)])
  (y123:MtE K y134 "__init__" "Tries.__init__" iR)
  (y126:BN K "Tries" y134 ["world","keeper","patience","ones","begun","row"] [("is_first","Tries.is_first",iK),("sleeps","Tries.sleeps",jm),("leave_row","Tries.leave_row",gY),("go_in","Tries.go_in",j1),("go_asleep","Tries.go_asleep",g9),("go_falling","Tries.go_falling",gm),("go_done","Tries.go_done",iS),("go_looking","Tries.go_looking",gh),("may_not_take","Tries.may_not_take",fg),("go_taking","Tries.go_taking",gZ),("go_writing","Tries.go_writing",gb),("go_on","Tries.go_on",j0),("go","Tries.go",pG),("log","Tries.log",nJ),("order","Tries.order",jY),("now","Tries.now",nI),("falls","Tries.falls",j2),("hands","Tries.hands",jZ),("rests","Tries.rests",jX)])
  (zs:MD K PL)
  {cO pO:Addr} (cod:IB K y129 "order" cO pO) :
  ∃fd:Zu,(∀(s:Q3) (v:Q2),BindsTo s fd ⟨[v],[]⟩ [("script",v)])/\∀base:Heap,K.In base->base.Ns mainGlobals mg->BP mg base->kC l.prog w K mg base CX0 8 fa fd ["script"] (wb pO K):=by
 obtain⟨y118,y117,y102,y112,y59,y105,y113,y136,-⟩:=ds;obtain⟨y56,y20,-⟩:=y110.ms;have y124:=y110.tc;obtain⟨y73,y91,y51,y36,y14,y5,y7,y13,y58,y81,y94,y76,y49,y66,y0,y100,y55,y84,-⟩:=y120.ms;have y131:=y120.tc;obtain⟨y98,y97,y93,y86,y6,y22,y83,y23,y35,y46,y25,-⟩:=y127.ms;have y132:=y127.tc;obtain⟨y70,-⟩:=y121.ms;have y128:=y121.tc;obtain⟨y38,y48,y29,y80,y32,y16,y44,y17,y3,y26,y10,y77,y116,y107,y67,y106,y63,y69,y62,-⟩:=y126.ms;have y133:=y126.tc;have B:=zs.blt X G;refine Hx y136 X G hfa fun fd F_law base bm=>?_;have V:Vw ⟨l.prog,w,K,mg,base⟩ ⟨y134,_⟩ ⟨y130,_⟩ ⟨y135,_⟩ ⟨y129,_⟩ ⟨y125,_⟩:=⟨B,y133,y128,y132,y131,y124⟩;have y57:=oP V (k:=0) (y110.mkd y56 X G);have y24:=kR V (k:=0) (y20.mt);have y61:=qR V (k:=0) (y120.mkd y73 X G);have y90:=tM V (k:=0) (y91.mt);have y53:=oN V (k:=0) (y51.mt);have y39:=ml V (k:=1) (y36.mt) y53;have y19:=km V (k:=0) (y14.mt);have y2:=jj V (k:=0) (y5.mt);have y8:=jF V (k:=1) (y7.mt) y19 y2;have y11:=kj V (k:=0) (y13.mt);have y50:=oO V (k:=1) (y58.mt) y57;have y82:=qQ V (k:=2) (y81.mt) y39 y8 y90.up y11.up;have y96:=tJ V (k:=2) (y94.mt) y39;have y72:=qP V (k:=2) (y76.mt) y39 y90.up y19.up y2.up;have y60:=oK V (k:=1) (y49.mt) y53 y90;have y68:=qT V (k:=2) (y66.mt) y39 y90.up;have y4:=ji V (k:=0) (y0.mt);have y89:=tL V (k:=0) (y100.mt);have y54:=oM (P:=l.prog) (w:=w) (base:=base) (k:=1) (y55.mt) cod bm B y131 y124 y24;have y92:=tK V (k:=0) (y84.mt);have y122:=AH V (k:=0) (y118.df X G);have y119:=AI V (k:=0) (fuel:=100) (y117.df X G);have y101:=tR V (k:=0) (y97.mt);have y85:=tV V (k:=1) (y93.mt) y101;have y87:=tP V (k:=1) (y86.mt) y122;have y9:=jG V (k:=0) (y6.mt);have y34:=kN V (k:=1) (y22.mt) y119 y9;have y95:=tQ V (k:=2) (y83.mt) y87 y101.up y34;have y30:=kQ V (k:=1) (y23.mt) y119 y9;have y27:=kM V (k:=0) (y35.mt);have y41:=nZ V (k:=2) (y46.mt) (Has.mono y122 (by decide)) y101.up y27.up y30 y87 y34;have y28:=kL V (k:=0) (y25.mt);have y99:=tN V (k:=1) (y127.mkd y98 X G) y119;have y75:=qF V (k:=0) (y121.mkd y70 X G);have y88:=tH V (k:=1) (y126.mkE y123 X G (fun us hl _ _ _ _ _ _ _=>match us,hl with|[_,_,_,_,_],_=>⟨_,rfl,rfl⟩)) y61 y75;have N_Tries_init:=qJ V (k:=1) (y126.mkE y123 (ds:=[.none]) X G (fun us hl _ _ _ _ _ _ _=>match us,(show us.length=4 by simpa using hl)with|[_,_,_,_],_=>⟨_,rfl,rfl⟩)) y61 y75;have y37:=mj V (k:=0) (y38.mt);have y52:=oJ V (k:=1) (y48.mt) y2;have y33:=kH V (k:=0) (y29.mt);have y64:=qM V (k:=2) (y80.mt) y50 y99;have y21:=kK V (k:=3) (y32.mt) y68 y33.up;have y15:=ki V (k:=0) (y16.mt);have y40:=nY V (k:=1) (y44.mt) y33;have y12:=kh V (k:=3) (y17.mt) y101.up y37.up y19.up y82 y15.up y95;have y1:=jh V (k:=1) (y3.mt) y37 y19 y4;have y31:=kJ V (k:=3) (y26.mt) y28.up y1.up y96 y72 y15.up y40.up;have y18:=kg V (k:=2) (y10.mt) y60 y40;have y78:=qL V (k:=4) (y77.mt) y101.up y31 y85.up y12 y41.up y21;have y111:=xY V (k:=5) (y116.mt) y52.up y37.up y78 y18.up y64.up;have y103:=vk V (k:=1) (y107.mt) y89;have y65:=qH V (k:=5) (y67.mt) y54;have y104:=vj V (k:=1) (y106.mt) y92;have y79:=qO V (k:=0) (y63.mt);have y71:=qK V (k:=0) (y69.mt);have y74:=qG V (k:=2) (y62.mt) y52;have y108:=vh V (k:=0) (y102.df X G);have y114:=xW V (k:=0) (y112.df X G);have y45:yp l.prog w K mg base "_law_dealing" 2 ["well","world","most","deep","purse"] (oy 0):=eQ V (k:=1) (y59.df X G) y114 ((y59.df X G (ps:=["well","world","most","deep","purse"])).no);have y43:yp l.prog w K mg base "_law_dealing" 3 ["well","world","most","deep","purse"] (oy 1):=eQ V (k:=2) (y59.df X G) (Has.mono y114 (by decide)) y45;have y42:yp l.prog w K mg base "_law_dealing" 4 ["well","world","most","deep","purse"] (oy 2):=eQ V (k:=3) (y59.df X G) (Has.mono y114 (by decide)) y43;have y47:yp l.prog w K mg base "_law_dealing" 5 ["well","world","most","deep","purse"] (oy 3):=eQ V (k:=4) (y59.df X G) (Has.mono y114 (by decide)) y42;have y109:=vi V (k:=5) (y105.df X G) (Has.mono y114 (by decide)) y47;have y115:=xX V (k:=6) (y113.df X G) y71.up y79.up y74.up y104.up y65 y103.up;exact OF (P:=l.prog) (w:=w) (base:=base) (k:=6) F_law B y133 (Has.mono y108 (by decide)) (Has.mono y109 (by decide)) (Has.mono y114 (by decide)) y115 (y111.mono (by decide)) (y88.mono (by decide)) (N_Tries_init.mono (by decide)) fun ns hl=>Lg (z:=⟨⟨y129,_⟩,⟨y125,_⟩,⟨y135,_⟩,⟨y130,_⟩,⟨y134,_⟩⟩) ⟨rfl,rfl,rfl,rfl,rfl⟩ ns hl
def P6{l:PySem.W.OpenLaw}{q:Qx}{eG:List Str}{XP:(Str->Option Q2)->Heap->Prop}{YP:Z7->Heap->Prop}{d:DefRec}{K:Params->Q1}(p:Addr)(hn:l.most=some 63)(hdf:d.params.defaults=[])
  (hY:∀(w:Z7) (h:Heap),YP w h->(K w.params).In h/\h.get? p=some (PySem.W.tabObj #[])) (hK:∀w:Z7,(K w.params).lookup p=none) (hC:∀w:Z7,∃c,PySem.W.codeHdIn (K w.params) c p=true)
  (F:∀(w:Z7) (mg:Str->Option Q2) (fa:Addr) (h:Heap),(K w.params).In h->h.Ns mainGlobals mg->mg d.name=some (.ref fa)->
   ∃fd:Zu,(∀(s:Q3) (u:Q2),BindsTo s fd ⟨[u],[]⟩ [("script",u)])/\∀base:Heap,(K w.params).In base->base.Ns mainGlobals mg->BP mg base->kC l.prog w (K w.params) mg base CX0 8 fa fd ["script"] (wb p (K w.params))) :
  PySem.W.WalkO q eG XP YP l.row.toRowW d [] (fun f vs=>PySem.call f vs):=
 L2.Ce (n:=63) (k:=8) (x:="script") (p:=p) (sp:=fun w=>wb p (K w.params)) hn (by decide) hdf ⟨rfl,by decide,by decide,rfl⟩ hY hK hC F (fun _ _ a ns hl hO hS=>⟨a,ns,rfl,Lh hO hS,hl,hO.1,fun _=>rfl⟩)
end OL
namespace PySem.W.Fast
def tw5564187169016785942:=0
def tw3387201873080987496:=0
def tw9672914056559437106:=0
def tw16497462826808757868:=0
def tw16530678959051030490:=0
def tw13997900315799596841:=0
def tw1075904072678827104:=0
def tw6109802026559492322:=0
def tw4015924803702664686:=0
def tw911376074140397987:=0
def tw9230982017737818676:=0
def tw271475228268221531:=0
def tw15767162414802587559:=0
def tw14025316440384820249:=0
def tw8708035099821457200:=0
def tw18386463239334862869:=0
def tw3817118529207506541:=0
def tw9895895920746778972:=0
def tw6693940467299089834:=0
def tw4290801308080760854:=0
def tw3569802012952659160:=0
def tw6872187507309844336:=0
def tw8001678362701950698:=0
def tw14523298288232438616:=0
def tw7701061414194755716:=0
def tw1952888398146879797:=0
def tw3301768782351998086:=0
def tw4231437943084831951:=0
def tw11688192460955297620:=0
def tw10175962096581632981:=0
def tw14827563153446586029:=0
def tw11477068749579177141:=0
def tw17474306534373155698:=0
def tw14068176521245195672:=0
def tw4249304691223413576:=0
def tw5679368716057972302:=0
def tw6571686078603555345:=0
def tw3715090894793893044:=0
def tw21759869165490672:=0
def tw18127245033388635939:=0
def tw4827929206369620430:=0
def tw7014922484244985475:=0
def tw1870237383355331442:=0
def tw13479377973516364475:=0
def tw14531254217004799609:=0
def tw1390430670744572019:=0
def tw16439806225538691480:=0
def tw13931710172005783325:=0
def tw10703983325919041072:=0
def tw13898959069897718023:=0
def tw7021716532096303736:=0
def tw12812776563246657611:=0
def tw15769419528437814242:=0
def tw5947160720158854785:=0
def tw7673171664129724865:=0
def tw9458481190805107303:=0
def tw9653893078606434647:=0
def tw1679721730820326029:=0
def tw14633042440645378304:=0
def tw7714213287876807895:=0
def tw314652815899683983:=0
def tw2963321102027151064:=0
def tw7709150497853668536:=0
def tw18423417972098823103:=0
def tw4898858660188438444:=0
def tw6771326221818740143:=0
def tw5355514468000982020:=0
def tw4542762244060584391:=0
def tw14593566819142863161:=0
def tw6490533338160645591:=0
def tw9323797125101214330:=0
def tw9005497233400153738:=0
def tw11465451927702613836:=0
def tw17641376668636967615:=0
def tw5309380618455108038:=0
def tw4492409205062886752:=0
def tw14259970202621138392:=0
def tw8602153756192751975:=0
def tw8617644465210031749:=0
def tw16317340629506681231:=0
def tw9599771769738834818:=0
def tw17995549646039773528:=0
def tw7960303952985574171:=0
def tw5735000919143024856:=0
def tw17804977756231862497:=0
def tw4522959776294025001:=0
def tw8116097805537265274:=0
def tw11715490247388692249:=0
def tw496842722997297649:=0
def tw14074774398830317445:=0
def tw17963645372172739071:=0
def tw2403197585913358763:=0
def tw4032892067684501852:=0
def tw12340305557992637607:=0
def tw3331218866913683572:=0
def tw18427432791535999457:=0
def tw3034422888882311044:=0
def tw6425760034167971883:=0
def tw14181774352569326168:=0
def tw751861742410560935:=0
def tw14547356377282230621:=0
def tw18300578102598463535:=0
def tw16358245502941728235:=0
def tw7299452343276712875:=0
def tw1967743767760473368:=0
def tw2663080915264300411:=0
def tw5467297204485849511:=0
def tw8673341436275201776:=0
def tw14245893804420332380:=0
def tw14771928790004073653:=0
def tw16485444116956994705:=0
def tw17972071777434737154:=0
def tw1335842712048903554:=0
def tw10701097191926076688:=0
def tw1587945708867247773:=0
def tw7913189146570874895:=0
def tw8404528102108149169:=0
def tw18112332168723404453:=0
def tw13277113041170587796:=0
def tw18157296300180002592:=0
def tw13696325384698636814:=0
def tw8404127386197611992:=0
def tw5124861526318217351:=0
def tw998919080256583616:=0
def tw17588092268294922546:=0
def tw16867412276051915391:=0
def tw13620260383226763623:=0
def tw10789888149884238011:=0
def tw5844330827982606062:=0
def tw14796718384587165211:=0
def tw2766858544632462580:=0
def tw12009297041142152132:=0
def tw10609911183889326445:=0
def tw500557712543346033:=0
def tw13594064080187812512:=0
def tw10656527057349619180:=0
def tw14996129179362312785:=0
def tw851846062348524162:=0
def tw13428760878184572252:=0
def tw7697403493302103595:=0
def tw1170701138237178416:=0
def tw2042093508023689158:=0
def tw2021746289071108966:=0
def tw5644668264152036633:=0
def tw3400670731847915919:=0
def tw1242486792220614638:=0
def tw11139449941071227598:=0
def tw13798604577632958771:=0
def tw11707783633213122514:=0
def tw9758140923622357919:=0
def tw14932647952164432202:=0
def tw2120575901277411294:=0
def tw426305476550561042:=0
def tw14415492573332943411:=0
def tw12203374150479576259:=0
def tw13297993903293095303:=0
def tw710017759011247755:=0
def tw5707190235774655035:=0
def tw6946315057480114996:=0
def tw4682756865080477266:=0
def tw1141735113522095397:=0
def tw5161358489055335016:=0
def tw3788966012432508374:=0
def tw17624262989797689563:=0
def tw9246392366975073345:=0
def tw6163406016395928263:=0
def tw13125904575390969415:=0
def tw12433290959426816599:=0
def tw1437757624939714931:=0
def tw455974795213273969:=0
def tw2468393128556383142:=0
def tw15617677483345584194:=0
def tw10298162007665125134:=0
def tw9582089203602223871:=0
def tw9117362048239508925:=0
def tw11392236767928919892:=0
def tw6325367369695026547:=0
def tw2811352777321811322:=0
def tw1197569918921830582:=0
def tw15661963195489676691:=0
def tw4085566122705319559:=0
def tw17139656289193809907:=0
def tw1433227985567629853:=0
def tw11537442759927812058:=0
def tw8300306257887164278:=0
def tw7157080533123324033:=0
def tw2106787302454404619:=0
def tw16920386442989337265:=0
def tw7699638228132275105:=0
def tw14300194373746573163:=0
def tw13948175708328918691:=0
def tw6254607077360117466:=0
def tw5016317386552065538:=0
def tw15873732745859380099:=0
def tw18407592304258874127:=0
def tw4154754547244228947:=0
def tw1504778728210053848:=0
def tw7507352140754079613:=0
def tw6302011422982499893:=0
def tw4398508297519902515:=0
def tw565674145870852091:=0
def tw8074015966856579040:=0
def tw10655633680606426335:=0
def tw2548462635705857228:=0
def tw8154039770987541334:=0
def tw9289107697738192504:=0
def tw10132607425793892495:=0
def tw5553470501686533997:=0
def tw17504747110436482454:=0
def tw7777837128121418761:=0
def tw18136010527152420807:=0
def tw5316955239180360909:=0
def tw3010850458346583573:=0
def tw14106572033448891718:=0
def tw15479649559009126511:=0
def tw9917921462326797316:=0
def tw8958781368695533940:=0
def tw11130785512821306498:=0
def tw6971608547955307665:=0
def tw13427364241902564345:=0
def tw3920720502488575584:=0
def tw14749660559251883998:=0
def tw7433402765799838305:=0
def tw18085982549021997620:=0
def tw7003240696043447540:=0
def tw6794878527287276013:=0
def tw16309755881070359469:=0
def tw15330671771521450367:=0
def tw11411001869850099626:=0
def tw6516737762171416324:=0
def tw4804010746310175808:=0
def tw10703582283708350989:=0
def tw17101427057130108517:=0
def tw8179903793815566434:=0
def tw16354765725200483654:=0
def tw2754377497034786840:=0
def tw920081162011975012:=0
def tw6498935198524625416:=0
def tw8601253481971968765:=0
def tw1548378777737555034:=0
def tw6972013276274738625:=0
def tw347169337914030766:=0
def tw9036359800720707993:=0
def tw14298259345433153248:=0
def tw13226270745763326045:=0
def tw6760324494625068334:=0
def tw18160234086947863624:=0
def tw9484173812217026701:=0
def tw15796404590699134678:=0
def tw1590024625597641282:=0
def tw4269607023820522003:=0
def tw8096030128714327109:=0
def tw2793425664121486610:=0
def tw396219978127679448:=0
def tw10364394137480355077:=0
def tw15772549094475879736:=0
def tw3488761941095839616:=0
def tw14679880737966252175:=0
def tw6652161894306242729:=0
def tw10100315649519139057:=0
def tw5199048540008183012:=0
def tw16344184924339054927:=0
def tw15894362141185913981:=0
def tw12992318151634434341:=0
def tw7572816498099212455:=0
def tw10334059323871615540:=0
def tw1924883630661455584:=0
def tw17885204538575323348:=0
def tw15411537285365993266:=0
def tw17584139930346076228:=0
def tw4317847113372756176:=0
def tw2530342153342468393:=0
def tw9068187075652384449:=0
def tw859205048043939613:=0
def tw11680421018053628636:=0
def tw4830358576942957815:=0
def tw509219547419839207:=0
def tw220573045269987841:=0
def tw13733717625562875948:=0
def tw1059990035729023085:=0
def tw1580337356154959978:=0
def tw6216608203218560562:=0
def tw290847715146639551:=0
def tw11037159756267440096:=0
def tw12785876381138812481:=0
def tw1481679883150997565:=0
def tw1403358134079019935:=0
def tw8446094940747790664:=0
def tw9135244994146422049:=0
def tw16541458468636347656:=0
def tw13826997509336990501:=0
def tw539571680320990948:=0
def tw1597223185600244339:=0
def tw6131148793963368941:=0
def tw2112753847108425808:=0
def tw8734094904235527752:=0
def tw11044345302043766589:=0
def tw16132702475932973533:=0
def tw4597897781232488446:=0
def tw4972736696927145296:=0
def tw16241271145434650637:=0
def tw18175808848210424010:=0
def tw3666598707650916817:=0
def tw1747729383136202140:=0
def tw13890872107072663605:=0
def tw1927604644280717273:=0
def tw8301459740820742246:=0
def tw10387618270387804950:=0
def tw923732691964575168:=0
def tw1072124708546694384:=0
def tw7300079088583684879:=0
def tw5675111543464079071:=0
def tw16795930472345030988:=0
def tw17452632127247284234:=0
def tw15363930107369040060:=0
def tw4201187125362718167:=0
def tw9779732562698855614:=0
def tw964082768861394128:=0
def tw11380068876369587680:=0
def tw14849621767565440033:=0
def tw2868247584615318799:=0
def tw17306299845134279239:=0
def tw15581201346479677853:=0
def tw63069495330724569:=0
def tw327451317466520325:=0
def tw12995043109761027204:=0
def tw11391933658358562687:=0
def tw5977994613194112877:=0
def tw12090589665819137243:=0
def tw8365048546935511451:=0
def tw1552154823184703457:=0
def tw17743618782372600855:=0
def tw12545869104125932821:=0
def tw11605772903900039404:=0
def tw13039332908927253848:=0
def tw15465726833620505649:=0
def tw7037057416432787064:=0
def tw9282551219372896015:=0
def tw11087991507319597514:=0
def tw17808215852791309969:=0
def tw9112929369066416793:=0
def tw7097428355561834055:=0
def tw4553603697074470855:=0
def tw508614772237402847:=0
def tw2664935680643656152:=0
def tw2483727758820886875:=0
def tw3909894654493985277:=0
def tw4721826311293367382:=0
def tw12814317791025055496:=0
def tw10815527974895806448:=0
def tw9269253806720617516:=0
def tw2594161057904751485:=0
def tw5043998481684785002:=0
def tw7677450766346296083:=0
def tw9880116905367368810:=0
def tw6449986538212663049:=0
def tw15922356114627886315:=0
def tw5644737038620973653:=0
def tw14402272388019185675:=0
def tw4597721227602231224:=0
def tw8158685690318670390:=0
def tw5495573638529822064:=0
def tw6210858790920659931:=0
def tw15212224976452171484:=0
def tw16546077225280924904:=0
def tw1886670248333851154:=0
def tw3356422175249512364:=0
def tw16400307548383700856:=0
def tw12323985500991548240:=0
def tw17566186284399033614:=0
def tw13874650393183488862:=0
def tw7436147437570980717:=0
def tw12734788678710408195:=0
def tw2193202053771475651:=0
def tw6837339524560013451:=0
def tw16501565571269511838:=0
end PySem.W.Fast
open PySem PySem.W PyProof.Rows
open OP in
set_option maxRecDepth 100000 in
set_option maxHeartbeats 0 in
theorem PySem.Challenge.cw_oneglance_k50_great_patience_is_none_holds : PySem.Challenge.rw_oneglance_k50_great_patience_is_none.Holds := by
 w_on; o_law; k_head; (case hw => w_witness2)
 k_fill
 refine OL.P6 (l := PySem.Challenge.rw_oneglance_k50_great_patience_is_none) 306 rfl rfl (fun w h Y => ⟨PySem.W.km_in_of Y, PySem.W.km_tabs_of Y 306 (by simp)⟩) (fun w => by kernel_rfl) (fun w => ⟨310, by kernel_rfl⟩) ?F;case F =>
  intro w mg fa h KX G hmg;refine' OL.L0 KX G hmg ?ds ?y110 ?y120 ?y127 ?y121 ?y123 ?y126 ?zs ?cod
  (case ds => (repeat (refine' ⟨Qm ?a ?l ?c ?k, ?_⟩; (case a => k_is); (case l => k_is); (case c => k_is); (case k => k_is))); exact trivial)
  (case y110 => (refine' ⟨?a, ?b, ?c, ?d, ?e, ?f, ?g, ?n, ?m⟩; (case a => k_is); (case b => k_is); (case c => k_is); (case d => k_is); (case e => k_is); (case f => k_is); (case g => k_is); (case n => (repeat (refine' ⟨?a, ?_⟩; (case a => k_is))); exact trivial); (case m => (repeat (refine' ⟨Lc ?a ?i ?l ?c ?k, ?_⟩; (case a => k_is); (case i => k_is); (case l => k_is); (case c => k_is); (case k => k_is))); exact trivial)))
  (case y120 => (refine' ⟨?a, ?b, ?c, ?d, ?e, ?f, ?g, ?n, ?m⟩; (case a => k_is); (case b => k_is); (case c => k_is); (case d => k_is); (case e => k_is); (case f => k_is); (case g => k_is); (case n => (repeat (refine' ⟨?a, ?_⟩; (case a => k_is))); exact trivial); (case m => (repeat (refine' ⟨Lc ?a ?i ?l ?c ?k, ?_⟩; (case a => k_is); (case i => k_is); (case l => k_is); (case c => k_is); (case k => k_is))); exact trivial)))
  (case y127 => (refine' ⟨?a, ?b, ?c, ?d, ?e, ?f, ?g, ?n, ?m⟩; (case a => k_is); (case b => k_is); (case c => k_is); (case d => k_is); (case e => k_is); (case f => k_is); (case g => k_is); (case n => (repeat (refine' ⟨?a, ?_⟩; (case a => k_is))); exact trivial); (case m => (repeat (refine' ⟨Lc ?a ?i ?l ?c ?k, ?_⟩; (case a => k_is); (case i => k_is); (case l => k_is); (case c => k_is); (case k => k_is))); exact trivial)))
  (case y121 => (refine' ⟨?a, ?b, ?c, ?d, ?e, ?f, ?g, ?n, ?m⟩; (case a => k_is); (case b => k_is); (case c => k_is); (case d => k_is); (case e => k_is); (case f => k_is); (case g => k_is); (case n => (repeat (refine' ⟨?a, ?_⟩; (case a => k_is))); exact trivial); (case m => (repeat (refine' ⟨Lc ?a ?i ?l ?c ?k, ?_⟩; (case a => k_is); (case i => k_is); (case l => k_is); (case c => k_is); (case k => k_is))); exact trivial)))
  (case y126 => (refine' ⟨?a, ?b, ?c, ?d, ?e, ?f, ?g, ?n, ?m⟩; (case a => k_is); (case b => k_is); (case c => k_is); (case d => k_is); (case e => k_is); (case f => k_is); (case g => k_is); (case n => (repeat (refine' ⟨?a, ?_⟩; (case a => k_is))); exact trivial); (case m => (repeat (refine' ⟨Lc ?a ?i ?l ?c ?k, ?_⟩; (case a => k_is); (case i => k_is); (case l => k_is); (case c => k_is); (case k => k_is))); exact trivial)))
  (case zs => (repeat (refine' ⟨?a, ?_⟩; (case a => k_is))); exact trivial)
  (case cod => exact ⟨_, _, _, by k_is, by k_is, rfl, rfl, by kernel_rfl⟩)
  (case y123 => (refine' mtE ?a ?i ?l ?c ?t; (case a => k_is); (case i => k_is); (case l => k_is); (case c => k_is); (case t => k_is)))
