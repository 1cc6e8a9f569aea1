import PyProof.Rows.All
import Wide.All
import OpenK.AllK
import Wide.FinOn
import Lean
import PyProof.EqAt
import PyProof.EqKinds
import PyProof.TupleCall
import PySem.Challenge.RW_oneglance_k62_desk_keeps_dealings
local macro_rules|`(tactic|trivial)=>`(tactic|exact Or.inl rfl)
local macro_rules|`(tactic|trivial)=>`(tactic|exact Or.inr rfl)
set_option maxHeartbeats 4000000
set_option Elab.async false
set_option linter.all false
set_option maxRecDepth 100000
noncomputable section
open Option renaming bind_eq_some_iff→Z0, bind_some→Z8, map_eq_some_iff→X2, map_some→XQ, isSome_iff_exists→XU, getD_some→XH
open PySem.W renaming Frag→Z6
open PySem renaming Value→Z7, wpAny_bind→ZQ, Shared→ZZ, starEach→ZX, Expr→ZC, sizeLine→ZP, wpAny_pure→ZO, Program→ZS, model→Zv, Stmt→Zw, World→Zg, backTo→Zf, Around→Za, bootBuiltins→Zc, wpAny_mono→Zn, FuncData→X5, swapsWith→X7, wpAny_field→XJ, Scope→XA
open List renaming getElem?_eq_some_iff→Z9, mem_cons_of_mem→ZJ, append_assoc→ZV, length_append→ZY, getElem?_eq_getElem→ZR, replicate→ZU, map_cons→ZG, getElem?_set_ne→ZH, mem_cons_self→ZE, length_map→ZN, length_cons→ZT, size_toArray→ZI, getElem?_append_left→Zq, mem_cons→Zx, getElem?_map→Zk, getElem?_set_self→Zr, append_nil→Zu, getElem?_append_right→Zb, mem_append_right→Zh, map_nil→Ze, getElem?_eq_none→Zm, map_append→Zp, cons_append→Zt, nil_append→Zo, getD_eq_getElem?_getD→Zs, cons_ne_nil→X0, replicate_succ→X3, getElem?_replicate→X4, ext_getElem?→X6, mem_append→X8, not_mem_nil→X9, find?_cons→XZ, map_map→XX, mem_map→XW, flatten_cons→XR, length_pos_iff→XB, getElem?_range→XG, mem_singleton→XE
open PySem.Heap renaming get?_push_of_some→ZK, lt_size→ZF, get?_push_size→Zy, get?_update_other→Zi
open Nat renaming le_refl→ZD, lt_of_lt_of_le→Zz, ne_of_lt→Zj, le_trans→Zl, zero_le→X1, lt_irrefl→XF
open Bool renaming false_ne_true→ZL
open Array renaming getElem?_eq_some_iff→XY
open Int renaming emod_nonneg→XD
namespace L2
open PySem PySem.Spec PyProof.Rows
abbrev Key:=Sum Int Str
def zp:Key->Z7->Bool
 |.inl k,v=>Value.isInt k v
 |.inr x,v=>Value.isStrOf x v
def Si(w:Zg):Key->Int
 |.inl k=>hashInt k
 |.inr x=>hashStr w x
theorem cL:∀{k:Key} {v:Z7},zp k v=true->(∃i t,k=Sum.inl i/\v=Value.int i t)\/(∃x t,k=Sum.inr x/\v=Value.str x t)
 |.inl i,v,h=>by
  obtain⟨t,e⟩:=Value.isInt_shape (k:=i) (v:=v) h;exact .inl ⟨i,t,rfl,e⟩
 |.inr x,v,h=>by
  obtain⟨t,e⟩:=Value.isStrOf_shape (x:=x) (v:=v) h;exact .inr ⟨x,t,rfl,e⟩
def A9(i:Int)(t:Tok):zp (.inl i) (.int i t)=true:=by simp[zp,Value.isInt]
def A8(x:Str)(t:Tok):zp (.inr x) (.str x t)=true:=by simp[zp,Value.isStrOf]
theorem Ms(a b:Int):decide ((Sum.inl a:Key)=Sum.inl b)=(a == b):=by
 by_cases e:a=b
 ·subst e;simp
 ·have h:¬(Sum.inl a:Key)=Sum.inl b:=fun q=>e (Sum.inl.inj q);rw[decide_eq_false h];exact(beq_eq_false_iff_ne.mpr e).symm
theorem Mp(a b:Str):decide ((Sum.inr a:Key)=Sum.inr b)=decide (a=b):=by
 by_cases e:a=b
 ·subst e;simp
 ·have h:¬(Sum.inr a:Key)=Sum.inr b:=fun q=>e (Sum.inr.inj q);rw[decide_eq_false h,decide_eq_false e]
def Mr(a:Int)(b:Str):decide ((Sum.inl a:Key)=Sum.inr b)=false:=decide_eq_false (fun q=>nomatch q)
def Mq(a:Str)(b:Int):decide ((Sum.inr a:Key)=Sum.inl b)=false:=decide_eq_false (fun q=>nomatch q)
def fK(prog:ZS)(w:Zg):PySem.KeyKind prog w Key where
 is:=zp
 hash:=Si w
 inj:=fun v a b ha hb=>by
  rcases cL ha with⟨i,t,rfl,rfl⟩|⟨x,t,rfl,rfl⟩
  ·rcases cL hb with⟨j,u,rfl,e⟩|⟨y,u,rfl,e⟩
   ·injection e with e1 _;rw[e1]
   ·exact nomatch e
  ·rcases cL hb with⟨j,u,rfl,e⟩|⟨y,u,rfl,e⟩
   ·exact nomatch e
   ·injection e with e1 _;rw[e1]
 byValue:=fun k v h=>by
  rcases cL h with⟨i,t,rfl,rfl⟩|⟨x,t,rfl,rfl⟩<;>rfl
 pyHash:=fun hv h=>by
  rcases cL hv with⟨i,t,rfl,rfl⟩|⟨x,t,rfl,rfl⟩
  ·exact wpAny_pyHash_int h
  ·exact wpAny_pyHash_str h
 eqBool:=fun hu hv h=>by
  rcases cL hu with⟨i,t,rfl,rfl⟩|⟨x,t,rfl,rfl⟩
  ·rcases cL hv with⟨j,u,rfl,rfl⟩|⟨y,u,rfl,rfl⟩
   ·rw[Ms]at h;exact wpAny_eqBool_int h
   ·rw[Mr]at h;exact SeqAt.EqAt.int_str i t y u _ _ _ _ h
  ·rcases cL hv with⟨j,u,rfl,rfl⟩|⟨y,u,rfl,rfl⟩
   ·rw[Mq]at h;exact SeqAt.EqAt.str_int x t j u _ _ _ _ h
   ·rw[Mp]at h;exact wpAny_eqBool_str h
 «strs»:=fun k x t v h=>by
  rcases cL h with⟨i,u,rfl,e⟩|⟨y,u,rfl,e⟩
  ·exact nomatch e
  ·injection e with e1 _;subst e1;cases v<;>rfl
def wD(prog:ZS)(w:Zg)(i:Int)(t:Tok):(fK prog w).is (.inl i) (.int i t)=true:=A9 i t
def wC(prog:ZS)(w:Zg)(x:Str)(t:Tok):(fK prog w).is (.inr x) (.str x t)=true:=A8 x t
inductive V where
 |non|bl (b:Bool)|int (i:Int)|str (x:Str)|byt (b:Array UInt8)|flt (b:UInt64)|ref (a:Addr)|ty (n:String)
 deriving DecidableEq
def eM:V->Z7->Prop
 |.non,u=>u=Value.none
 |.bl b,u=>u=Value.bool b
 |.int i,u=>∃t,u=Value.int i t
 |.str x,u=>∃t,u=Value.str x t
 |.byt b,u=>∃t,u=Value.bytes b t
 |.flt b,u=>∃t,u=Value.float b t
 |.ref a,u=>u=Value.ref a
 |.ty n,u=>u=Value.type n
abbrev cU:List V->List Z7->Prop:=Paired eM
def cU.length{xs:List V}{us:List Z7}(r:cU xs us):xs.length=us.length:=Paired.length r
theorem cU.get:∀{xs:List V} {us:List Z7} {i:Nat} {x:V},cU xs us->xs[i]?=some x->∃u,us[i]?=some u/\eM x u
 |_,_,_,_,.nil,e=>by simp at e
 |_,_,0,_,.cons r _,e=>by simp at e;subst e;exact⟨_,rfl,r⟩
 |_,_,i+1,x,.cons _ t,e=>by
  obtain⟨u,h1,h2⟩:=cU.get (i:=i) (x:=x) t (by simpa using e);exact⟨u,by simpa using h1,h2⟩
theorem cU.set{x:V}{u:Z7}(r:eM x u):∀{xs:List V} {us:List Z7} (i:Nat),cU xs us->cU (xs.set i x) (us.set i u)
 |_,_,_,.nil=>.nil
 |_,_,0,.cons _ t=>.cons r t
 |_,_,i+1,.cons q t=>.cons q (cU.set r i t)
theorem cU.append:∀{xs ys:List V} {us ws:List Z7},cU xs us->cU ys ws->cU (xs++ys) (us++ws)
 |_,_,_,_,.nil,s=>s
 |_,_,_,_,.cons r t,s=>.cons r (cU.append t s)
theorem cU.take:∀{xs:List V} {us:List Z7} (n:Nat),cU xs us->cU (xs.take n) (us.take n)
 |_,_,0,_=>.nil
 |_,_,_+1,.nil=>.nil
 |_,_,n+1,.cons r t=>.cons r (cU.take n t)
theorem cU.drop:∀{xs:List V} {us:List Z7} (n:Nat),cU xs us->cU (xs.drop n) (us.drop n)
 |_,_,0,r=>r
 |_,_,_+1,.nil=>.nil
 |_,_,n+1,.cons _ t=>cU.drop n t
def vG:Option V->Option Z7->Prop
 |some v,some u=>eM v u
 |none,none=>True
 |_,_=>False
def KV{κ:Type}:List (κ×V)->List (κ×Z7)->Prop:=Paired fun(p:κ×V) (q:κ×Z7)=>p.1=q.1/\eM p.2 q.2
def kV:Key->V
 |.inl i=>.int i
 |.inr x=>.str x
inductive HO where
 |lst (xs:List V)
 |tup (xs:List V)
 |dK (kvs:List (Key×V))|dT (kvs:List (List Key×V))
 |set (S:Int->Bool) (n:Nat)
 |ins (C dx:Addr) (fs:List (Str×V))
 |own (x:Addr)
 |xd (fs:List (Str×V))
 |met (f x:Addr)
 |rng (lo hi:Int)
 |frz (o:Obj) (u:HO)
 |tbl (ps:Array Z7)
 |ext (φ:Heap->Prop)
abbrev Hp:=Addr->Option HO
def upd(H:Hp)(a:Addr)(o:HO):Hp:=fun b=>if b=a then some o else H b
def bx{H:Hp}{a:Addr}{o:HO}:upd H a o a=some o:=by unfold upd;rw[if_pos rfl]
def bN{H:Hp}{a b:Addr}{o:HO}(h:b≠a):upd H a o b=H b:=by unfold upd;rw[if_neg h]
theorem PV{H:Hp}{a b:Addr}{o u:HO}(h:H a=some o)(h':H b=some u)(d:o≠u):a≠b:=by
 intro e;subst e;rw[h]at h';exact d (Option.some.inj h')
theorem dG{H:Hp}{a b:Addr}{o:HO}(h:H a=some o)(h':H b=none):a≠b:=by
 intro e;subst e;rw[h]at h';cases h'
def ET(h:Heap)(a:Addr)(items:Array Z7):Prop:=∃o,h.get? a=some o/\(o.cls=.type "tuple"/\o.dict=none)/\∃n,o.data=.seq items n
def ET.tup{h:Heap}{a:Addr}{items:Array Z7}(x:ET h a items):IsTup h a items:=let ⟨o,g,c,d⟩:=x;⟨o,g,c.1,d⟩
theorem ET.new(h:Heap)(items:Array Z7):ET (h.push { cls:=.type "tuple",data:=.seq items }) h.objs.size items:=⟨_,Zy _ rfl,⟨rfl,rfl⟩,_,rfl⟩
section
variable(P:ZS)(w:Zg)
def d6(H:Hp)(h:Heap)(a:Addr):HO->Prop
 |.lst xs=>xs.length<=ZP/\∃(its:List Z7) (n:Nat),cU xs its/\h.get? a=some { cls:=.type "list",data:=.seq its.toArray n }
 |.tup xs=>xs.length<=ZP/\∃its:List Z7,cU xs its/\ET h a its.toArray
 |.dK kvs=>kvs.length<=ZP/\(a == sysModules)=false/\∃vs,KV kvs vs/\h.DictOf (fK P w) a vs
 | .dT kvs=>kvs.length<=ZP/\(a == sysModules)=false/\∃xs:List (List Key×Addr×Z7),
   Paired (fun(p:List Key×V) (q:List Key×Addr×Z7)=>p.1=q.1/\H q.2.1=some (.tup (p.1.map kV))/\eM p.2 q.2.2) kvs xs/\
   ∃o es ep,h.get? a=some o/\o.ExactDict/\o.data=.dict es ep/\es.toList=xs.map (entryOfKey (tupleKind (fK P w)))/\(xs.map (·.1)).Nodup
 |.set S n=>h.SetOf (intKind P w) a S n
 | .ins C dx fs=>H dx=some (.own a)/\fs.length<=1000/\dx≠a/\h.get? a=some (PySem.W.instObj C dx)/\
   ∃mA,h.Ns1 dx mA/\(∀f,vG (fs.lookup f) (mA f))/\PySem.Within mA (fs.map (·.1))
 |.own _=>∃o,h.get? a=some o
 |.xd fs=>∃mA,h.Ns1 a mA/\∀f,vG (fs.lookup f) (mA f)
 |.rng lo hi=>∃t u v,h.get? a=some { cls:=.type "range",data:=.fields #[.int lo t,.int hi u,.int 1 v] }
 |.frz o u=>h.get? a=some o/\d6 H h a u
 |.tbl ps=>h.get? a=some { cls:=.none,data:=.fields ps }
 |.met f x=>h.get? a=some (PySem.W.methodObj (.ref f) (.ref x))
 |.ext φ=>φ h/\(∃o,h.get? a=some o)/\∀h1 h2:Heap,φ h1->(∀o,h1.get? a=some o->h2.get? a=some o)->φ h2
def HOk(H:Hp)(h:Heap):Prop:=∀a o,H a=some o->d6 P w H h a o
end
section
variable{P:ZS}{w:Zg}{H H':Hp}{h h':Heap}{a:Addr}{o:HO}
theorem d6.lt(x:d6 P w H h a o):a<h.objs.size:=by
 cases o with
 |lst xs=>obtain⟨_,_,_,_,e⟩:=x;exact ZF e
 |tup xs=>obtain⟨_,_,_,p⟩:=x;exact p.tup.lt
 |dK kvs=>obtain⟨_,_,_,_,o,_,_,e,_⟩:=x;exact ZF e
 |dT kvs=>obtain⟨_,_,_,_,o,_,_,e,_⟩:=x;exact ZF e
 |set S n=>obtain⟨o,_,_,_,e,_⟩:=x;exact ZF e
 |ins C dx fs=>obtain⟨_,_,_,e,_⟩:=x;exact ZF e
 |own y=>obtain⟨_,e⟩:=x;exact ZF e
 |xd fs=>obtain⟨_,⟨_,_,_,e,_⟩,_⟩:=x;exact ZF e
 |rng lo hi=>obtain⟨_,_,_,e⟩:=x;exact ZF e
 |frz ob u=>obtain⟨e,_⟩:=x;exact ZF e
 |tbl ps=>exact ZF (show h.get? a=some _ from x)
 |met f y=>exact ZF (show h.get? a=some _ from x)
 |ext φ=>obtain⟨_,⟨_,e⟩,_⟩:=x;exact ZF e
theorem Paired.mapP{α β:Type}{F G:α->β->Prop}:∀{l₁:List α} {l₂:List β},Paired F l₁ l₂->(∀a b,F a b->G a b)->Paired G l₁ l₂
 |_,_,.nil,_=>.nil
 |_,_,.cons r t,f=>.cons (f _ _ r) (Paired.mapP t f)
theorem d6.stay(x:d6 P w H h a o)(k:∀b u,(b=a\/H b=some (.own a))->h.get? b=some u->h'.get? b=some u)
  (ho:∀b,H b=some (.own a)->H' b=some (.own a)) (ht:∀b xs,H b=some (.tup xs)->H' b=some (.tup xs)):d6 P w H' h' a o:=by
 induction o with
 |lst xs=>obtain⟨z,its,n,r,e⟩:=x;exact⟨z,its,n,r,k _ _ (.inl rfl) e⟩
 |tup xs=>obtain⟨z,its,r,ob,e,c⟩:=x;exact⟨z,its,r,ob,k _ _ (.inl rfl) e,c⟩
 |dK kvs=>obtain⟨z,y,vs,r,ob,es,ep,e,c⟩:=x;exact⟨z,y,vs,r,ob,es,ep,k _ _ (.inl rfl) e,c⟩
 |dT kvs=>
  obtain⟨z,y,xs,r,ob,es,ep,e,c⟩:=x;exact⟨z,y,xs,Paired.mapP r fun p q z=>⟨z.1,ht _ _ z.2.1,z.2.2⟩,ob,es,ep,k _ _ (.inl rfl) e,c⟩
 |set S n=>obtain⟨ob,es,ep,t,e,c⟩:=x;exact⟨ob,es,ep,t,k _ _ (.inl rfl) e,c⟩
 |ins C dx fs=>
  obtain⟨d,z,ne,e,mA,⟨od,es,ep,e2,c⟩,r⟩:=x;exact⟨ho _ d,z,ne,k _ _ (.inl rfl) e,mA,⟨od,es,ep,k _ _ (.inr d) e2,c⟩,r⟩
 |own y=>obtain⟨ob,e⟩:=x;exact⟨ob,k _ _ (.inl rfl) e⟩
 |xd fs=>obtain⟨mA,⟨od,es,ep,e,c⟩,r⟩:=x;exact⟨mA,⟨od,es,ep,k _ _ (.inl rfl) e,c⟩,r⟩
 |rng lo hi=>obtain⟨t,u,v,e⟩:=x;exact⟨t,u,v,k _ _ (.inl rfl) e⟩
 |frz ob u ih=>obtain⟨e,q⟩:=x;exact⟨k _ _ (.inl rfl) e,ih q⟩
 |tbl ps=>
  have e:h.get? a=some { cls:=.none,data:=.fields ps }:=x;show h'.get? a=some { cls:=.none,data:=.fields ps };exact k a _ (.inl rfl) e
 |met f y=>
  have e:h.get? a=some (PySem.W.methodObj (.ref f) (.ref y)):=x;show h'.get? a=some (PySem.W.methodObj (.ref f) (.ref y));exact k a _ (.inl rfl) e
 |ext φ=>obtain⟨p,⟨o,e⟩,st⟩:=x;exact⟨st _ _ p fun o q=>k _ _ (.inl rfl) q,⟨o,k _ _ (.inl rfl) e⟩,st⟩
def HOk.lt(x:HOk P w H h)(e:H a=some o):a<h.objs.size:=(x a o e).lt
theorem HOk.fresh(x:HOk P w H h)(e:h.objs.size<=a):H a=none:=by
 cases q:H a with
 |none=>rfl
 |some u=>exact absurd (Zz (x.lt q) e) (XF _)
theorem HOk.kept(x:HOk P w H h)(k:∀b u,h.get? b=some u->h'.get? b=some u):HOk P w H h':=fun a o e=>
 (x a o e).stay (fun b u _ q=>k b u q) (fun _ q=>q) fun _ _ q=>q
theorem HOk.laid(x:HOk P w H h)(k:∀b u,h.get? b=some u->h'.get? b=some u)(hp:h.objs.size<=a)(new:d6 P w (upd H a o) h' a o):HOk P w (upd H a o) h':=fun b u e=>by
 have hn:=x.fresh hp;by_cases hb:b=a
 ·subst hb;rw[bx]at e;cases e;exact new
 ·rw[bN hb]at e;exact(x b u e).stay (fun c v _ q=>k c v q) (fun c q=>by rw[bN (dG q hn)];exact q) fun c xs q=>by rw[bN (dG q hn)];exact q
end
def Rd(H:Hp)(a:Addr)(u:HO):Prop:=H a=some u\/∃o,H a=some (.frz o u)
theorem Rd.ok{P:ZS}{w:Zg}{H:Hp}{h:Heap}{a:Addr}{u:HO}(r:Rd H a u)(x:HOk P w H h):d6 P w H h a u:=by
 rcases r with r|⟨o,r⟩
 ·exact x a u r
 ·obtain⟨_,q⟩:=x a _ r;exact q
def Mut:Option HO->Prop
 |some (.lst _)=>True
 |some (.dK _)=>True
 |some (.dT _)=>True
 |some (.set _ _)=>True
 |some (.ins _ _ _)=>True
 |some (.ext _)=>True
 |_=>False
section
variable{P:ZS}{w:Zg}{H:Hp}{h h':Heap}{x e:Addr}{o':HO}
theorem HOk.write(ok:HOk P w H h)(mu:Mut (H x))(he:e=x\/H e=some (.own x))(k:∀b u,b≠e->h.get? b=some u->h'.get? b=some u)(heo:∃u,h'.get? e=some u)
  (new:d6 P w (upd H x o') h' x o'):HOk P w (upd H x o') h':=fun b u q=>by
 have nown:∀c y,H c=some (.own y)->c≠x:=fun c y r z=>by subst z;rw[r]at mu;exact mu
 have ntup:∀c xs,H c=some (.tup xs)->c≠x:=fun c xs r z=>by subst z;rw[r]at mu;exact mu
 by_cases hb:b=x
 ·subst hb;rw[bx]at q;cases q;exact new
 ·rw[bN hb]at q;by_cases hbe:b=e
  ·have q':H b=some (.own x):=by
    rcases he with z|z
    ·exact absurd (hbe.trans z) hb
    ·rw[hbe];exact z
   rw[q]at q';cases q';obtain⟨v,hv⟩:=heo;exact⟨v,by rw[hbe];exact hv⟩
  ·refine(ok b u q).stay (fun c v hc r=>k c v ?_ r) (fun c r=>by rw[bN (nown c b r)];exact r) fun c xs r=>by rw[bN (ntup c xs r)];exact r
   rcases hc with rfl|hc
   ·exact hbe
   ·rintro rfl;rcases he with z|z
    ·exact nown c b hc z
    ·rw[hc]at z;cases z;exact hb rfl
end
structure Un(fs ex:List Addr)(H H':Hp)(h h':Heap):Prop where
 keep:∀b o,h.get? b=some o->H b=none->b∉fs->b∉ex->h'.get? b=some o
 slot:∀b o,h.get? b=some o->H b=none->b∈fs->b∉ex->∃sl,h'.get? b=some { o with slots:=sl }
 free:∀b o,h.get? b=some o->H b=none->b∉ex->H' b=none
 there:∀b o,h.get? b=some o->b∉ex->∃o',h'.get? b=some o'
 tups:∀b xs,H b=some (.tup xs)->H' b=some (.tup xs)
 frzs:∀b o u,H b=some (.frz o u)->H' b=some (.frz o u)
 tbls:∀b ps,H b=some (.tbl ps)->∃more,H' b=some (.tbl (ps++more))
section
variable{fs ex:List Addr}{H H1:Hp}{h h1 h':Heap}{a x e:Addr}{o:HO}
theorem Un.any(u:Un fs ex H H1 h h1){b:Addr}{ob:Obj}(q:h.get? b=some ob)(n:H b=none)(hx:b∉ex):∃sl,h1.get? b=some { ob with slots:=sl }:=by
 by_cases hb:b∈fs
 ·exact u.slot b ob q n hb hx
 ·exact⟨ob.slots,u.keep b ob q n hb hx⟩
theorem Un.kept(k:∀b u,h.get? b=some u->h'.get? b=some u):Un fs ex H H h h':=
 ⟨fun b ob q _ _ _=>k b ob q,fun b ob q _ _ _=>⟨ob.slots,k b ob q⟩,fun _ _ _ n _=>n,fun b ob q _=>⟨ob,k b ob q⟩,fun _ _ q=>q,fun _ _ _ q=>q,fun _ ps q=>⟨#[],by rw[q];simp⟩⟩
def Un.refl:Un fs ex H H h h:=Un.kept fun _ _ q=>q
theorem Un.laid(k:∀b u,h.get? b=some u->h'.get? b=some u)(hp:h.objs.size<=a)(hn:H a=none):Un fs ex H (upd H a o) h h' where
 keep:=fun b u q _ _ _=>k b u q
 slot:=fun b u q _ _ _=>⟨u.slots,k b u q⟩
 free:=fun b u q n _=>by rw[bN (Zj (Zz (ZF q) hp))];exact n
 there:=fun b u q _=>⟨u,k b u q⟩
 tups:=fun b xs q=>by rw[bN (dG q hn)];exact q
 frzs:=fun b u xs q=>by rw[bN (dG q hn)];exact q
 tbls:=fun b ps q=>⟨#[],by rw[bN (dG q hn),q];simp⟩
theorem Un.write(mu:Mut (H x))(he:e=x\/H e=some (.own x))(k:∀b u,b≠e->h.get? b=some u->h'.get? b=some u)(heo:∃u,h'.get? e=some u):Un fs ex H (upd H x o) h h':=by
 have hx:∀b,H b=none->b≠x:=fun b n z=>by subst z;rw[n]at mu;exact mu
 have hb:∀b,H b=none->b≠e:=fun b n z=>by
  subst z;rcases he with r|r
  ·exact hx b n r
  ·rw[n]at r;cases r
 have hm:∀b u,H b=some u->¬Mut (some u)->b≠x:=fun b u q nm z=>by subst z;rw[q]at mu;exact nm mu
 refine⟨fun b u q n _ _=>k b u (hb b n) q,fun b u q n _ _=>⟨u.slots,k b u (hb b n) q⟩,fun b u q n _=>by rw[bN (hx b n)];exact n,fun b u q _=>?_,
  fun b xs q=>by rw[bN (hm b _ q fun z=>z)];exact q,fun b u xs q=>by rw[bN (hm b _ q fun z=>z)];exact q,fun b ps q=>⟨#[],by rw[bN (hm b _ q fun z=>z),q];simp⟩⟩
 by_cases hbe:b=e
 ·subst hbe;exact heo
 ·exact⟨u,k b u hbe q⟩
end
def trk(h:Heap)(H:Hp):List Addr:=(List.range h.objs.size).filter fun a=>(H a).isSome
def Ee(h:Heap)(H:Hp):Heap:=PySem.W.hideAll h (trk h H)
def Bl(h:Heap)(H:Hp):(Ee h H).objs.size=h.objs.size:=PySem.W.hideAll_size _ _
theorem Ed{h:Heap}{H:Hp}{b:Addr}{o:Obj}(e:h.get? b=some o)(n:H b=none):(Ee h H).get? b=some o:=
 PySem.W.hideAll_get _ e fun hm=>by
  have q:(H b).isSome=true:=(List.mem_filter.mp hm).2;rw[n]at q;simp at q
theorem HN{h:Heap}{H:Hp}{b:Addr}{o:Obj}(e:(Ee h H).get? b=some o):h.get? b=some o/\H b=none:=by
 have e':h.get? b=some o:=PySem.W.of_hideAll (trk h H) e;refine⟨e',?_⟩;cases q:H b with
 |none=>rfl
 |some x=>
  have hm:b∈trk h H:=List.mem_filter.mpr ⟨List.mem_range.mpr (ZF e'),by simp[q]⟩;have z:(Ee h H).get? b=none:=PySem.W.hideAll_none (trk h H) hm;rw[z]at e;cases e
structure Mod(K:Z6)(mg:Str->Option Z7)(base:Heap):Prop where
 kin:K.In base
 glob:base.Ns mainGlobals mg
 blt:∃mb,base.Ns builtinsNs mb/\∀x:Str,x≠"__name__"->mb x=Zc x
 nolimit:base.NoLimit
structure Cx where
 prog:ZS
 w:Zg
 K:Z6
 mg:Str->Option Z7
 base:Heap
 A:Za
 N:List Str
 s₀:ZZ
 H₀:Hp
 env:Env
 outer:List Env
 stack:List Env
 ex:List Addr
 fn:Str->Bool
 calm:Bool
 pn:List (Addr×Obj)
 xe:Z7->ZZ->Prop
def frs(l:List Env):List Addr:=l.filterMap (·.frame)
abbrev Cx.fs(X:Cx):List Addr:=frs X.outer
def Vis(sc:XA)(x:Str):Prop:=sc.names.lookup x=some .local\/sc.names.lookup x=some .cell\/sc.names.lookup x=some .free
def Loc(sc:XA)(x:Str):Prop:=sc.names.lookup x=some .local\/sc.names.lookup x=some .cell
def Rv(env:Env)(h:Heap)(m:Str->Option Z7)(x:Str)(u:Z7):Prop:=
 (env.kindOf x=some .local/\m x=some u)\/((env.kindOf x=some .cell\/env.kindOf x=some .free)/\∃c,env.cells.lookup x=some c/\h.IsCell c (some u))
structure Cx.Ok(X:Cx):Prop where
 mod:Mod X.K X.mg X.base
 kind:X.env.scope.kind=.function
 glob:X.env.globals=mainGlobals
 blt:X.env.builtins=builtinsNs
 above:X.s₀.heap.objs.size<=X.env.locals
 inj:∀x y c,X.env.cells.lookup x=some c->X.env.cells.lookup y=some c->x=y
 has:∀x,(X.env.kindOf x=some .cell\/X.env.kindOf x=some .free)->∃c,X.env.cells.lookup x=some c
 cab:∀x c,X.fn x=true->X.env.cells.lookup x=some c->X.s₀.heap.objs.size<=c
 hd:X.calm=true->X.A.handled=none
 frames:X.A.frames=some X.stack
 stk:X.stack=X.outer\/(X.stack=X.env::X.outer/\X.env.frame=some X.env.locals)
 exf:∀b∈X.ex,b≠X.env.locals/\∀x c,X.env.cells.lookup x=some c->c≠b
 bs:∀b o,X.base.get? b=some o->X.s₀.heap.get? b=some o/\X.H₀ b=none
 bsz:X.base.objs.size<=X.s₀.heap.objs.size
 noex:∀b o,X.base.get? b=some o->b∉X.ex
 exfs:∀b∈X.ex,b∉X.fs
 funs:X.s₀.heap.FunFrames X.base X.outer
 frf:∀b∈X.fs,X.H₀ b=none
structure Inv(X:Cx)(pins:List (Addr×Obj))(σ:List (Option V))(H:Hp)(s:ZZ):Prop where
 ok:X.Ok
 os:s.os=X.s₀.os
 bare:AllBare s.gens
 base:Un X.fs X.ex X.H₀ H X.s₀.heap s.heap
 loc:∃m,s.heap.Ns X.env.locals m/\∀(i:Nat) (x:Str) (v:V),X.N[i]?=some x->σ[i]?=some (some v)->Vis X.env.scope x->∃u,eM v u/\Rv X.env s.heap m x u
 cell:∀x c,X.env.cells.lookup x=some c->∃v,s.heap.IsCell c v
 free:H X.env.locals=none
 freeC:∀x c,X.env.cells.lookup x=some c->H c=none
 pin:∀p∈X.pn++pins,s.heap.get? p.1=some p.2/\H p.1=none/\p.1≠X.env.locals/\p.1∉X.fs/\∀v,p.2.data≠.cell v
 hok:HOk X.prog X.w H s.heap
 len:σ.length=X.N.length
section
variable{X:Cx}{pins:List (Addr×Obj)}{σ:List (Option V)}{H H':Hp}{s:ZZ}{h':Heap}
theorem Cx.Ok.nofr(ok:X.Ok){b:Addr}{o:Obj}(e:X.base.get? b=some o):b∉X.fs:=fun hb=>by
 have:=(ok.funs.mem hb).1;rw[e]at this;cases this
theorem Inv.bs(I:Inv X pins σ H s):∀b o,X.base.get? b=some o->s.heap.get? b=some o/\H b=none:=fun b o e=>
 ⟨I.base.keep b o (I.ok.bs b o e).1 (I.ok.bs b o e).2 (I.ok.nofr e) (I.ok.noex b o e),I.base.free b o (I.ok.bs b o e).1 (I.ok.bs b o e).2 (I.ok.noex b o e)⟩
def Inv.bk(I:Inv X pins σ H s):∀b o,X.base.get? b=some o->s.heap.get? b=some o:=fun b o e=>(I.bs b o e).1
def Inv.mod(I:Inv X pins σ H s):Mod X.K X.mg X.base:=I.ok.mod
def Inv.kIn(I:Inv X pins σ H s):X.K.In s.heap:=I.ok.mod.kin.keeps I.bk
def Inv.lt(I:Inv X pins σ H s):X.env.locals<s.heap.objs.size:=let ⟨_,hn,_⟩:=I.loc;hn.lt
def Inv.sz(I:Inv X pins σ H s):X.s₀.heap.objs.size<=s.heap.objs.size:=Zl I.ok.above (Nat.le_of_lt I.lt)
theorem Inv.nofs(I:Inv X pins σ H s){a:Addr}(h:s.heap.objs.size<=a):a∉X.fs:=fun hb=>by
 obtain⟨_,o,ho,_⟩:=I.ok.funs.mem hb;exact absurd (Zz (ZF ho) (Zl I.sz h)) (XF _)
theorem Inv.cne(I:Inv X pins σ H s):∀x c,X.env.cells.lookup x=some c->c≠X.env.locals:=fun x c e z=>by
 obtain⟨v,o,ho,hd⟩:=I.cell x c e;obtain⟨m,⟨o',es,ep,ho',hd',_⟩,_⟩:=I.loc;rw[z,ho']at ho;cases ho;rw[hd']at hd;cases hd
theorem Inv.funs(I:Inv X pins σ H s):s.heap.FunFrames X.base X.outer:=by
 have all:∀(l:List Env),(∀b∈frs l,b∈X.fs)->X.s₀.heap.FunFrames X.base l->s.heap.FunFrames X.base l:=by
  intro l;induction l with
  |nil=>intro _ _;trivial
  |cons env r ih=>
   intro hs hl;obtain⟨hk,⟨L,o,hf,hn,ho,hd⟩,hr⟩:=hl;have hL:L∈X.fs:=hs L (by unfold frs;rw[List.filterMap_cons,hf];exact ZE);obtain⟨sl,e⟩:=I.base.slot L o ho (I.ok.frf L hL) hL fun z=>I.ok.exfs L z hL;exact⟨hk,⟨L,_,hf,hn,e,hd⟩,ih (fun b hb=>hs b (by unfold frs;rw[List.filterMap_cons,hf];exact ZJ _ hb)) hr⟩
 exact all X.outer (fun _ hb=>hb) I.ok.funs
theorem Inv.stack(I:Inv X pins σ H s):s.heap.FunFrames X.base X.stack:=by
 rcases I.ok.stk with e|⟨e,hf⟩
 ·rw[e];exact I.funs
 ·rw[e];obtain⟨m,hn,_⟩:=I.loc;refine .cons (by rw[I.ok.kind];decide) hf hn ?_ I.funs;exact Heap.get?_none_of_le (Zl I.ok.bsz I.ok.above)
theorem Inv.stkSub(I:Inv X pins σ H s):∀b∈frs X.stack,b∈X.env.locals::X.fs:=fun b hb=>by
 rcases I.ok.stk with e|⟨e,hf⟩
 ·rw[e]at hb;exact ZJ _ hb
 ·rw[e]at hb;unfold frs at hb;rw[List.filterMap_cons,hf]at hb;exact hb
theorem Inv.stkFree(I:Inv X pins σ H s):∀b∈frs X.stack,H b=none:=fun b hb=>by
 rcases Zx.mp (I.stkSub b hb)with e|hb
 ·rw[e];exact I.free
 ·obtain⟨_,o,ho,_⟩:=I.ok.funs.mem hb;exact I.base.free b o ho (I.ok.frf b hb) fun z=>I.ok.exfs b z hb
theorem Inv.step{g':Array GenState}{t':Nat}{d':Drawn}{ch:List Addr}(I:Inv X pins σ H s)
  (hch:∀b∈ch,(b∈X.ex\/X.s₀.heap.objs.size<=b)/\b≠X.env.locals/\(∀x c,X.env.cells.lookup x=some c->c≠b)/\∀p∈X.pn++pins,p.1≠b)
  (keep:∀b o,b≠X.env.locals->b∉X.fs->b∉ch->s.heap.get? b=some o->H b=none->h'.get? b=some o)
  (slot:∀b o,b≠X.env.locals->b∈X.fs->b∉ch->s.heap.get? b=some o->H b=none->∃sl,h'.get? b=some { o with slots:=sl }) (free:∀b o,b∉ch->s.heap.get? b=some o->H b=none->H' b=none)
  (there:∀b o,b∉ch->s.heap.get? b=some o->∃o',h'.get? b=some o')
  (tups:∀b xs,H b=some (.tup xs)->H' b=some (.tup xs)) (frzs:∀b o u,H b=some (.frz o u)->H' b=some (.frz o u)) (tbls:∀b ps,H b=some (.tbl ps)->∃more,H' b=some (.tbl (ps++more)))
  (ns:∀m,s.heap.Ns X.env.locals m->h'.Ns X.env.locals m) (hok:HOk X.prog X.w H' h') (hg:AllBare g') :
  Inv X pins σ H' { s with heap:=h',gens:=g',drawn:=d',toks:=t' }:=by
 have neL:∀b o,X.s₀.heap.get? b=some o->b≠X.env.locals:=fun b o e=>Zj (Zz (ZF e) I.ok.above);have neC:∀b o,X.s₀.heap.get? b=some o->b∉X.ex->b∉ch:=fun b o e hx hb=>by
  rcases(hch b hb).1 with z|z
  ·exact hx z
  ·exact absurd (Zz (ZF e) z) (XF _)
 have cellK:∀x c,X.env.cells.lookup x=some c->∀v,s.heap.IsCell c v->h'.IsCell c v:=fun x c e v ⟨o,ho,hd⟩=>by
  have nch:c∉ch:=fun z=>(hch c z).2.2.1 x c e rfl;by_cases hc:c∈X.fs
  ·obtain⟨sl,q⟩:=slot c o (I.cne x c e) hc nch ho (I.freeC x c e);exact⟨_,q,hd⟩
  ·exact⟨o,keep c o (I.cne x c e) hc nch ho (I.freeC x c e),hd⟩
 refine⟨I.ok,I.os,hg,⟨fun b o e n hb hx=>?_,fun b o e n hb hx=>?_,fun b o e n hx=>?_,fun b o e hx=>?_,fun b xs e=>tups b xs (I.base.tups b xs e),fun b o xs e=>frzs b o xs (I.base.frzs b o xs e),fun b ps e=>?_⟩,?_,fun x c e=>?_,?_,fun x c e=>?_,fun p hp=>?_,hok,I.len⟩
 ·exact keep b o (neL b o e) hb (neC b o e hx) (I.base.keep b o e n hb hx) (I.base.free b o e n hx)
 ·obtain⟨sl,e1⟩:=I.base.slot b o e n hb hx;obtain⟨sl',e2⟩:=slot b _ (neL b o e) hb (neC b o e hx) e1 (I.base.free b o e n hx);exact⟨sl',e2⟩
 ·obtain⟨o',e1⟩:=I.base.there b o e hx;exact free b o' (neC b o e hx) e1 (I.base.free b o e n hx)
 ·obtain⟨o',e1⟩:=I.base.there b o e hx;exact there b o' (neC b o e hx) e1
 ·obtain⟨m1,e1⟩:=I.base.tbls b ps e;obtain⟨m2,e2⟩:=tbls b _ e1;exact⟨m1++m2,by rw[e2,Array.append_assoc]⟩
 ·obtain⟨m,hn,hl⟩:=I.loc;refine⟨m,ns m hn,fun i x v e1 e2 e3=>?_⟩;obtain⟨u,r,l⟩:=hl i x v e1 e2 e3;refine⟨u,r,?_⟩;rcases l with l|⟨k,c,e,z⟩
  ·exact .inl l
  ·exact .inr ⟨k,c,e,cellK x c e _ z⟩
 ·obtain⟨v,z⟩:=I.cell x c e;exact⟨v,cellK x c e v z⟩
 ·obtain⟨m,⟨o,_,_,ho,_⟩,_⟩:=I.loc;exact free _ o (fun z=>(hch _ z).2.1 rfl) ho I.free
 ·obtain⟨v,o,ho,hd⟩:=I.cell x c e;exact free c o (fun z=>(hch c z).2.2.1 x c e rfl) ho (I.freeC x c e)
 ·obtain⟨e,n,ne,nf,d⟩:=I.pin p hp;have nch:p.1∉ch:=fun z=>(hch p.1 z).2.2.2 p hp rfl;exact⟨keep p.1 p.2 ne nf nch e n,free p.1 p.2 nch e n,ne,nf,d⟩
theorem Inv.un{t':Nat}(I:Inv X pins σ H s)(u:Un X.fs [] H H' s.heap h')(hok:HOk X.prog X.w H' h'):Inv X pins σ H' { s with heap:=h',toks:=t' }:=by
 obtain⟨m,⟨o,es,ep,ho,r⟩,_⟩:=id I.loc;obtain⟨sl,hL⟩:=u.any ho I.free (by simp);exact I.step (g':=s.gens) (d':=s.drawn) (ch:=[]) (fun _ z=>nomatch z) (fun b o _ hb _ e n=>u.keep b o e n hb (by simp)) (fun b o _ hb _ e n=>u.slot b o e n hb (by simp)) (fun b o _ e n=>u.free b o e n (by simp)) (fun b o _ e=>u.there b o e (by simp)) u.tups u.frzs u.tbls (fun m' hm=>by
  obtain⟨o',es',ep',ho',r'⟩:=hm;rw[ho]at ho';cases ho';exact⟨_,es',ep',hL,r'⟩) hok I.bare
theorem Inv.call{g':Array GenState}{t':Nat}{d':Drawn}{ch:List Addr}(I:Inv X pins σ H s)(u:Un (frs X.stack) ch H H' s.heap h')(hok:HOk X.prog X.w H' h')(hg:AllBare g')
  (hch:∀b∈ch,(b∈X.ex\/X.s₀.heap.objs.size<=b)/\b≠X.env.locals/\(∀x c,X.env.cells.lookup x=some c->c≠b)/\∀p∈X.pn++pins,p.1≠b) :
  Inv X pins σ H' { s with heap:=h',gens:=g',drawn:=d',toks:=t' }:=by
 obtain⟨m,⟨o,es,ep,ho,r⟩,_⟩:=id I.loc;obtain⟨sl,hL⟩:=u.any ho I.free fun z=>(hch _ z).2.1 rfl;exact I.step (ch:=ch) hch (fun b o hL hb hc e n=>u.keep b o e n (fun z=>(Zx.mp (I.stkSub b z)).elim hL hb) hc) (fun b o _ _ hc e n=>u.any e n hc) (fun b o hc e n=>u.free b o e n hc) (fun b o hc e=>u.there b o e hc) u.tups u.frzs u.tbls (fun m' hm=>by
  obtain⟨o',es',ep',ho',r'⟩:=hm;rw[ho]at ho';cases ho';exact⟨_,es',ep',hL,r'⟩) hok hg
theorem Inv.turned{t':Nat}{it:Addr}(I:Inv X pins σ H s)(k:∀b o,b≠it->s.heap.get? b=some o->h'.get? b=some o)(hn:H it=none)(hL:it≠X.env.locals)
  (h1:it∈X.ex\/X.s₀.heap.objs.size<=it) (h2:∀x c,X.env.cells.lookup x=some c->c≠it) (h3:∀p∈X.pn++pins,p.1≠it):Inv X pins σ H { s with heap:=h',toks:=t' }:=by
 have nit:∀b u,H b=some u->b≠it:=fun b u e z=>by rw[z,hn]at e;cases e
 refine I.step (g':=s.gens) (d':=s.drawn) (ch:=[it]) (fun b hb=>?_) (fun b o _ _ hc e _=>k b o (fun z=>hc (by simp[z])) e) (fun b o _ _ hc e _=>⟨o.slots,k b o (fun z=>hc (by simp[z])) e⟩) (fun _ _ _ _ n=>n)
  (fun b o hc e=>⟨o,k b o (fun z=>hc (by simp[z])) e⟩) (fun _ _ e=>e) (fun _ _ _ e=>e) (fun b ps e=>⟨#[],by rw[e];simp⟩) (fun m hm=>?_) (fun b u e=>?_) I.bare
 ·have e:b=it:=by simpa using hb
  subst e;exact⟨h1,hL,h2,h3⟩
 ·obtain⟨o,es,ep,ho,r⟩:=hm;exact⟨o,es,ep,k _ o (Ne.symm hL) ho,r⟩
 ·refine(I.hok b u e).stay (fun c v hc q=>k c v ?_ q) (fun _ q=>q) fun _ _ q=>q;rcases hc with z|z
  ·rw[z];exact nit b u e
  ·exact nit c _ z
def Inv.tok(I:Inv X pins σ H s)(t:Nat):Inv X pins σ H { s with toks:=t }:=I.un (h':=s.heap) (t':=t) Un.refl I.hok
theorem Inv.kept{t':Nat}(I:Inv X pins σ H s)(k:∀b u,s.heap.get? b=some u->h'.get? b=some u):Inv X pins σ H { s with heap:=h',toks:=t' }:=I.un (Un.kept k) (I.hok.kept k)
theorem Inv.laid{a:Addr}{o:HO}{t':Nat}(I:Inv X pins σ H s)(k:∀b u,s.heap.get? b=some u->h'.get? b=some u)(hp:s.heap.objs.size<=a)(new:d6 X.prog X.w (upd H a o) h' a o) :
  Inv X pins σ (upd H a o) { s with heap:=h',toks:=t' }:=I.un (Un.laid k hp (I.hok.fresh hp)) (I.hok.laid k hp new)
theorem Inv.write{x e:Addr}{o:HO}{t':Nat}(I:Inv X pins σ H s)(mu:Mut (H x))(he:e=x\/H e=some (.own x))(k:∀b u,b≠e->s.heap.get? b=some u->h'.get? b=some u)(heo:∃u,h'.get? e=some u)
  (new:d6 X.prog X.w (upd H x o) h' x o):Inv X pins σ (upd H x o) { s with heap:=h',toks:=t' }:=I.un (Un.write mu he k heo) (I.hok.write mu he k heo new)
theorem Inv.pins_of{pins':List (Addr×Obj)}(I:Inv X pins σ H s)(h:∀p∈pins',s.heap.get? p.1=some p.2/\H p.1=none/\p.1≠X.env.locals/\p.1∉X.fs/\∀v,p.2.data≠.cell v):Inv X pins' σ H s:=
 ⟨I.ok,I.os,I.bare,I.base,I.loc,I.cell,I.free,I.freeC,fun p hp=>(X8.mp hp).elim (fun z=>I.pin p (List.mem_append_left _ z)) (h p),I.hok,I.len⟩
theorem tF{N:List Str}(hN:N.Nodup){i j:Nat}{x:Str}(a:N[i]?=some x)(b:N[j]?=some x):i=j:=by
 obtain⟨h1,e1⟩:=Z9.mp a;obtain⟨h2,e2⟩:=Z9.mp b;exact(List.getElem_inj hN).mp (e1.trans e2.symm)
theorem uE{M:Model}{A:Za}{E:Z7->ZZ->Prop}{i:Nat}{x:Str}{v:V}{u:Z7}{Q:Unit->ZZ->Prop}(I:Inv X pins σ H s)(hN:X.N.Nodup)(hi:X.N[i]?=some x)(hx:Loc X.env.scope x)(r:eM v u)
  (h:∀s',Inv X pins (σ.set i (some v)) H s'->(∃a,Heap.SameBut a s.heap s'.heap/\(a=X.env.locals\/X.env.cells.lookup x=some a))->Q () s') (hf:X.fn x=true\/X.env.scope.names.lookup x=some .local:=by first|exact .inl rfl|exact .inr rfl|assumption):wpAny M A (storeName X.env x u) Q E s:=by
 obtain⟨m,hn,hl⟩:=id I.loc;have hcls:(X.env.scope.kind == .class||(X.env.scope.kind == .module&&X.env.locals !=X.env.globals))=false:=by rw[I.ok.kind];rfl
 have hiσ:i < σ.length:=by rw[I.len];exact(Z9.mp hi).1
 have cne:=I.cne;have tracked:∀{a:Addr} {h':Heap},(∃o,s.heap.get? a=some o/\H a=none)->Heap.SameBut a s.heap h'->HOk X.prog X.w H h':=fun{a h'} ha hs b ob e=>by
  obtain⟨_,_,hfree⟩:=ha;refine(I.hok b ob e).stay (fun c w' hc q=>(hs.2 c ?_).trans q) (fun _ q=>q) fun _ _ q=>q;rintro rfl;rcases hc with rfl|hc
  ·rw[hfree]at e;cases e
  ·rw[hfree]at hc;cases hc
 rcases hx with hk|hk
 ·refine wpAny_storeName_local hk hn (fun h' hn' hs=>?_) hcls;obtain⟨oL,_,_,hoL,_⟩:=id hn;refine h _ ⟨I.ok,I.os,I.bare,⟨fun b o e n hb hx=>?_,fun b o e n hb hx=>?_,I.base.free,fun b o e hx=>?_,I.base.tups,I.base.frzs,I.base.tbls⟩,⟨_,hn',fun j y v' e1 e2 e3=>?_⟩,fun y c e=>?_,I.free,I.freeC,fun p hp=>?_,tracked ⟨oL,hoL,I.free⟩ hs,by simpa using I.len⟩ ⟨_,hs,.inl rfl⟩
  ·exact(hs.2 b (Zj (Zz (ZF e) I.ok.above))).trans (I.base.keep b o e n hb hx)
  ·obtain⟨sl,e1⟩:=I.base.slot b o e n hb hx;exact⟨sl,(hs.2 b (Zj (Zz (ZF e) I.ok.above))).trans e1⟩
  ·obtain⟨o',e1⟩:=I.base.there b o e hx;exact⟨o',(hs.2 b (Zj (Zz (ZF e) I.ok.above))).trans e1⟩
  ·by_cases hj:j=i
   ·subst hj;rw[hi]at e1;cases e1;rw[Zr hiσ]at e2;cases e2;exact⟨u,r,.inl ⟨hk,by simp⟩⟩
   ·rw[ZH (Ne.symm hj)]at e2;obtain⟨u',r',q⟩:=hl j y v' e1 e2 e3;refine⟨u',r',?_⟩;rcases q with⟨k,e⟩|⟨k,c,e,z⟩
    ·refine .inl ⟨k,?_⟩;have:y≠x:=fun e=>hj (tF hN e1 (e▸hi));simp[this,e]
    ·exact .inr ⟨k,c,e,z.sameBut hs (cne y c e)⟩
  ·obtain⟨w',z⟩:=I.cell y c e;exact⟨w',z.sameBut hs (cne y c e)⟩
  ·obtain⟨e,n,ne,nf,d⟩:=I.pin p hp;exact⟨(hs.2 p.1 ne).trans e,n,ne,nf,d⟩
 ·have hfn:X.fn x=true:=by
   rcases hf with z|z
   ·exact z
   ·rw[z]at hk;cases hk
  obtain⟨c,hc⟩:=I.ok.has x (.inl hk);obtain⟨w',z⟩:=I.cell x c hc;refine wpAny_storeName_cell I.ok.kind hk hc z (fun h' hc' hs=>?_);obtain⟨oc,hoc,hocd⟩:=id z;refine h { s with heap:=h' } ⟨I.ok,I.os,I.bare,⟨fun b o e n hb hx=>?_,fun b o e n hb hx=>?_,I.base.free,fun b o e hx=>?_,I.base.tups,I.base.frzs,I.base.tbls⟩,⟨m,hn.sameBut hs (Ne.symm (cne x c hc)),fun j y v' e1 e2 e3=>?_⟩,fun y c' e=>?_,I.free,I.freeC,fun p hp=>?_,tracked ⟨oc,hoc,I.freeC x c hc⟩ hs,by simpa using I.len⟩ ⟨c,hs,.inr hc⟩
  ·exact(hs.2 b (Zj (Zz (ZF e) (I.ok.cab x c hfn hc)))).trans (I.base.keep b o e n hb hx)
  ·obtain⟨sl,e1⟩:=I.base.slot b o e n hb hx;exact⟨sl,(hs.2 b (Zj (Zz (ZF e) (I.ok.cab x c hfn hc)))).trans e1⟩
  ·obtain⟨o',e1⟩:=I.base.there b o e hx;exact⟨o',(hs.2 b (Zj (Zz (ZF e) (I.ok.cab x c hfn hc)))).trans e1⟩
  ·by_cases hj:j=i
   ·subst hj;rw[hi]at e1;cases e1;rw[Zr hiσ]at e2;cases e2;exact⟨u,r,.inr ⟨.inl hk,c,hc,hc'⟩⟩
   ·rw[ZH (Ne.symm hj)]at e2;obtain⟨u',r',q⟩:=hl j y v' e1 e2 e3;refine⟨u',r',?_⟩;rcases q with q|⟨k,c',e,z'⟩
    ·exact .inl q
    ·refine .inr ⟨k,c',e,z'.sameBut hs ?_⟩;rintro rfl;exact hj (tF hN e1 (I.ok.inj _ _ _ e hc▸hi))
  ·by_cases hcc:c'=c
   ·subst hcc;exact⟨_,hc'⟩
   ·obtain⟨w2,z2⟩:=I.cell y c' e;exact⟨w2,z2.sameBut hs hcc⟩
  ·obtain⟨e,n,ne,nf,d⟩:=I.pin p hp;refine⟨(hs.2 p.1 ?_).trans e,n,ne,nf,d⟩;intro q;rw[q,hoc]at e;have q':oc=p.2:=Option.some.inj e;exact d w' (by rw[<-q'];exact hocd)
theorem oP{M:Model}{A:Za}{E:Z7->ZZ->Prop}{i:Nat}{x:Str}{v:V}{u:Z7}{Q:Unit->ZZ->Prop}(I:Inv X pins σ H s)(hN:X.N.Nodup)(hi:X.N[i]?=some x)(hx:Loc X.env.scope x)(r:eM v u)
  (h:∀s',Inv X pins (σ.set i (some v)) H s'->Q () s') (hf:X.fn x=true\/X.env.scope.names.lookup x=some .local:=by first|exact .inl rfl|exact .inr rfl|assumption):wpAny M A (storeName X.env x u) Q E s:=
 uE I hN hi hx r (fun s' I' _=>h s' I') hf
theorem Inv.call'{s':ZZ}{ch:List Addr}(I:Inv X pins σ H s)(ho:s'.os=s.os)(u:Un (frs X.stack) ch H H' s.heap s'.heap)(hok:HOk X.prog X.w H' s'.heap)(hg:AllBare s'.gens)
  (hch:∀b∈ch,(b∈X.ex\/X.s₀.heap.objs.size<=b)/\b≠X.env.locals/\(∀x c,X.env.cells.lookup x=some c->c≠b)/\∀p∈X.pn++pins,p.1≠b):Inv X pins σ H' s':=by
 obtain⟨h',g',d',t',o'⟩:=s';have e:o'=s.os:=ho;subst e;exact I.call (g':=g') (t':=t') (d':=d') u hok hg hch
end
abbrev XK:=Z7->Option Addr->Hp->Prop
abbrev St:=List (Option V)
abbrev VK:=V->Hp->Prop
abbrev TE:=St->Hp->VK->Prop
abbrev TT:=St->Hp->(Bool->Hp->Prop)->Prop
abbrev TA:=St->Hp->(List V->Hp->Prop)->Prop
structure Co where
 nx:St->Hp->Prop
 rt:VK
 bk:St->Hp->Prop:=fun _ _=>False
 ct:St->Hp->Prop:=fun _ _=>False
abbrev TS:=Co->St->Hp->Prop
def EP(X:Cx)(pins:List (Addr×Obj))(σ:St)(Q:VK)(u:Z7)(s':ZZ):Prop:=∃v H',Inv X pins σ H' s'/\eM v u/\Q v H'
def TP(X:Cx)(pins:List (Addr×Obj))(σ:St)(Q:Bool->Hp->Prop)(b:Bool)(s':ZZ):Prop:=∃H',Inv X pins σ H' s'/\Q b H'
def AP(X:Cx)(pins:List (Addr×Obj))(σ:St)(Q:List V->Hp->Prop)(us:List Z7)(s':ZZ):Prop:=∃vs H',Inv X pins σ H' s'/\cU vs us/\Q vs H'
def SP(X:Cx)(pins:List (Addr×Obj))(D:Co)(f:Flow)(s':ZZ):Prop:=
 match f with
 |.next=>∃σ' H',Inv X pins σ' H' s'/\D.nx σ' H'
 |.brk=>∃σ' H',Inv X pins σ' H' s'/\D.bk σ' H'
 |.cont=>∃σ' H',Inv X pins σ' H' s'/\D.ct σ' H'
 |.ret u=>∃v σ' H',Inv X pins σ' H' s'/\eM v u/\D.rt v H'
def PE(X:Cx)(e:ZC)(t:TE):Prop:=
 ∀(pins:List (Addr×Obj)) (s:ZZ) (σ:St) (H:Hp) (Q:VK),Inv X pins σ H s->t σ H Q->wpAny (Zv X.prog X.w) X.A (eval e X.env) (EP X pins σ Q) X.xe s
def PT(X:Cx)(e:ZC)(t:TT):Prop:=
 ∀(pins:List (Addr×Obj)) (s:ZZ) (σ:St) (H:Hp) (Q:Bool->Hp->Prop),Inv X pins σ H s->t σ H Q->wpAny (Zv X.prog X.w) X.A (isTrue e X.env (eval e X.env)) (TP X pins σ Q) X.xe s
def PW(X:Cx)(e:ZC)(t:TT):Prop:=
 ∀(whole:Sem Z7) (pins:List (Addr×Obj)) (s:ZZ) (σ:St) (H:Hp) (Q:Bool->Hp->Prop),Inv X pins σ H s->t σ H Q->wpAny (Zv X.prog X.w) X.A (isTrue e X.env whole) (TP X pins σ Q) X.xe s
def PW.pt{X:Cx}{e:ZC}{t:TT}(h:PW X e t):PT X e t:=h _
def PA(X:Cx)(es:List ZC)(t:TA):Prop:=
 ∀(pos:Pos) (pins:List (Addr×Obj)) (s:ZZ) (σ:St) (H:Hp) (Q:List V->Hp->Prop),Inv X pins σ H s->t σ H Q->wpAny (Zv X.prog X.w) X.A (spliced (Zf pos (ZX es X.env))) (AP X pins σ Q) X.xe s
def PS(X:Cx)(st:Zw)(t:TS):Prop:=
 ∀(pins:List (Addr×Obj)) (s:ZZ) (σ:St) (H:Hp) (D:Co),Inv X pins σ H s->t D σ H->wpAny (Zv X.prog X.w) X.A (exec st X.env) (SP X pins D) X.xe s
def PSs(X:Cx)(st:List Zw)(t:TS):Prop:=
 ∀(pins:List (Addr×Obj)) (s:ZZ) (σ:St) (H:Hp) (D:Co),Inv X pins σ H s->t D σ H->wpAny (Zv X.prog X.w) X.A (execs st X.env) (SP X pins D) X.xe s
theorem thn{α:Type}{t:Sem α}{Q Q':α->ZZ->Prop}{M:Model}{A:Za}{E:Z7->ZZ->Prop}{s:ZZ}(h:wpAny M A t Q E s)(hQ:∀a s,Q a s->Q' a s):wpAny M A t Q' E s:=Zn h hQ fun _ _ x=>x
section
variable{X:Cx}
def Nw(i:Nat):TE:=fun σ H Q=>∃v,σ[i]?=some (some v)/\Q v H
def tC(v:V):TE:=fun _ H Q=>Q v H
theorem Lq{i:Nat}{x:Str}{pos:Pos}(hN:X.N[i]?=some x)(hv:Vis X.env.scope x)(hd:(x == ("__debug__":Str))=false:=by decide)(hcd:(x == ("__classdict__":Str))=false:=by decide):PE X (.Name x pos) (Nw i):=by
 intro pins s σ H Q I h;obtain⟨v,e,h⟩:=h;obtain⟨m,hn,hl⟩:=I.loc;obtain⟨u,r,l⟩:=hl i x v hN e hv;have fin:EP X pins σ Q u s:=⟨v,H,I,r,h⟩;rcases l with⟨hk,hm⟩|⟨hk,c,hc,hcell⟩
 ·exact wpAny_Name (wpAny_loadName_local I.ok.kind hk hn hm fin) hd
 ·rcases hk with hk|hk
  ·exact wpAny_Name (wpAny_loadName_cell I.ok.kind hk hc hcell fin) hd
  ·exact wpAny_Name (wpAny_loadName_free I.ok.kind hk hc hcell fin hcd) hd
theorem LA{i j pos}:PE X (.Constant (.int i) j pos) (tC (.int i)):=fun _ _ _ H _ I h=>wpAny_Constant_int ⟨.int i,H,I.tok _,⟨_,rfl⟩,h⟩
def PH{b j pos}:PE X (.Constant (.bool b) j pos) (tC (.bl b)):=fun _ _ _ H _ I h=>Constant_bool ⟨.bl b,H,I,rfl,h⟩
def Ly{j pos}:PE X (.Constant .none j pos) (tC .non):=fun _ _ _ H _ I h=>Constant_none ⟨.non,H,I,rfl,h⟩
theorem Lu{x j pos}:PE X (.Constant (.str x) j pos) (tC (.str x)):=fun _ _ _ H _ I h=>Calls.Constant_str ⟨.str x,H,I.tok _,⟨_,rfl⟩,h⟩
def Gl(X:Cx)(x:Str):Prop:=X.env.kindOf x=some .globalImplicit
theorem mY{E:Z7->ZZ->Prop}{pins:List (Addr×Obj)}{s:ZZ}{σ:St}{H:Hp}{x:Str}{u:Z7}{pos:Pos}{Q:Z7->ZZ->Prop}(I:Inv X pins σ H s)(hg:Gl X x)(hm:X.mg x=some u)(h:Q u s)
  (hd:(x == ("__debug__":Str))=false:=by decide):wpAny (Zv X.prog X.w) X.A (eval (.Name x pos) X.env) Q E s:=
 Calls.Name_function_global I.ok.kind hg (Calls.loadGlobal_global (by rw[I.ok.glob];exact I.mod.glob.keeps I.bk) hm h) hd
theorem u9{E:Z7->ZZ->Prop}{pins:List (Addr×Obj)}{s:ZZ}{σ:St}{H:Hp}{x:Str}{u:Z7}{pos:Pos}{Q:Z7->ZZ->Prop}(I:Inv X pins σ H s)(hg:Gl X x)(hm:X.mg x=none)(hv:Zc x=some u)(h:Q u s)
  (hn:x≠"__name__":=by decide) (hd:(x == ("__debug__":Str))=false:=by decide):wpAny (Zv X.prog X.w) X.A (eval (.Name x pos) X.env) Q E s:=by
 obtain⟨mb,h1,h2⟩:=I.mod.blt;exact Calls.Name_function_global I.ok.kind hg (Calls.loadGlobal_builtin (by rw[I.ok.glob];exact I.mod.glob.keeps I.bk) hm (by rw[I.ok.blt];exact h1.keeps I.bk) ((h2 x hn).trans hv) h) hd
theorem we{x:Str}{v:V}{u:Z7}{pos:Pos}(hg:Gl X x)(hm:X.mg x=some u)(r:eM v u)(hd:(x == ("__debug__":Str))=false:=by decide):PE X (.Name x pos) (tC v):=
 fun _ _ _ H _ I h=>mY I hg hm ⟨v,H,I,r,h⟩ hd
theorem HF{x:Str}{v:V}{u:Z7}{pos:Pos}(hg:Gl X x)(hm:X.mg x=none)(hv:Zc x=some u)(r:eM v u)(hn:x≠"__name__":=by decide)(hd:(x == ("__debug__":Str))=false:=by decide):PE X (.Name x pos) (tC v):=
 fun _ _ _ H _ I h=>u9 I hg hm hv ⟨v,H,I,r,h⟩ hn hd
variable{a b:ZC}{ta tb:TE}{pos:Pos}
def tB(t:TE):TT:=fun σ H Q=>t σ H fun x H1=>∃c,x=.bl c/\Q c H1
theorem Lf{e:ZC}{t:TE}(h:PE X e t)(he:∀whole,isTrue e X.env whole=(do let v <-whole;standAt e.pos;holding [v] (truthy v)):=by intro _;rfl):PT X e (tB t):=by
 intro pins s σ H Q I hw;refine isTrue_plain (thn (h pins s σ H _ I hw) fun v s1 ⟨x,H1,I1,r1,q1⟩=>?_) (he _);obtain⟨d,rfl,q⟩:=q1;cases r1;exact wpAny_truthy_bool ⟨H1,I1,q⟩
variable{tA tB':TT}{rest:List ZC}
def Q1(t u:TT):TT:=fun σ H Q=>t σ H fun c H1=>if c=true then u σ H1 Q else Q false H1
def tOr(t u:TT):TT:=fun σ H Q=>t σ H fun c H1=>if c=true then Q true H1 else u σ H1 Q
def QX(t:TT):TT:=fun σ H Q=>t σ H fun c H1=>Q (!c) H1
theorem Hj(ha:PT X a tA):PW X (.BoolOp .And [a] pos) tA:=by
 intro wh pins s σ H Q I h;refine isTrue_and (thn (ha pins s σ H Q I h) fun c s1 e=>?_);cases c with
 |true=>exact isTrue_and_nil e
 |false=>exact e
theorem Ld(ha:PT X a tA):PW X (.BoolOp .Or [a] pos) tA:=by
 intro wh pins s σ H Q I h;refine isTrue_or (thn (ha pins s σ H Q I h) fun c s1 e=>?_);cases c with
 |false=>exact isTrue_or_nil e
 |true=>exact e
theorem Le(ha:PT X a tA)(hb:PW X (.BoolOp .And (b::rest) pos) tB'):PW X (.BoolOp .And (a::b::rest) pos) (Q1 tA tB'):=by
 intro wh pins s σ H Q I h;refine isTrue_and (thn (ha pins s σ H _ I h) fun c s1 ⟨H1,I1,q1⟩=>?_);cases c with
 |true=>exact hb wh pins s1 σ H1 Q I1 q1
 |false=>exact⟨H1,I1,q1⟩
theorem Pr(ha:PT X a tA)(hb:PW X (.BoolOp .Or (b::rest) pos) tB'):PW X (.BoolOp .Or (a::b::rest) pos) (tOr tA tB'):=by
 intro wh pins s σ H Q I h;refine isTrue_or (thn (ha pins s σ H _ I h) fun c s1 ⟨H1,I1,q1⟩=>?_);cases c with
 |true=>exact⟨H1,I1,q1⟩
 |false=>exact hb wh pins s1 σ H1 Q I1 q1
theorem Lg(ha:PT X a tA):PT X (.UnaryOp .Not a pos) (QX tA):=by
 intro pins s σ H Q I h;exact isTrue_not (ha pins s σ H (fun c H1=>Q (!c) H1) I h)
def Ky(ta tb:TE):TE:=fun σ H Q=>ta σ H fun x H1=>∃c,x=.bl c/\if c=true then tb σ H1 Q else Q (.bl false) H1
def Kr(ta:TE):TE:=fun σ H Q=>ta σ H fun x H1=>∃c,x=.bl c/\Q (.bl (!c)) H1
def Lw{op}{t:TE}(h:PE X a t):PE X (.BoolOp op [a] pos) t:=fun pins s σ H Q I hw=>BoolOp_one (h pins s σ H Q I hw)
theorem LC(ha:PE X a ta)(hb:PE X (.BoolOp .And (b::rest) pos) tb):PE X (.BoolOp .And (a::b::rest) pos) (Ky ta tb):=by
 intro pins s σ H Q I h;refine BoolOp_and (thn (ha pins s σ H _ I h) fun v s1 hz=>?_);obtain⟨x,H1,I1,r1,q1⟩:=hz;obtain⟨c,rfl,q1⟩:=q1;cases r1;refine wpAny_truthy_bool ?_;cases c with
 |true=>exact hb pins s1 σ H1 Q I1 q1
 |false=>exact⟨.bl false,H1,I1,rfl,q1⟩
theorem Lx(ha:PE X a ta):PE X (.UnaryOp .Not a pos) (Kr ta):=by
 intro pins s σ H Q I h;refine UnaryOp_ (thn (ha pins s σ H _ I h) fun v s1 hz=>?_);obtain⟨x,H1,I1,r1,q1⟩:=hz;obtain⟨c,rfl,q1⟩:=q1;cases r1;exact not_of (wpAny_truthy_bool ⟨.bl (!c),H1,I1,rfl,q1⟩)
def tIf(t:TT)(ta tb:TE):TE:=fun σ H Q=>t σ H fun c H1=>if c=true then ta σ H1 Q else tb σ H1 Q
theorem DK{c:ZC}(hc:PT X c tA)(ha:PE X a ta)(hb:PE X b tb):PE X (.IfExp c a b pos) (tIf tA ta tb):=by
 intro pins s σ H Q I h;refine wpAny_IfExp (thn (hc pins s σ H _ I h) fun d s1 ⟨H1,I1,q1⟩=>?_);cases d with
 |true=>exact ha pins s1 σ H1 Q I1 q1
 |false=>exact hb pins s1 σ H1 Q I1 q1
end
def SqL(K:Z6)(H:Hp)(a:Addr)(xs:List V):Prop:=
 Rd H a (.lst xs)\/
  ∃(o:Obj) (its:Array Z7) (n:Nat),K.lookup a=some o/\o.cls=.type "list"/\o.dict=none/\o.data=.seq its n/\its.size<=ZP/\cU xs its.toList
def SqT(K:Z6)(H:Hp)(a:Addr)(xs:List V):Prop:=
 Rd H a (.tup xs)\/
  ∃(o:Obj) (its:Array Z7) (n:Nat),K.lookup a=some o/\(o.cls=.type "tuple"/\o.dict=none)/\o.data=.seq its n/\its.size<=ZP/\cU xs its.toList
def Sv:Z7->Option V
 |.none=>some .non
 |.bool b=>some (.bl b)
 |.int i _=>some (.int i)
 |.str x _=>some (.str x)
 |.bytes b _=>some (.byt b)
 |.float b _=>some (.flt b)
 |.ref a=>some (.ref a)
 |.type n=>some (.ty n)
 |_=>none
theorem eM.abs{x:V}{u:Z7}(r:eM x u):Sv u=some x:=by
 cases x with
 |non=>cases r;rfl
 |bl _=>cases r;rfl
 |int _=>obtain⟨t,rfl⟩:=r;rfl
 |str _=>obtain⟨t,rfl⟩:=r;rfl
 |byt _=>obtain⟨t,rfl⟩:=r;rfl
 |flt _=>obtain⟨t,rfl⟩:=r;rfl
 |ref _=>cases r;rfl
 |ty _=>cases r;rfl
def eM.inj{x y:V}{u:Z7}(r:eM x u)(q:eM y u):x=y:=Option.some.inj (r.abs.symm.trans q.abs)
theorem cU.inj:∀{xs ys:List V} {us:List Z7},cU xs us->cU ys us->xs=ys
 |_,_,_,.nil,.nil=>rfl
 |_,_,_,.cons r t,.cons r' t'=>by rw[r.inj r',cU.inj t t']
section
variable{X:Cx}{pins:List (Addr×Obj)}{σ:St}{H:Hp}{s:ZZ}{a:Addr}{xs ys:List V}
def SqL.of{K:Z6}(h:H a=some (.lst xs)):SqL K H a xs:=.inl (.inl h)
def SqT.of{K:Z6}(h:H a=some (.tup xs)):SqT K H a xs:=.inl (.inl h)
theorem Inv.list(I:Inv X pins σ H s)(h:SqL X.K H a xs):∃its:List Z7,cU xs its/\PlainL s.heap a its.toArray/\xs.length<=ZP:=by
 rcases h with h|⟨o,its,n,hk,hc,hd,hs,hz,r⟩
 ·obtain⟨z,its,n,r,e⟩:=h.ok I.hok;exact⟨its,r,⟨_,n,e,rfl,rfl,rfl⟩,z⟩
 ·refine⟨its.toList,r,⟨o,n,I.kIn a o hk,hc,hd,by simpa using hs⟩,?_⟩;have e:=r.length;simp only[Array.length_toList]at e;omega
theorem Inv.tuple(I:Inv X pins σ H s)(h:SqT X.K H a xs):∃its:List Z7,cU xs its/\IsTup s.heap a its.toArray/\xs.length<=ZP:=by
 rcases h with h|⟨o,its,n,hk,hc,hs,hz,r⟩
 ·obtain⟨z,its,r,p⟩:=h.ok I.hok;exact⟨its,r,p.tup,z⟩
 ·refine⟨its.toList,r,⟨o,I.kIn a o hk,hc.1,n,by simpa using hs⟩,?_⟩;have e:=r.length;simp only[Array.length_toList]at e;omega
theorem Inv.list_inj(I:Inv X pins σ H s)(h:SqL X.K H a xs)(h':SqL X.K H a ys):xs=ys:=by
 obtain⟨its,r,⟨o,n,e,_,_,d⟩,_⟩:=I.list h;obtain⟨its',r',⟨o',n',e',_,_,d'⟩,_⟩:=I.list h';rw[e]at e';cases e';rw[d]at d';injection d' with d1 _;have:its=its':=by simpa using congrArg Array.toList d1
 subst this;exact r.inj r'
theorem Inv.tuple_inj(I:Inv X pins σ H s)(h:SqT X.K H a xs)(h':SqT X.K H a ys):xs=ys:=by
 obtain⟨its,r,⟨o,e,_,n,d⟩,_⟩:=I.tuple h;obtain⟨its',r',⟨o',e',_,n',d'⟩,_⟩:=I.tuple h';rw[e]at e';cases e';rw[d]at d';injection d' with d1 _;have:its=its':=by simpa using congrArg Array.toList d1
 subst this;exact r.inj r'
end
abbrev Cx.wish(X:Cx)(E:Z7->ZZ->Prop):Cx:={ X with xe:=E }
abbrev Cx.nox(X:Cx):Cx:=X.wish fun _ _=>False
theorem Cx.Ok.wish{X:Cx}(ok:X.Ok)(E:Z7->ZZ->Prop):(X.wish E).Ok:=
 ⟨ok.mod,ok.kind,ok.glob,ok.blt,ok.above,ok.inj,ok.has,ok.cab,ok.hd,ok.frames,ok.stk,ok.exf,ok.bs,ok.bsz,ok.noex,ok.exfs,ok.funs,ok.frf⟩
theorem Cx.Ok.unwish{X:Cx}{E:Z7->ZZ->Prop}(ok:(X.wish E).Ok):X.Ok:=
 ⟨ok.mod,ok.kind,ok.glob,ok.blt,ok.above,ok.inj,ok.has,ok.cab,ok.hd,ok.frames,ok.stk,ok.exf,ok.bs,ok.bsz,ok.noex,ok.exfs,ok.funs,ok.frf⟩
section
variable{X:Cx}{pins:List (Addr×Obj)}{σ:St}{H:Hp}{s:ZZ}{E:Z7->ZZ->Prop}
theorem Inv.wish(I:Inv X pins σ H s)(E:Z7->ZZ->Prop):Inv (X.wish E) pins σ H s:=⟨I.ok.wish E,I.os,I.bare,I.base,I.loc,I.cell,I.free,I.freeC,I.pin,I.hok,I.len⟩
theorem Inv.unwish(I:Inv (X.wish E) pins σ H s):Inv X pins σ H s:=⟨I.ok.unwish,I.os,I.bare,I.base,I.loc,I.cell,I.free,I.freeC,I.pin,I.hok,I.len⟩
theorem SP.unwish{D:Co}{f:Flow}{s':ZZ}(h:SP (X.wish E) pins D f s'):SP X pins D f s':=by
 cases f with
 |next=>obtain⟨σ',H',I,q⟩:=h;exact⟨σ',H',I.unwish,q⟩
 |brk=>obtain⟨σ',H',I,q⟩:=h;exact⟨σ',H',I.unwish,q⟩
 |cont=>obtain⟨σ',H',I,q⟩:=h;exact⟨σ',H',I.unwish,q⟩
 |ret u=>obtain⟨v,σ',H',I,r,q⟩:=h;exact⟨v,σ',H',I.unwish,r,q⟩
theorem PSs.nox{st:List Zw}{t:TS}(h:PSs X.nox st t):PSs X st t:=fun pins s σ H D I hw=>
 Zn (h pins s σ H D (I.wish _) hw) (fun _ _ q=>q.unwish) fun _ _ z=>False.elim z
end
section
variable{X:Cx}{st:Zw}{rest:List Zw}{t u:TS}{e:ZC}{te:TE}{pos:Pos}
def Ks:TS:=fun D σ H=>D.nx σ H
def QU(t u:TS):TS:=fun D σ H=>t { D with nx:=u D } σ H
def Hm:PSs X [] Ks:=fun _ _ σ H _ I h=>wpAny_execs_nil ⟨σ,H,I,h⟩
theorem Dx(h1:PS X st t)(h2:PSs X rest u):PSs X (st::rest) (QU t u):=by
 intro pins s σ H D I h;refine wpAny_execs_cons (thn (h1 pins s σ H { D with nx:=u D } I h) fun f s1 q=>?_);cases f with
 |next=>
  obtain⟨σ',H',I',q⟩:=q;exact h2 pins s1 σ' H' D I' q
 |ret v=>exact q
 |brk=>exact q
 |cont=>exact q
theorem Hl(h1:PS X st t):PSs X [st] t:=by
 intro pins s σ H D I h;refine wpAny_execs_cons (thn (h1 pins s σ H D I h) fun f s1 q=>?_);cases f with
 |next=>exact wpAny_execs_nil q
 |ret v=>exact q
 |brk=>exact q
 |cont=>exact q
theorem Inv.quiet{pins:List (Addr×Obj)}{σ:St}{H:Hp}{s:ZZ}(I:Inv X pins σ H s):interactive X.env=false:=by simp[interactive,I.ok.kind]
def Kt(te:TE):TS:=fun D σ H=>te σ H fun _ H1=>D.nx σ H1
theorem Ho(he:PE X e te)(hs:X7 e none pos.line X.env=pure false:=by rfl):PS X (.Expr e pos) (Kt te):=by
 intro pins s σ H D I h;exact wpAny_Expr_any (thn (he pins s σ H _ I h) fun v s1 ⟨x,H1,I1,r1,q1⟩=>⟨σ,H1,I1,q1⟩) I.quiet hs
def QV(te:TE):TS:=fun D σ H=>te σ H D.rt
theorem Lj(he:PE X e te):PS X (.Return (some e) pos) (QV te):=by
 intro pins s σ H D I h;exact wpAny_Return_some (thn (he pins s σ H _ I h) fun v s1 ⟨x,H1,I1,r1,q1⟩=>⟨x,σ,H1,I1,r1,q1⟩)
def QZ(c:TT)(t u:TS):TS:=fun D σ H=>c σ H fun b H1=>if b=true then t D σ H1 else u D σ H1
theorem Pt{c:ZC}{a b:List Zw}{tc:TT}(hc:PT X c tc)(ha:PSs X a t)(hb:PSs X b u):PS X (.If c a b pos) (QZ tc t u):=by
 intro pins s σ H D I h;refine wpAny_If (thn (hc pins s σ H _ I h) fun d s1 ⟨H1,I1,q1⟩=>?_);cases d with
 |true=>exact ha pins s1 σ H1 D I1 q1
 |false=>exact hb pins s1 σ H1 D I1 q1
def xM:TS:=fun _ _ _=>False
def DB:PS X st xM:=fun _ _ _ _ _ _ h=>h.elim
def AQ{sts:List Zw}:PSs X sts xM:=fun _ _ _ _ _ _ h=>h.elim
end
abbrev TG:=V->St->Hp->(St->Hp->Prop)->Prop
abbrev TGs:=List V->St->Hp->(St->Hp->Prop)->Prop
def PG(X:Cx)(target:ZC)(t:TG):Prop:=
 ∀(pins:List (Addr×Obj)) (s:ZZ) (σ:St) (H:Hp) (v:V) (u:Z7) (Q:St->Hp->Prop),Inv X pins σ H s->eM v u->t v σ H Q->
  wpAny (Zv X.prog X.w) X.A (assign target X.env u) (fun _ s'=>∃σ' H',Inv X pins σ' H' s'/\Q σ' H') X.xe s
def PGs(X:Cx)(ts:List ZC)(t:TGs):Prop:=
 ∀(pins:List (Addr×Obj)) (s:ZZ) (σ:St) (H:Hp) (vs:List V) (us:List Z7) (Q:St->Hp->Prop),Inv X pins σ H s->cU vs us->t vs σ H Q->
  wpAny (Zv X.prog X.w) X.A (assignInOrder ((assignEach ts X.env).map (·.2)) us) (fun _ s'=>∃σ' H',Inv X pins σ' H' s'/\Q σ' H') X.xe s
abbrev NM:=V->V->V->Hp->(Hp->Prop)->Prop
def QD(X:Cx)(t:NM):Prop:=
 ∀(pins:List (Addr×Obj)) (s:ZZ) (σ:St) (H:Hp) (o i v:V) (ov iv u:Z7) (Q:Hp->Prop),Inv X pins σ H s->eM o ov->eM i iv->eM v u->t o i v H Q->
  wpAny (Zv X.prog X.w) X.A (setItem ov iv u) (fun _ s'=>∃H',Inv X pins σ H' s'/\Q H') X.xe s
section
variable{X:Cx}{pos:Pos}
def zB(i:Nat):TG:=fun v σ H Q=>Q (σ.set i (some v)) H
theorem HA{i:Nat}{x:Str}(hN:X.N.Nodup)(hi:X.N[i]?=some x)(hx:Loc X.env.scope x)(hf:X.fn x=true\/X.env.scope.names.lookup x=some .local:=by first|exact .inl rfl|exact .inr rfl|assumption):PG X (.Name x pos) (zB i):=by
 intro pins s σ H v u Q I r h;exact wpAny_assign_Name (oP I hN hi hx r (fun s' I'=>⟨_,H,I',h⟩) hf)
def Ro:TGs:=fun vs σ H Q=>vs=[]/\Q σ H
def ML(t:TG)(u:TGs):TGs:=fun vs σ H Q=>∃v r,vs=v::r/\t v σ H fun σ' H'=>u r σ' H' Q
theorem Hz:PGs X [] Ro:=by
 intro pins s σ H vs us Q I r h;obtain⟨e,h⟩:=h;subst e;cases r;exact assignInOrder_nil ⟨σ,H,I,h⟩
theorem DG{e:ZC}{es:List ZC}{t:TG}{u:TGs}(h1:PG X e t)(h2:PGs X es u)
  (hs:(assignEach (e::es) X.env).map (·.2)=assign e X.env::(assignEach es X.env).map (·.2):=by rfl):PGs X (e::es) (ML t u):=by
 intro pins s σ H vs us Q I r h;obtain⟨v,vr,e1,h⟩:=h;subst e1;cases r with
 |cons r rr=>
  rw[hs];refine assignInOrder_cons (thn (h1 pins s σ H _ _ _ I r h) fun _ s1 hz=>?_);obtain⟨σ1,H1,I1,q1⟩:=hz;exact h2 pins s1 σ1 H1 _ _ Q I1 rr q1
def Rl(K:Z6)(n:Nat)(t:TGs):TG:=fun v σ H Q=>∃a xs,v=.ref a/\SqT K H a xs/\xs.length=n/\t xs σ H Q
theorem Lo{es:List ZC}{k:Nat}{t:TGs}{n:Nat}(hc:X.calm=true)(h:PGs X es t)
  (hn:(assignEach es X.env).length=n:=by rfl) (hst:(assignEach es X.env).findIdx? (·.1)=none:=by rfl):PG X (.Tuple es k pos) (Rl X.K n t):=by
 intro pins s σ H v u Q I r hw;obtain⟨a,xs,e1,hq,hl,hw⟩:=hw;subst e1;cases r;obtain⟨its,rv,ht,hz⟩:=I.tuple hq;refine assign_Tuple_tuple (I.ok.hd hc) ht (by simp[hn,<-hl,rv.length]) hst fun h' hx=>?_;have I1:Inv X pins σ H { s with heap:=h' }:=I.kept (t':=s.toks) fun b o e=>hx b o (Zj (ZF e)) e;exact h pins _ σ H xs _ Q I1 (by simpa using rv) hw
def Rm(to ti:TE)(t:NM):TG:=fun v σ H Q=>to σ H fun o H1=>ti σ H1 fun i H2=>t o i v H2 fun H3=>Q σ H3
theorem Lp{o i:ZC}{to ti:TE}{t:NM}(ho:PE X o to)(hi:PE X i ti)(hs:QD X t)
  (ha:∀v,assign (.Subscript o i pos) X.env v=(do
   let ov <-holding [v] (eval o X.env)
   let iv <-holding [v,ov] (eval i X.env)
   standAt pos
   holding [v,ov,iv] (setItem ov iv v)
   release [v,ov,iv] []):=by intro _;rfl):PG X (.Subscript o i pos) (Rm to ti t):=by
 intro pins s σ H v u Q I r h;rw[ha];refine ZQ (wpAny_holding (thn (ho pins s σ H _ I h) fun ov s1 hz=>?_));obtain⟨x,H1,I1,r1,q1⟩:=hz;refine ZQ (wpAny_holding (thn (hi pins s1 σ H1 _ I1 q1) fun iv s2 hz=>?_));obtain⟨y,H2,I2,r2,q2⟩:=hz;refine ZQ (wpAny_standAt (ZQ (wpAny_holding (thn (hs pins s2 σ H2 x y v ov iv u _ I2 r1 r2 r q2) fun _ s3 ⟨H3,I3,q3⟩=>?_))));exact wpAny_release ⟨σ,H3,I3,q3⟩
def Kx(te:TE)(g:TG):TS:=fun D σ H=>te σ H fun x H1=>g x σ H1 D.nx
theorem Lm{tg e:ZC}{te:TE}{g:TG}(he:PE X e te)(hg:PG X tg g)(hs:swapsWithSole [tg] e pos.line X.env=pure false:=by rfl)(hw:swappedStores [tg] e X.env=pure none:=by rfl)
  (h1:(assignEach [tg] X.env).map (·.2)=[assign tg X.env]:=by rfl):PS X (.Assign [tg] e pos) (Kx te g):=by
 intro pins s σ H D I h;refine wpAny_Assign_stores (thn (he pins s σ H _ I h) fun v s1 hz=>?_) hs hw;obtain⟨x,H1,I1,r1,q1⟩:=hz;rw[h1];exact thn (hg pins s1 σ H1 x v _ I1 r1 q1) fun _ s2 q=>q
theorem Li{i:Nat}{x:Str}{e:ZC}{te:TE}{pos':Pos}(hN:X.N.Nodup)(hi:X.N[i]?=some x)(hx:Loc X.env.scope x)(he:PE X e te)(hs:X7 e (some (.Name x pos')) pos.line X.env=pure false:=by rfl)(hf:X.fn x=true\/X.env.scope.names.lookup x=some .local:=by first|exact .inl rfl|exact .inr rfl|assumption) :
  PS X (.Assign [.Name x pos'] e pos) (Kx te (zB i)):=by
 intro pins s σ H D I h;refine wpAny_Assign_Name (thn (he pins s σ H _ I h) fun v s1 hz=>?_) hs;obtain⟨y,H1,I1,r1,q1⟩:=hz;exact oP I1 hN hi hx r1 (fun s2 I2=>⟨_,H1,I2,q1⟩) hf
def An(c:TT)(tb:TS):TS:=fun D σ H=>∃W:Nat->St->Hp->Prop,(∃m,W m σ H)/\∀m σ H,W m σ H->
 c σ H fun b H1=>if b=true then ∃N:St->Hp->Prop,(∀σ' H',N σ' H'->∃m',m'<m/\W m' σ' H')/\tb { D with nx:=N,ct:=N,bk:=D.nx } σ H1 else D.nx σ H1
theorem Dy{c:ZC}{body:List Zw}{tc:TT}{tb:TS}(hp:PassesOwn (Zv X.prog X.w) X.A X.env X.xe)(hc:PT X c tc)(hb:PSs X body tb):PS X (.While c body [] pos) (An tc tb):=by
 intro pins s σ H D I h;obtain⟨W,⟨m0,w0⟩,turn⟩:=h;refine wpAny_While (codeAny_whileLoop (fun n s'=>∃σ' H',Inv X pins σ' H' s'/\W n σ' H') ?_ m0 ⟨σ,H,I,w0⟩);rintro n s1 ⟨σ1,H1,I1,w1⟩;refine wpAny_passesOwn hp (thn (hc pins s1 σ1 H1 _ I1 (turn n σ1 H1 w1)) fun b s2 ⟨H2,I2,q2⟩=>?_);cases b with
 |true=>
  obtain⟨N,hN,q2⟩:=q2;rw[if_pos rfl];refine wpAny_passesOwn hp (thn (hb pins s2 σ1 H2 _ I2 q2) fun f s3 q3=>?_);cases f with
  |next=>
   obtain⟨σ3,H3,I3,n3⟩:=q3;obtain⟨m',hm,w3⟩:=hN σ3 H3 n3;exact⟨m',hm,σ3,H3,I3,w3⟩
  |cont=>
   obtain⟨σ3,H3,I3,n3⟩:=q3;obtain⟨m',hm,w3⟩:=hN σ3 H3 n3;exact⟨m',hm,σ3,H3,I3,w3⟩
  |brk=>exact q3
  |ret v=>exact q3
 |false=>
  rw[if_neg ZL];exact wpAny_execs_nil ⟨σ1,H2,I2,q2⟩
end
structure It where
 go:Nat->Hp->Prop
 yld:Nat->Hp->V->Hp->Prop
 stop:Nat->Hp->Prop
def zV(X:Cx)(pins:List (Addr×Obj))(H:Hp)(b:Addr):Prop:=
 H b=none/\b≠X.env.locals/\b∉X.fs/\(b∈X.ex\/X.s₀.heap.objs.size<=b)/\(∀x c,X.env.cells.lookup x=some c->c≠b)/\∀p∈X.pn++pins,p.1≠b
theorem Inv.fpOk{X:Cx}{pins:List (Addr×Obj)}{σ:St}{H H':Hp}{s:ZZ}{b:Addr}(I:Inv X pins σ H s)(hb:s.heap.objs.size<=b)(hn:H' b=none):zV X pins H' b:=by
 refine⟨hn,Nat.ne_of_gt (Zz I.lt hb),I.nofs hb,.inr (Zl I.sz hb),fun x c e z=>?_,fun p hp z=>?_⟩
 ·obtain⟨v,q⟩:=I.cell x c e;exact absurd (Zz q.lt (by rw[z];exact hb)) (XF _)
 ·exact absurd (Zz (ZF (I.pin p hp).1) (by rw[z];exact hb)) (XF _)
structure Jj(P:ZS)(w:Zg)(K:Z6)(tg:ZC)(J:It)(fp:List Addr)(it:Addr)(tn:Nat->Heap->Prop):Prop where
 mem:it∈fp
 obj:∀i h,tn i h->∀b∈fp,∃o,h.get? b=some o/\∀v,o.data≠.cell v
 keep:∀i h h',tn i h->(∀b∈fp,∀o,h.get? b=some o->h'.get? b=some o)->tn i h'
 item:∀(X:Cx),X.prog=P->X.w=w->X.K=K->X.calm=true->∀(i:Nat) (pins:List (Addr×Obj)) (s:ZZ) (σ:St) (H:Hp) (E:Z7->ZZ->Prop),Inv X pins σ H s->(∀b∈fp,zV X pins H b)->tn i s.heap->J.go i H->
  wpAny (Zv P w) X.A (pyNext (.ref it)) (fun r s1=>∃u,r=some u/\
   wpAny (Zv P w) X.A (letOwnedTupleGo tg (.ref it) u) (fun _ s2=>∃x H',Inv X pins σ H' s2/\eM x u/\J.yld i H x H'/\tn (i+1) s2.heap/\∀b∈fp,H' b=none) E s1) E s
 done:∀(X:Cx),X.prog=P->X.w=w->X.K=K->X.calm=true->∀(i:Nat) (pins:List (Addr×Obj)) (s:ZZ) (σ:St) (H:Hp) (E:Z7->ZZ->Prop),Inv X pins σ H s->(∀b∈fp,zV X pins H b)->tn i s.heap->J.stop i H->
  wpAny (Zv P w) X.A (pyNext (.ref it)) (fun r s1=>r=none/\Inv X pins σ H s1) E s
 self:∀(A:Za) (i:Nat) (s:ZZ) (Q:Z7->ZZ->Prop) (E:Z7->ZZ->Prop),tn i s.heap->Q (.ref it) s->wpAny (Zv P w) A (pyIter (.ref it)) Q E s
abbrev TI:=St->Hp->(It->Hp->Prop)->Prop
def PIE(X:Cx)(pins:List (Addr×Obj))(σ:St)(tg:ZC)(R:It->Hp->Prop)(itv:Z7)(s2:ZZ):Prop:=
 ∃(it:Addr) (fp:List Addr) (tn:Nat->Heap->Prop) (J:It) (H':Hp),itv=.ref it/\Inv X pins σ H' s2/\Jj X.prog X.w X.K tg J fp it tn/\tn 0 s2.heap/\(∀b∈fp,zV X pins H' b)/\R J H'
def PI(X:Cx)(tg iter:ZC)(wi:TI):Prop:=
 ∀(pins:List (Addr×Obj)) (s:ZZ) (σ:St) (H:Hp) (R:It->Hp->Prop),Inv X pins σ H s->wi σ H R->
  wpAny (Zv X.prog X.w) X.A (eval iter X.env) (fun v s1=>wpAny (Zv X.prog X.w) X.A (pyIter v) (PIE X pins σ tg R) X.xe s1) X.xe s
theorem Eh {M : Model} {A : Za} {E : Z7 -> ZZ -> Prop} {s : ZZ} {tg : ZC} {it : Addr} {u : Z7} {o : Obj} {n : String} {vs : Array Z7} {Q : Unit -> ZZ -> Prop} (ho : s.heap.get? it = some o) (hc : o.cls = .type n) (hd : o.data = .fields vs)
    (hn:["enumerate","zip","dict_itemiterator","dict_reverseitemiterator","odict_iterator","itertools.zip_longest","itertools.pairwise"].contains n=false) (hQ:Q () s):wpAny M A (letOwnedTupleGo tg (.ref it) u) Q E s:=by
  unfold letOwnedTupleGo;cases tg<;>first
    |exact ZO hQ
    | (cases u <;> first
        |exact ZO hQ
        | (refine ZQ (wpAny_load ho ?_)
           rw[hc,hd];show wpAny M A (if (["enumerate","zip","dict_itemiterator","dict_reverseitemiterator","odict_iterator","itertools.zip_longest","itertools.pairwise"].contains n&&vs[0]? == some (rawInt _))=true then _ else _) Q E s;rw[if_neg (by intro h;rw[hn,Bool.false_and]at h;cases h)];exact ZO hQ))
def Itl(K:Z6)(a:Addr):It:=
 ⟨fun i H=>∃xs x,SqL K H a xs/\xs[i]?=some x,fun i H x H'=>H'=H/\∀xs,SqL K H a xs->xs[i]?=some x,fun i H=>∃xs,SqL K H a xs/\xs.length<=i⟩
def Itt(K:Z6)(a:Addr):It:=
 ⟨fun i H=>∃xs x,SqT K H a xs/\xs[i]?=some x,fun i H x H'=>H'=H/\∀xs,SqT K H a xs->xs[i]?=some x,fun i H=>∃xs,SqT K H a xs/\xs.length<=i⟩
def Itr(lo:Int)(n:Nat):It:=⟨fun i _=>i<n,fun i H x H'=>H'=H/\x=.int (lo+i),fun i _=>n<=i⟩
theorem Ak{P:ZS}{w:Zg}{K:Z6}{tg:ZC}(a it:Addr):Jj P w K tg (Itl K a) [it] it (fun i h=>h.IsListIter it a i) where
 mem:=by simp
 obj:=fun i h st b hb=>by
  have e:b=it:=by simpa using hb
  subst e;obtain⟨o,e,c,d⟩:=st;exact⟨o,e,fun v z=>by rw[d]at z;cases z⟩
 keep:=fun i h h' st k=>st.at fun o e=>k it (by simp) o e
 item:=by
  intro X hP hw hK hc i pins s σ H E I hf st hg;subst hP hw hK;obtain⟨xs,x,hq,hx⟩:=hg;obtain⟨its,rv,p,hz⟩:=I.list hq;obtain⟨u,hu,ru⟩:=rv.get hx;obtain⟨f0,f1,f2,f3,f4,f5⟩:=hf it (by simp);refine wpAny_pyNext_list_item st p.isList (x:=u) (by simpa using hu) fun h' st' sb=>?_;have I1:Inv X pins σ H { s with heap:=h' }:=I.turned (t':=s.toks) (fun b o hb e=>(sb.2 b hb).trans e) f0 f1 f3 f4 f5;obtain⟨o,e,c,d⟩:=id st';exact⟨u,rfl,Eh (s:={ s with heap:=h' }) e c d (by decide) ⟨x,H,I1,ru,⟨rfl,fun ys hy=>by rw[I.list_inj hy hq];exact hx⟩,st',fun b hb=>(hf b hb).1⟩⟩
 done:=by
  intro X hP hw hK hc i pins s σ H E I hf st hg;subst hP hw hK;obtain⟨xs,hq,hx⟩:=hg;obtain⟨its,rv,p,hz⟩:=I.list hq;obtain⟨f0,f1,f2,f3,f4,f5⟩:=hf it (by simp);have hl:=rv.length;exact wpAny_pyNext_list_end (I.ok.hd hc) st p.isList (by simp;omega) fun h' eb=>⟨rfl,I.turned (t':=s.toks) (fun b o hb e=>eb b o hb e) f0 f1 f3 f4 f5⟩
 self:=fun _ _ _ _ _ st h=>wpAny_pyIter_listiter st h
theorem yV{P:ZS}{w:Zg}{K:Z6}{tg:ZC}(a it:Addr):Jj P w K tg (Itt K a) [it] it (fun i h=>h.IsTupleIter it a i) where
 mem:=by simp
 obj:=fun i h st b hb=>by
  have e:b=it:=by simpa using hb
  subst e;obtain⟨o,e,c,d⟩:=st;exact⟨o,e,fun v z=>by rw[d]at z;cases z⟩
 keep:=fun i h h' st k=>st.at fun o e=>k it (by simp) o e
 item:=by
  intro X hP hw hK hc i pins s σ H E I hf st hg;subst hP hw hK;obtain⟨xs,x,hq,hx⟩:=hg;obtain⟨its,rv,p,hz⟩:=I.tuple hq;obtain⟨u,hu,ru⟩:=rv.get hx;obtain⟨f0,f1,f2,f3,f4,f5⟩:=hf it (by simp);refine wpAny_pyNext_tuple_item st (show s.heap.IsTuple a its.toArray from p) (x:=u) (by simpa using hu) fun h' st' sb=>?_;have I1:Inv X pins σ H { s with heap:=h' }:=I.turned (t':=s.toks) (fun b o hb e=>(sb.2 b hb).trans e) f0 f1 f3 f4 f5;obtain⟨o,e,c,d⟩:=id st';exact⟨u,rfl,Eh (s:={ s with heap:=h' }) e c d (by decide) ⟨x,H,I1,ru,⟨rfl,fun ys hy=>by rw[I.tuple_inj hy hq];exact hx⟩,st',fun b hb=>(hf b hb).1⟩⟩
 done:=by
  intro X hP hw hK hc i pins s σ H E I hf st hg;subst hP hw hK;obtain⟨xs,hq,hx⟩:=hg;obtain⟨its,rv,p,hz⟩:=I.tuple hq;obtain⟨f0,f1,f2,f3,f4,f5⟩:=hf it (by simp);have hl:=rv.length;exact wpAny_pyNext_tuple_end (I.ok.hd hc) st (show s.heap.IsTuple a its.toArray from p) (by simp;omega) fun h' eb=>⟨rfl,I.turned (t':=s.toks) (fun b o hb e=>eb b o hb e) f0 f1 f3 f4 f5⟩
 self:=fun _ _ _ _ _ st h=>wpAny_pyIter_tupleiter st h
theorem yW{P:ZS}{w:Zg}{K:Z6}{tg:ZC}(it:Addr)(lo:Int)(n:Nat):Jj P w K tg (Itr lo n) [it] it (fun i h=>IsRangeIter h it (lo+(i:Nat)*1) ((n:Int)-(i:Nat)) 1) where
 mem:=by simp
 obj:=fun i h st b hb=>by
  have e:b=it:=by simpa using hb
  subst e;exact⟨_,st,fun v z=>by
   have z':Data.fields _=Data.cell v:=z;cases z'⟩
 keep:=fun i h h' st k=>k it (by simp) _ st
 item:=by
  intro X hP hw hK hc i pins s σ H E I hf st hg;subst hP hw hK;obtain⟨f0,f1,f2,f3,f4,f5⟩:=hf it (by simp);have W:=Walks.range (prog:=X.prog) (w:=X.w) (I.ok.hd hc) it lo 1 n;refine W.item i s _ _ hg st fun v h' tk hv st' kk=>?_;obtain⟨t,rfl⟩:=hv;have I1:Inv X pins σ H { s with heap:=h',toks:=tk }:=I.turned (fun b o hb e=>kk b o (by simpa using hb) e) f0 f1 f3 f4 f5;refine⟨_,rfl,Eh (s:={ s with heap:=h',toks:=tk }) (n:="range_iterator") st' rfl rfl (by decide) ⟨.int (lo+i),H,I1,⟨t,?_⟩,⟨rfl,rfl⟩,st',fun b hb=>(hf b hb).1⟩⟩;rw[Int.mul_one]
 done:=by
  intro X hP hw hK hc i pins s σ H E I hf st hg;subst hP hw hK;obtain⟨f0,f1,f2,f3,f4,f5⟩:=hf it (by simp);exact wpAny_pyNext_range_end (I.ok.hd hc) st (by have:n<=i:=hg;omega) fun h' eb=>⟨rfl,I.turned (t':=s.toks) (fun b o hb e=>eb b o hb e) f0 f1 f3 f4 f5⟩
 self:=fun _ _ _ _ _ st h=>wpAny_pyIter_rangeiter st h
section
variable{X:Cx}{tg:ZC}
def MJ(K:Z6)(tl:TE):TI:=fun σ H R=>tl σ H fun x H1=>∃a,x=.ref a/\(∃xs,SqL K H1 a xs)/\R (Itl K a) H1
def Rk(K:Z6)(tl:TE):TI:=fun σ H R=>tl σ H fun x H1=>∃a,x=.ref a/\(∃xs,SqT K H1 a xs)/\R (Itt K a) H1
theorem Hy{l:ZC}{tl:TE}(hl:PE X l tl):PI X tg l (MJ X.K tl):=by
 intro pins s σ H R I h;refine thn (hl pins s σ H _ I h) fun v s1 hz=>?_;obtain⟨x,H1,I1,r1,q1⟩:=hz;obtain⟨a,e,⟨xs,hq⟩,q⟩:=q1;subst e;cases r1;obtain⟨its,rv,p,hz⟩:=I1.list hq;refine wpAny_pyIter_list p.isList ?_;refine⟨s1.heap.objs.size,[s1.heap.objs.size],_,_,H1,rfl,I1.kept (t':=s1.toks) fun b o e=>ZK _ e,Ak a _,⟨_,Zy _ rfl,rfl,rfl⟩,fun b hb=>?_,q⟩;have e:b=s1.heap.objs.size:=by simpa using hb
 subst e;exact I1.fpOk (ZD _) (I1.hok.fresh (ZD _))
theorem Ln{l:ZC}{tl:TE}(hl:PE X l tl):PI X tg l (Rk X.K tl):=by
 intro pins s σ H R I h;refine thn (hl pins s σ H _ I h) fun v s1 hz=>?_;obtain⟨x,H1,I1,r1,q1⟩:=hz;obtain⟨a,e,⟨xs,hq⟩,q⟩:=q1;subst e;cases r1;obtain⟨its,rv,p,hz⟩:=I1.tuple hq;refine wpAny_pyIter_tuple (show s1.heap.IsTuple a its.toArray from p) ?_;refine⟨s1.heap.objs.size,[s1.heap.objs.size],_,_,H1,rfl,I1.kept (t':=s1.toks) fun b o e=>ZK _ e,yV a _,⟨_,Zy _ rfl,rfl,rfl⟩,fun b hb=>?_,q⟩;have e:b=s1.heap.objs.size:=by simpa using hb
 subst e;exact I1.fpOk (ZD _) (I1.hok.fresh (ZD _))
theorem Dm{pins:List (Addr×Obj)}{σ:St}{H:Hp}{s:ZZ}{R:It->Hp->Prop}{E:Z7->ZZ->Prop}{lo hi:Int}{t u v:Tok}{tk:Nat}(I:Inv X pins σ H s)(h1:-(2^62)<=lo)(h2:lo<2^62)(h3:-(2^62)<=hi)(h4:hi<2^62)
  (q:R (Itr lo (hi-lo).toNat) H):wpAny (Zv X.prog X.w) X.A (pyIter (.ref s.heap.objs.size)) (PIE X pins σ tg R) E { s with heap:=s.heap.push { cls:=.type "range",data:=.fields #[.int lo t,.int hi u,.int 1 v] },toks:=tk }:=by
 refine wpAny_pyIter_range (IsRange.new ..) (small_one h1 h2 h3 h4) ?_;have I1:Inv X pins σ H { s with heap:=s.heap.push { cls:=.type "range",data:=.fields #[.int lo t,.int hi u,.int 1 v] },toks:=tk }:=I.kept fun b o e=>ZK _ e;refine⟨(s.heap.push { cls:=.type "range",data:=.fields #[.int lo t,.int hi u,.int 1 v] }).objs.size,[(s.heap.push { cls:=.type "range",data:=.fields #[.int lo t,.int hi u,.int 1 v] }).objs.size],_,_,H,rfl,
  I1.kept (t':=tk) fun b o e=>ZK _ e,yW _ lo (hi-lo).toNat,?_,fun b hb=>?_,q⟩
 ·have e1:lo+((0:Nat):Int)*1=lo:=by simp
  have e2:(((hi-lo).toNat:Nat):Int)-((0:Nat):Int)=Builtin.Range.rangeSize lo hi 1:=by rw[rangeSize_one];split<;>omega
  show IsRangeIter _ _ (lo+((0:Nat):Int)*1) ((((hi-lo).toNat:Nat):Int)-((0:Nat):Int)) 1;rw[e1,e2];exact Zy _ rfl
 ·have e:b=(s.heap.push { cls:=.type "range",data:=.fields #[.int lo t,.int hi u,.int 1 v] }).objs.size:=by simpa using hb
  subst e;exact I1.fpOk (ZD _) (I1.hok.fresh (ZD _))
def MI(ta:TA):TI:=fun σ H R=>ta σ H fun vs H1=>∃j:Int,vs=[.int j]/\-(2^62)<=j/\j<2^62/\R (Itr 0 j.toNat) H1
theorem AS{a:ZC}{ta:TA}{p pos:Pos}(hg:Gl X "range")(hm:X.mg "range"=none)(ha:PA X [a] ta)(hs:ZX [a] X.env=[(false,eval a X.env)]:=by rfl):PI X tg (.Call (.Name "range" p) [a] [] pos) (MI ta):=by
 intro pins s σ H R I h;refine Call_ (u9 I hg hm boot_range (PyProof.Rows.callWith_type1 (thn (ha pos pins s σ H _ I h) fun us s1 ⟨vs,H1,I1,r1,q1⟩=>?_) hs rfl));obtain⟨j,e,q1,q2,q⟩:=q1;subst e;cases r1 with
 |cons r rr=>
  cases rr;obtain⟨t,rfl⟩:=r;exact call_range_1 (Dm I1 (by omega) (by omega) q1 q2 (by simpa using q))
def O8(wi:TI)(g:TG)(tb:TS):TS:=fun D σ H=>wi σ H fun J H1=>∃W:Nat->Nat->St->Hp->Prop,(∃m,W 0 m σ H1)/\∀i m σ H,W i m σ H->
 (J.stop i H/\D.nx σ H)\/(J.go i H/\∃N:St->Hp->Prop,(∀σ' H',N σ' H'->∃m',m'<m/\W (i+1) m' σ' H')/\∀x H',J.yld i H x H'->g x σ H' fun σ2 H2=>tb { D with nx:=N,ct:=N,bk:=D.nx } σ2 H2)
def xY(fp:List Addr)(h:Heap):List (Addr×Obj):=fp.filterMap fun b=>(h.get? b).map fun o=>(b,o)
theorem gX{fp:List Addr}{h:Heap}{b:Addr}{o:Obj}(hb:b∈fp)(e:h.get? b=some o):(b,o)∈xY fp h:=List.mem_filterMap.mpr ⟨b,hb,by rw[e];rfl⟩
theorem A0{fp:List Addr}{h:Heap}{p:Addr×Obj}(hp:p∈xY fp h):p.1∈fp/\h.get? p.1=some p.2:=by
 obtain⟨b,hb,e⟩:=List.mem_filterMap.mp hp;cases q:h.get? b with
 |none=>rw[q]at e;cases e
 |some o=>
  rw[q]at e;have e':(b,o)=p:=Option.some.inj e;subst e';exact⟨hb,q⟩
theorem Inv.pinned{pins:List (Addr×Obj)}{σ:St}{H:Hp}{s:ZZ}{fp:List Addr}(I:Inv X pins σ H s)(hf:∀b∈fp,zV X pins H b)(ho:∀b∈fp,∃o,s.heap.get? b=some o/\∀v,o.data≠.cell v):Inv X (pins++xY fp s.heap) σ H s:=
 I.pins_of fun p hp=>(X8.mp hp).elim (fun z=>I.pin p (Zh _ z)) fun z=>by
  obtain⟨hb,e⟩:=A0 z;obtain⟨f0,f1,f2,_⟩:=hf p.1 hb;obtain⟨o,e',d⟩:=ho p.1 hb;rw[e]at e';cases e';exact⟨e,f0,f1,f2,d⟩
theorem Inv.unpinned{pins pl:List (Addr×Obj)}{σ:St}{H:Hp}{s:ZZ}(I:Inv X (pins++pl) σ H s):Inv X pins σ H s:=I.pins_of fun p hp=>I.pin p (Zh _ (List.mem_append_left _ hp))
theorem Lk{iter:ZC}{body:List Zw}{wi:TI}{g:TG}{tb:TS}{pos:Pos}(hp:PassesOwn (Zv X.prog X.w) X.A X.env X.xe)(hc:X.calm=true)(hi:PI X tg iter wi)(hg:PG X tg g)(hb:PSs X body tb)
  (hs:∀x,foldedSetIterable iter X.env x=pure x:=by intro _;rfl):PS X (.For tg iter body [] pos) (O8 wi g tb):=by
 intro pins s σ H D I h;refine wpAny_For (thn (hi pins s σ H _ I h) fun v s1 h1=>thn h1 fun itv s2 h2=>?_) hs;obtain⟨it,fp,tn,J,H2,e,I2,T,st2,f2,W,⟨m0,w0⟩,turn⟩:=h2;subst e;have stat:∀{H':Hp},(∀b∈fp,H' b=none)->∀b∈fp,zV X pins H' b:=fun hn b hb=>⟨hn b hb,(f2 b hb).2⟩;refine codeAny_forLoop_any (fun n s'=>∃i σ' H',Inv X pins σ' H' s'/\tn i s'.heap/\(∀b∈fp,H' b=none)/\W i n σ' H') ?_ m0 ⟨0,σ,H2,I2,st2,fun b hb=>(f2 b hb).1,w0⟩;rintro n s3 ⟨i,σ3,H3,I3,st3,fr3,w3⟩;rcases turn i n σ3 H3 w3 with⟨stop,qn⟩|⟨go,N,hN,step⟩
 ·refine wpAny_passesOwn hp (thn (T.done X rfl rfl rfl hc i pins s3 σ3 H3 X.xe I3 (stat fr3) st3 stop) fun r s4 ⟨hr,I4⟩=>?_);subst hr;exact wpAny_execs_nil ⟨σ3,H3,I4,qn⟩
 ·refine wpAny_passesOwn hp (thn (T.item X rfl rfl rfl hc i pins s3 σ3 H3 X.xe I3 (stat fr3) st3 go) fun r s4 ⟨u,hr,h4⟩=>?_);subst hr;refine wpAny_passesOwn hp (thn h4 fun _ s5 hz=>?_);obtain⟨x,H5,I5,r5,y5,st5,fr5⟩:=hz;have I5':=I5.pinned (stat fr5) (T.obj _ _ st5);refine wpAny_passesOwn hp (thn (hg _ s5 σ3 H5 x u _ I5' r5 (step x H5 y5)) fun _ s6 hz=>?_);obtain⟨σ6,H6,I6,q6⟩:=hz;refine wpAny_passesOwn hp (thn (hb _ s6 σ6 H6 _ I6 q6) fun f s7 q7=>?_);have again:∀{σ7:St} {H7:Hp},Inv X (pins++xY fp s5.heap) σ7 H7 s7->N σ7 H7->∃m,m<n/\∃i σ' H',Inv X pins σ' H' s7/\tn i s7.heap/\(∀b∈fp,H' b=none)/\W i m σ' H':=fun{σ7 H7} I7 n7=>by
   obtain⟨m',hm,w7⟩:=hN σ7 H7 n7;refine⟨m',hm,i+1,σ7,H7,I7.unpinned,T.keep _ _ _ st5 fun b hb o e=>(I7.pin (b,o) (Zh _ (Zh _ (gX hb e)))).1,fun b hb=>?_,w7⟩;obtain⟨o,e,d⟩:=T.obj _ _ st5 b hb;exact(I7.pin (b,o) (Zh _ (Zh _ (gX hb e)))).2.1
  cases f with
  |next=>obtain⟨σ7,H7,I7,n7⟩:=q7;exact again I7 n7
  |cont=>obtain⟨σ7,H7,I7,n7⟩:=q7;exact again I7 n7
  |brk=>obtain⟨σ7,H7,I7,q7⟩:=q7;exact⟨σ7,H7,I7.unpinned,q7⟩
  |ret v=>obtain⟨x7,σ7,H7,I7,r7,q7⟩:=q7;exact⟨x7,σ7,H7,I7.unpinned,r7,q7⟩
end
abbrev R2:=V->V->Hp->VK->Prop
def OpR(X:Cx)(f:Z7->Z7->Sem Z7)(r:R2):Prop:=
 ∀(pins:List (Addr×Obj)) (s:ZZ) (σ:St) (H:Hp) (x y:V) (v u:Z7) (Q:VK),Inv X pins σ H s->eM x v->eM y u->r x y H Q->
  wpAny (Zv X.prog X.w) X.A (f v u) (EP X pins σ Q) X.xe s
def UnR(X:Cx)(f:Z7->Sem Z7)(r:V->Hp->VK->Prop):Prop:=
 ∀(pins:List (Addr×Obj)) (s:ZZ) (σ:St) (H:Hp) (x:V) (v:Z7) (Q:VK),Inv X pins σ H s->eM x v->r x H Q->
  wpAny (Zv X.prog X.w) X.A (f v) (EP X pins σ Q) X.xe s
def gU(X:Cx)(f:Z7)(r:List V->Hp->VK->Prop):Prop:=
 ∀(pins:List (Addr×Obj)) (s:ZZ) (σ:St) (H:Hp) (xs:List V) (us:List Z7) (Q:VK),Inv X pins σ H s->cU xs us->r xs H Q->
  wpAny (Zv X.prog X.w) X.A (call f us) (EP X pins σ Q) X.xe s
def tOp(r:R2)(ta tb:TE):TE:=fun σ H Q=>ta σ H fun x H1=>tb σ H1 fun y H2=>r x y H2 Q
def tUn(r:V->Hp->VK->Prop)(ta:TE):TE:=fun σ H Q=>ta σ H fun x H1=>r x H1 Q
def rI(C:Int->Int->Prop)(g:Int->Int->V):R2:=fun x y H Q=>∃i j,x=.int i/\y=.int j/\C i j/\Q (g i j) H
def rI0(g:Int->Int->V):R2:=fun x y H Q=>∃i j,x=.int i/\y=.int j/\Q (g i j) H
section
variable{X:Cx}{a b:ZC}{ta tb:TE}{pos:Pos}
theorem NJ(ha:PE X a ta)(hb:PE X b tb){pins:List (Addr×Obj)}{s:ZZ}{σ:St}{H:Hp}{R:V->V->Hp->Prop}(I:Inv X pins σ H s)
  (h:ta σ H fun x H1=>tb σ H1 fun y H2=>R x y H2) {Q:Z7->ZZ->Prop} {f:Z7->Z7->Sem Z7}
  (hf:∀v u s2 x y H2,Inv X pins σ H2 s2->eM x v->eM y u->R x y H2->wpAny (Zv X.prog X.w) X.A (f v u) Q X.xe s2) :
  wpAny (Zv X.prog X.w) X.A (eval a X.env) (fun v s₁=>wpAny (Zv X.prog X.w) X.A (eval b X.env) (fun u s₂=>wpAny (Zv X.prog X.w) X.A (f v u) Q X.xe s₂) X.xe s₁) X.xe s:=by
 refine thn (ha pins s σ H _ I h) fun v s1 hz=>?_;obtain⟨x,H1,I1,r1,q1⟩:=hz;refine thn (hb pins s1 σ H1 _ I1 q1) fun u s2 hz=>?_;obtain⟨y,H2,I2,r2,q2⟩:=hz;exact hf v u s2 x y H2 I2 r1 r2 q2
theorem PB{op:Operator}{r:R2}(ho:OpR X (binaryOp op) r)(ha:PE X a ta)(hb:PE X b tb):PE X (.BinOp a op b pos) (tOp r ta tb):=by
 intro pins s σ H Q I h;exact wpAny_BinOp (NJ ha hb I h fun v u s2 x y H2 I2 rx ry q=>ho pins s2 σ H2 x y v u Q I2 rx ry q)
theorem Pz{op:UnaryOp}{r:V->Hp->VK->Prop}(ho:UnR X (unaryOp op) r)(ha:PE X a ta):PE X (.UnaryOp op a pos) (tUn r ta):=by
 intro pins s σ H Q I h;exact UnaryOp_ (thn (ha pins s σ H _ I h) fun v s1 ⟨x,H1,I1,r1,q1⟩=>ho pins s1 σ H1 x v Q I1 r1 q1)
theorem opI{f:Z7->Z7->Sem Z7}{C:Int->Int->Prop}{g:Int->Int->Int}
  (rule:∀(i j:Int) (t u:Tok) (s:ZZ) (Q:Z7->ZZ->Prop) (E:Z7->ZZ->Prop),C i j->Q (.int (g i j) s.toks) { s with toks:=s.toks+1 }->wpAny (Zv X.prog X.w) X.A (f (.int i t) (.int j u)) Q E s) :
  OpR X f (rI C fun i j=>.int (g i j)):=by
 intro pins s σ H x y v u Q I rx ry h;obtain⟨i,j,rfl,rfl,hc,q⟩:=h;obtain⟨t,rfl⟩:=rx;obtain⟨t',rfl⟩:=ry;exact rule i j t t' s _ _ hc ⟨.int (g i j),H,I.tok _,⟨_,rfl⟩,q⟩
theorem Q6{f:Z7->Z7->Sem Z7}{g:Int->Int->Int}
  (rule:∀(i j:Int) (t u:Tok) (s:ZZ) (Q:Z7->ZZ->Prop) (E:Z7->ZZ->Prop),Q (.int (g i j) s.toks) { s with toks:=s.toks+1 }->wpAny (Zv X.prog X.w) X.A (f (.int i t) (.int j u)) Q E s) :
  OpR X f (rI0 fun i j=>.int (g i j)):=by
 intro pins s σ H x y v u Q I rx ry h;obtain⟨i,j,rfl,rfl,q⟩:=h;obtain⟨t,rfl⟩:=rx;obtain⟨t',rfl⟩:=ry;exact rule i j t t' s _ _ ⟨.int (g i j),H,I.tok _,⟨_,rfl⟩,q⟩
theorem Nz{f:Z7->Z7->Sem Z7}{g:Int->Int->Bool}
  (rule:∀(i j:Int) (t u:Tok) (s:ZZ) (Q:Z7->ZZ->Prop) (E:Z7->ZZ->Prop),Q (.bool (g i j)) s->wpAny (Zv X.prog X.w) X.A (f (.int i t) (.int j u)) Q E s) :
  OpR X f (rI0 fun i j=>.bl (g i j)):=by
 intro pins s σ H x y v u Q I rx ry h;obtain⟨i,j,rfl,rfl,q⟩:=h;obtain⟨t,rfl⟩:=rx;obtain⟨t',rfl⟩:=ry;exact rule i j t t' s _ _ ⟨.bl (g i j),H,I,rfl,q⟩
def Jl(i j:Int):Prop:=0<=j/\j<=1000000/\i.natAbs<2^64
def Cp(i j:Int):Prop:=(-(2^64)<i/\i<2^64)\/(-(2^64)<j/\j<2^64)
theorem Cp.ok{i j:Int}(h:Cp i j):IntMulOk i j:=by
 rcases h with⟨h1,h2⟩|⟨h1,h2⟩
 ·exact .of_left (intBits_le_64 h1 h2)
 ·exact .of_right (intBits_le_64 h1 h2)
def LZ:OpR X (binaryOp .Add) (rI0 fun i j=>.int (i+j)):=Q6 fun _ _ _ _ _ _ _ q=>add_int q
def iK:OpR X (binaryOp .Sub) (rI0 fun i j=>.int (i-j)):=Q6 fun _ _ _ _ _ _ _ q=>sub_int q
def mw:OpR X (binaryOp .Mult) (rI Cp fun i j=>.int (i*j)):=opI fun _ _ _ _ _ _ _ hc q=>mul_int q hc.ok
theorem n5:OpR X (binaryOp .Mod) (rI (fun _ j=>0<j) fun i j=>.int (i % j)):=opI fun i j _ _ _ _ _ hc q=>by
 have h1:(0:Int)<j:=hc;exact mod_int' (by omega) (by rw[Int.fmod_eq_emod_of_nonneg i (by omega)];exact q)
theorem Fh:OpR X (binaryOp .Pow) (rI Jl fun i j=>.int (i^j.toNat)):=opI fun _ _ _ _ _ _ _ hc q=>pow_int_small hc.1 hc.2.1 hc.2.2 q
end
def O9:V->V->Bool
 |.non,.non=>true|.non,.int _=>true|.int _,.non=>true|.non,.bl _=>true|.bl _,.non=>true|.non,.str _=>true|.str _,.non=>true
 |.int _,.int _=>true|.bl _,.bl _=>true|.str _,.str _=>true|.byt _,.byt _=>true
 |.int _,.str _=>true|.str _,.int _=>true|.bl _,.str _=>true|.str _,.bl _=>true
 |_,_=>false
def rEq:R2:=fun x y H Q=>O9 x y=true/\Q (.bl (decide (x=y))) H
def rNe:R2:=fun x y H Q=>O9 x y=true/\Q (.bl (!decide (x=y))) H
theorem BG{i j:Int}:decide (V.int i=V.int j)=(i == j):=by
 rw[Bool.eq_iff_iff];simp
theorem FE{i j:Bool}:decide (V.bl i=V.bl j)=(i == j):=by
 rw[Bool.eq_iff_iff];simp
theorem BF{i j:Str}:decide (V.str i=V.str j)=(i == j):=by
 rw[Bool.eq_iff_iff];simp
theorem BH{i j:Array UInt8}:decide (V.byt i=V.byt j)=(i.toList == j.toList):=by
 rw[Bool.eq_iff_iff];cases i;cases j;simp
section
variable{X:Cx}{a b c:ZC}{ta tb tc:TE}{pos:Pos}
theorem b7{pins:List (Addr×Obj)}{σ:St}{H:Hp}{s:ZZ}{Q:VK}{k k':Bool}(I:Inv X pins σ H s)(q:Q (.bl k) H)(e:k=k'):EP X pins σ Q (.bool k') s:=by
 subst e;exact⟨.bl k,H,I,rfl,q⟩
theorem cK:OpR X (compareOp .Eq) rEq:=by
 intro pins s σ H x y v u Q I rx ry h;obtain⟨hs,q⟩:=h;cases x with
 |non=>
  cases rx;cases y with
  |non=>cases ry;exact PySem.EqNone.eq_none_none (b7 I q (by simp))
  |bl j=>cases ry;exact PySem.EqNone.eq_none_bool (b7 I q (by simp))
  |int j=>obtain⟨t',rfl⟩:=ry;exact PySem.EqNone.eq_none_int (b7 I q (by simp))
  |str j=>obtain⟨t',rfl⟩:=ry;exact PySem.EqNone.eq_none_str (b7 I q (by simp))
  |_=>exact absurd (show false=true from hs) ZL
 |bl i=>
  cases rx;cases y with
  |non=>cases ry;exact PySem.EqNone.eq_bool_none (b7 I q (by simp))
  |bl j=>cases ry;exact eq_bool (b7 I q FE)
  |str j=>obtain⟨t',rfl⟩:=ry;exact PySem.EqMixed.eq_bool_str (b7 I q (by simp))
  |_=>exact absurd (show false=true from hs) ZL
 |int i=>
  obtain⟨t,rfl⟩:=rx;cases y with
  |non=>cases ry;exact PySem.EqNone.eq_int_none (b7 I q (by simp))
  |int j=>obtain⟨t',rfl⟩:=ry;exact eq_int (b7 I q BG)
  |str j=>obtain⟨t',rfl⟩:=ry;exact PySem.EqMixed.eq_int_str (b7 I q (by simp))
  |_=>exact absurd (show false=true from hs) ZL
 |str i=>
  obtain⟨t,rfl⟩:=rx;cases y with
  |non=>cases ry;exact PySem.EqNone.eq_str_none (b7 I q (by simp))
  |bl j=>cases ry;exact PySem.EqMixed.eq_str_bool (b7 I q (by simp))
  |int j=>obtain⟨t',rfl⟩:=ry;exact PySem.EqMixed.eq_str_int (b7 I q (by simp))
  |str j=>obtain⟨t',rfl⟩:=ry;exact eq_str (b7 I q BF)
  |_=>exact absurd (show false=true from hs) ZL
 |byt i=>
  obtain⟨t,rfl⟩:=rx;cases y with
  |byt j=>obtain⟨t',rfl⟩:=ry;exact PySem.W.eq_bytes (b7 I q BH)
  |_=>exact absurd (show false=true from hs) ZL
 |_=>cases y<;>exact absurd (show false=true from hs) ZL
theorem AY:OpR X (compareOp .NotEq) rNe:=by
 intro pins s σ H x y v u Q I rx ry h;obtain⟨hs,q⟩:=h;cases x with
 |non=>
  cases rx;cases y with
  |non=>cases ry;exact PySem.EqNone.ne_none_none (b7 I q (by simp))
  |bl j=>cases ry;exact PySem.EqNone.ne_none_bool (b7 I q (by simp))
  |int j=>obtain⟨t',rfl⟩:=ry;exact PySem.EqNone.ne_none_int (b7 I q (by simp))
  |str j=>obtain⟨t',rfl⟩:=ry;exact PySem.EqNone.ne_none_str (b7 I q (by simp))
  |_=>exact absurd (show false=true from hs) ZL
 |bl i=>
  cases rx;cases y with
  |non=>cases ry;exact PySem.EqNone.ne_bool_none (b7 I q (by simp))
  |bl j=>cases ry;exact ne_bool (b7 I q (congrArg not FE))
  |str j=>obtain⟨t',rfl⟩:=ry;exact PySem.EqMixed.ne_bool_str (b7 I q (by simp))
  |_=>exact absurd (show false=true from hs) ZL
 |int i=>
  obtain⟨t,rfl⟩:=rx;cases y with
  |non=>cases ry;exact PySem.EqNone.ne_int_none (b7 I q (by simp))
  |int j=>obtain⟨t',rfl⟩:=ry;exact ne_int (b7 I q (congrArg not BG))
  |str j=>obtain⟨t',rfl⟩:=ry;exact PySem.EqMixed.ne_int_str (b7 I q (by simp))
  |_=>exact absurd (show false=true from hs) ZL
 |str i=>
  obtain⟨t,rfl⟩:=rx;cases y with
  |non=>cases ry;exact PySem.EqNone.ne_str_none (b7 I q (by simp))
  |bl j=>cases ry;exact PySem.EqMixed.ne_str_bool (b7 I q (by simp))
  |int j=>obtain⟨t',rfl⟩:=ry;exact PySem.EqMixed.ne_str_int (b7 I q (by simp))
  |str j=>obtain⟨t',rfl⟩:=ry;exact ne_str (b7 I q (congrArg not BF))
  |_=>exact absurd (show false=true from hs) ZL
 |byt i=>
  obtain⟨t,rfl⟩:=rx;cases y with
  |byt j=>obtain⟨t',rfl⟩:=ry;exact PySem.W.ne_bytes (b7 I q (congrArg not BH))
  |_=>exact absurd (show false=true from hs) ZL
 |_=>cases y<;>exact absurd (show false=true from hs) ZL
def jD:OpR X (compareOp .Lt) (rI0 fun i j=>.bl (decide (i<j))):=Nz fun _ _ _ _ _ _ _ q=>lt_int q
def AZ:OpR X (compareOp .LtE) (rI0 fun i j=>.bl (decide (i<=j))):=Nz fun _ _ _ _ _ _ _ q=>le_int q
def qZ:OpR X (compareOp .Gt) (rI0 fun i j=>.bl (decide (j<i))):=Nz fun _ _ _ _ _ _ _ q=>gt_int q
def HK:OpR X (compareOp .GtE) (rI0 fun i j=>.bl (decide (j<=i))):=Nz fun _ _ _ _ _ _ _ q=>ge_int q
theorem Fi:OpR X (compareOp .Is) (fun x y H Q=>y=.non/\Q (.bl (decide (x=.non))) H):=by
 intro pins s σ H x y v u Q I rx ry h;obtain⟨rfl,q⟩:=h;cases ry;refine is_none_gen (b7 I q ?_);cases x<;>first
  |(cases rx;rfl)
  |(obtain⟨t,rfl⟩:=rx;rfl)
theorem jq:OpR X (compareOp .IsNot) (fun x y H Q=>y=.non/\Q (.bl (!decide (x=.non))) H):=by
 intro pins s σ H x y v u Q I rx ry h;obtain⟨rfl,q⟩:=h;cases ry;refine isnot_none_gen (b7 I q ?_);cases x<;>first
  |(cases rx;rfl)
  |(obtain⟨t,rfl⟩:=rx;rfl)
theorem OpR.or{f:Z7->Z7->Sem Z7}{r r':R2}(h:OpR X f r)(h':OpR X f r'):OpR X f (fun x y H Q=>r x y H Q\/r' x y H Q):=by
 intro pins s σ H x y v u Q I rx ry q;rcases q with q|q
 ·exact h pins s σ H x y v u Q I rx ry q
 ·exact h' pins s σ H x y v u Q I rx ry q
theorem aF(b:ZC){op:CmpOp}(h:op≠.In:=by decide)(h2:op≠.NotIn:=by decide):behindInMarks op b=false:=by
 have e1:(op == CmpOp.In)=false:=by cases op<;>first|rfl|exact absurd rfl h
 have e2:(op == CmpOp.NotIn)=false:=by cases op<;>first|rfl|exact absurd rfl h2
 cases b<;>simp[behindInMarks,e1,e2]
theorem HE{op:CmpOp}{r:R2}(ho:OpR X (compareOp op) r)(ha:PE X a ta)(hb:PE X b tb)(hm:behindInMarks op b=false):PE X (.Compare a [op] [b] pos) (tOp r ta tb):=by
 intro pins s σ H Q I h;exact wpAny_Compare1 (NJ ha hb I h fun v u s2 x y H2 I2 rx ry q=>ho pins s2 σ H2 x y v u Q I2 rx ry q) hm
def Km(t:TE):TT:=fun σ H Q=>t σ H fun x H'=>∃k,x=.bl k/\Q k H'
theorem Hk{op:CmpOp}{r:R2}(ho:OpR X (compareOp op) r)(ha:PE X a ta)(hb:PE X b tb)(hm:behindInMarks op b=false):PT X (.Compare a [op] [b] pos) (Km (tOp r ta tb)):=by
 intro pins s σ H Q I h;refine wpAny_isTrue_Compare1 (thn (ha pins s σ H _ I h) fun v s1 ⟨x,H1,I1,r1,q1⟩=>thn (hb pins s1 σ H1 _ I1 q1) fun u s2 ⟨y,H2,I2,r2,q2⟩=>
  thn (ho pins s2 σ H2 x y v u _ I2 r1 r2 q2) fun c s3 ⟨z,H3,I3,r3,k,e,q3⟩=>?_) hm
 subst e;cases r3;exact wpAny_truthy_bool ⟨H3,I3,q3⟩
def Aq(r r':R2)(ta tb tc:TE):TE:=fun σ H Q=>ta σ H fun x H1=>tb σ H1 fun y H2=>r x y H2 fun z H3=>∃k,z=.bl k/\
 (if k=true then tc σ H3 fun w' H4=>r' y w' H4 Q else Q (.bl false) H3)
theorem DM{op op':CmpOp}{r r':R2}(ho:OpR X (compareOp op) r)(ho':OpR X (compareOp op') r')(ha:PE X a ta)(hb:PE X b tb)(hc:PE X c tc)
  (hm:lastMarks [op,op'] [b,c]=false:=by with_unfolding_all rfl):PE X (.Compare a [op,op'] [b,c] pos) (Aq r r' ta tb tc):=by
 intro pins s σ H Q I h;refine Compare_chain (thn (ha pins s σ H _ I h) fun v s1 ⟨x,H1,I1,r1,q1⟩=>chain_link (thn (hb pins s1 σ H1 _ I1 q1) fun u s2 ⟨y,H2,I2,r2,q2⟩=>
  thn (ho pins s2 σ H2 x y v u _ I2 r1 r2 q2) fun d s3 ⟨z,H3,I3,r3,k,e,q3⟩=>?_)) hm
 subst e;cases r3;refine wpAny_truthy_bool ?_;cases k with
 |false=>exact ite_ff ⟨.bl false,H3,I3,rfl,q3⟩
 |true=>exact ite_tt (chain_last (thn (hc pins s3 σ H3 _ I3 q3) fun w' s4 ⟨z',H4,I4,r4,q4⟩=>ho' pins s4 σ H4 y z' u w' Q I4 r2 r4 q4))
def yd:(ZP:Nat)<2^63:=by rw[sizeLine_eq];decide
theorem zd:OpR X (binaryOp .Add) (fun x y H Q=>∃i j,x=.str i/\y=.str j/\i.length+j.length<=ZP/\Q (.str (i++j)) H):=by
 intro pins s σ H x y v u Q I rx ry h;obtain⟨i,j,rfl,rfl,hz,q⟩:=h;obtain⟨t,rfl⟩:=rx;obtain⟨t',rfl⟩:=ry;exact add_str (fun t' tk=>⟨.str (i++j),H,I.tok _,⟨_,rfl⟩,q⟩) hz
def ue(b:ZC):Prop:=∀o i,subscripted b false o i=operate [o,i] (getItem o i)
theorem wc(ha:PE X a ta)(hb:PE X b tb)(hs:ue b) :
  PE X (.Subscript a b pos) (tOp (fun x y H Q=>∃z i c,x=.str z/\y=.int i/\0<=i/\i<2^63/\i<z.length/\z.cps[i.toNat]?=some c/\Q (.str ⟨#[c]⟩) H) ta tb):=by
 intro pins s σ H Q I h;refine Subscript_ (NJ ha hb I h fun v u s2 x y H2 I2 rx ry q=>?_);obtain⟨z,i,c,rfl,rfl,h0,h63,h1,hc,q⟩:=q;obtain⟨t,rfl⟩:=rx;obtain⟨t',rfl⟩:=ry;have e:seqIndex? i z.length=some i.toNat:=PySem.StrLaws.seqIndex_nonneg h0 h1;exact tail_any (typeIs_str s2 z t) slot_str_getitem.lookup (getItem_str (c:=c) (by
  have e1:decide (i < -(2^63:Int))=false:=decide_eq_false (by omega);have e2:decide (i≥2^63)=false:=decide_eq_false (by omega);rw[e1,e2]<;>rfl) (by rw[e];exact hc) ⟨.str ⟨#[c]⟩,H2,I2.tok _,⟨_,rfl⟩,q⟩) (hs _ _)
theorem oj{x:V}{us:List Z7}(r:cU [x] us):∃u,us=[u]/\eM x u:=by
 cases r with
 |cons r1 r2=>cases r2;exact⟨_,rfl,r1⟩
theorem yU{x y:V}{us:List Z7}(r:cU [x,y] us):∃u w',us=[u,w']/\eM x u/\eM y w':=by
 cases r with
 |cons r1 r2=>
  cases r2 with
  |cons r3 r4=>cases r4;exact⟨_,_,rfl,r1,r3⟩
theorem BS(hc:X.calm=true):gU X (.builtin "min") (fun xs H Q=>∃i j,xs=[.int i,.int j]/\Q (.int (if j<i then j else i)) H):=by
 intro pins s σ H xs us Q I r h;obtain⟨i,j,rfl,q⟩:=h;obtain⟨u,w',rfl,⟨t,rfl⟩,⟨t',rfl⟩⟩:=yU r;refine min_two_ints (I.ok.hd hc) fun h' tk k=>⟨_,H,I.kept k,?_,q⟩;by_cases hj:j<i
 ·rw[if_pos hj,if_pos hj];exact⟨_,rfl⟩
 ·rw[if_neg hj,if_neg hj];exact⟨_,rfl⟩
theorem cY:gU X (.type "str") (fun xs H Q=>∃i,xs=[.int i]/\i.natAbs.log2<1920/\Q (.str (toString i)) H):=by
 intro pins s σ H xs us Q I r h;obtain⟨i,rfl,hz,q⟩:=h;obtain⟨u,rfl,t,rfl⟩:=oj r;exact PySem.P.str_of_int hz ⟨.str _,H,I.tok _,⟨_,rfl⟩,q⟩
end
structure IY(h:Heap)(x dx C:Addr)(mA:Str->Option Z7):Prop where
 obj:h.get? x=some (PySem.W.instObj C dx)
 ns:h.Ns1 dx mA
 ne:dx≠x
theorem A4{h:Heap}{dx:Addr}{mA:Str->Option Z7}(n:h.Ns1 dx mA):∃od,h.get? dx=some od/\∀name,PySem.W.lookIn name od=some (mA name):=by
 obtain⟨o,es,ep,ho,hd,hk,_,hm⟩:=n;refine⟨o,ho,fun name=>?_⟩;have e:=hm name;unfold nsFind findBy at e;rw[<-Array.find?_toList]at e;unfold PySem.W.lookIn;rw[hd];dsimp only;split
 ·rename_i y q;rw[q]at e;exact congrArg some e
 ·rename_i q;rw[q]at e;have a:es.toList.any (·.refKey)=false:=by
   rw[List.any_eq_false];intro y hy;obtain⟨z,t,hkey⟩:=hk y (Array.mem_toList_iff.mp hy);simp[DictEntry.refKey,hkey]
  have a':¬es.toList.any (·.refKey)=true:=by rw[a];exact ZL
  rw[if_neg a'];exact congrArg some e
theorem IY.look{h:Heap}{x dx C:Addr}{mA:Str->Option Z7}(I:IY h x dx C mA):∃od,PySem.W.InstAt h x (PySem.W.instObj C dx) C (some od)/\∀name,PySem.W.lookIn name od=some (mA name):=
 let ⟨od,ho,hl⟩:=A4 I.ns
 ⟨od,⟨I.obj,rfl,rfl,ho⟩,hl⟩
section
variable{prog:ZS}{w:Zg}{A:Za}{E:Z7->ZZ->Prop}{s:ZZ}{K:Z6}{x dx C f:Addr}{mA:Str->Option Z7}{name:Str}{v:Z7}
theorem ID{expr:Bool}{Q:Z7->ZZ->Prop}(X:K.In s.heap)(I:IY s.heap x dx C mA)(hg:PySem.W.plainGet K C name=true)(hh:PySem.W.hasDictIn K C=true)
  (ha:PySem.W.findIn K (.ref C) name=some none) (hv:mA name=some v) (hv':PySem.W.handedIn v=true) (h:Q v { s with toks:=s.toks+1 }) :
  wpAny (Zv prog w) A (getAttr (.ref x) name expr) Q E s:=by
 obtain⟨od,J,hl⟩:=I.look;exact PySem.W.get_value X J (PySem.W.plainGet_of hg).1 (PySem.W.findObj_own hh ha rfl (by rw[hl,hv])) hv' h
theorem Ei{pl:Sem Bool}{Q:Z7×List Z7->ZZ->Prop}(X:K.In s.heap)(I:IY s.heap x dx C mA)(hg:PySem.W.plainGet K C name=true)
  (hf:PySem.W.findIn K (.ref C) name=some (some (.ref f))) (ht:PySem.W.isFn K (.ref f)=true) (hv:mA name=none) (h:Q (.ref f,[.ref x]) s) :
  wpAny (Zv prog w) A (getMethod (.ref x) name pl) Q E s:=by
 obtain⟨od,J,hl⟩:=I.look;exact PySem.W.method_fn X J (PySem.W.plainGet_of hg).1 (PySem.W.plainGet_of hg).2 hf (beq_iff_eq.mp ht) (by show(PySem.W.lookIn name od).map (·.isSome)=some false;rw[hl,hv];rfl) h
theorem GN{ns:List Str}{Q:Unit->ZZ->Prop}(X:K.In s.heap)(I:IY s.heap x dx C mA)
  (hs:PySem.W.findIn K (.ref C) "__setattr__"=some (some (.builtin "object.__setattr__"))) (hp:PySem.W.plainOver K C=true) (ht:PySem.W.takerIn K C name=some none) (hh:PySem.W.hasDictIn K C=true)
  (hw:PySem.Within mA ns) (hsz:ns.length<=ZP)
  (h:∀h',IY h' x dx C (fun y=>if y=name then some v else mA y)->Heap.SameBut dx s.heap h'->Q () { s with heap:=h',toks:=s.toks+2 }) :
  wpAny (Zv prog w) A (setAttr (.ref x) name v) Q E s:=by
 obtain⟨od,J,hl⟩:=I.look;refine PySem.W.set_plain X J hs (PySem.W.osa_open (s:={ s with toks:=s.toks+1 }) (r:=none) X J hp ht fun b=>?_);obtain⟨cd,hc,hd'⟩:=PySem.W.any_some hh;have hx:s.heap.get? x=some ⟨.ref C,some dx,.plain,#[]⟩:=I.obj;refine ZQ (ZO (ZQ (ZQ (wpAny_loadPart hx (ZQ (PySem.W.Looks.here (s:={ s with toks:=s.toks+1 }) (PySem.W.looks_clsIn X hc) ?_))))));rw[hd'];refine ZO (a:=some dx) (ZQ (ZO (ZQ ?_)));refine wpAny_nsSet1 (s:={ s with toks:=s.toks+1 }) I.ns fun h' hn2 hs2=>?_;obtain⟨oD,esD,epD,hoD,hdD,hcD⟩:=hn2.count (PySem.Within.cons name v hw);refine ZQ (wpAny_lookBehind hoD (by rw[hdD];exact pastItsLine_dict (Zl hcD (by rw[ZT];omega))) ?_);exact ZO (h _ ⟨(hs2.2 _ (Ne.symm I.ne)).trans I.obj,hn2,I.ne⟩ hs2)
theorem D1{R:Result->ZZ->Prop}{vs:List Z7}{kw:List (Str×Z7)}(X:K.In s.heap)(hm:PySem.W.makesIn K C=true)
  (hi:PySem.W.findIn K (.ref C) "__init__"=some (some (.ref f))) (hf:PySem.W.typeIn K (.ref f)=some (.type "function"))
  (h:codeAny (Zv prog w) (A.under (.builtin "type.__call__" ⟨.ref C::vs,kw⟩)) (.call (.ref f) ⟨.ref (s.heap.objs.size+1)::vs,kw⟩) (PySem.W.InitBack (s.heap.objs.size+1) R)
   { s with heap:=(s.heap.push PySem.W.emptyDict).push (PySem.W.instObj C s.heap.objs.size) }) :
  codeAny (Zv prog w) A (.call (.ref C) ⟨vs,kw⟩) R s:=by
 obtain⟨hh,g,d,t,os⟩:=s;exact PySem.W.make_core (PySem.W.makes_of X hm) (PySem.W.looks_findIn X hi) (fun self=>PySem.W.bind_fn X self hf) (.inl rfl) h
end
def qY(f:Str)(v:V):List (Str×V)->List (Str×V)
 |[]=>[(f,v)]
 |(g,x)::r=>if g=f then(g,v)::r else(g,x)::qY f v r
theorem lC(f g:Str)(v:V):∀fs:List (Str×V),(qY f v fs).lookup g=if g=f then some v else fs.lookup g
 |[]=>by
  show List.lookup g [(f,v)]=_;by_cases h:g=f
  ·have hb:(g == f)=true:=beq_iff_eq.mpr h;simp only[List.lookup,hb,if_pos h]
  ·have hb:(g == f)=false:=beq_eq_false_iff_ne.mpr h;simp only[List.lookup,hb,if_neg h]
 |(k,x)::r=>by
  have ih:=lC f g v r;rw[show qY f v ((k,x)::r)=(if k=f then(k,v)::r else(k,x)::qY f v r)from rfl];by_cases hk:k=f
  ·rw[if_pos hk];by_cases h:g=k
   ·have hb:(g == k)=true:=beq_iff_eq.mpr h;simp only[List.lookup,hb,if_pos (h.trans hk)]
   ·have hb:(g == k)=false:=beq_eq_false_iff_ne.mpr h;simp only[List.lookup,hb,if_neg (fun e:g=f=>h (e.trans hk.symm))]
  ·rw[if_neg hk];by_cases h:g=k
   ·have hb:(g == k)=true:=beq_iff_eq.mpr h;simp only[List.lookup,hb,if_neg (fun e:g=f=>hk (h.symm.trans e))]
   ·have hb:(g == k)=false:=beq_eq_false_iff_ne.mpr h;simp only[List.lookup,hb];exact ih
theorem hV(f:Str)(v:V):∀fs:List (Str×V),f∈(qY f v fs).map (·.1)/\∀g,g∈fs.map (·.1)->g∈(qY f v fs).map (·.1)
 |[]=>⟨by simp[qY],fun g h=>by simp at h⟩
 |(k,x)::r=>by
  obtain⟨i1,i2⟩:=hV f v r;rw[show qY f v ((k,x)::r)=(if k=f then(k,v)::r else(k,x)::qY f v r)from rfl];by_cases hk:k=f
  ·rw[if_pos hk];subst hk;exact⟨by simp,fun g h=>by simpa using h⟩
  ·rw[if_neg hk];refine⟨?_,fun g h=>?_⟩
   ·rw[ZG];exact ZJ _ i1
   ·rw[ZG]at h ⊢;rcases Zx.mp h with e|e
    ·exact Zx.mpr (.inl e)
    ·exact ZJ _ (i2 g e)
theorem qi(f:Str)(v:V):∀fs:List (Str×V),(qY f v fs).length<=fs.length+1
 |[]=>by simp[qY]
 |(k,x)::r=>by
  have ih:=qi f v r;rw[show qY f v ((k,x)::r)=(if k=f then(k,v)::r else(k,x)::qY f v r)from rfl];by_cases hk:k=f
  ·rw[if_pos hk,ZT,ZT];omega
  ·rw[if_neg hk,ZT,ZT];omega
theorem vG.some_of{v:V}{o:Option Z7}(r:vG (some v) o):∃u,o=some u/\eM v u:=by
 cases o with
 |none=>exact(show False from r).elim
 |some u=>exact⟨u,rfl,r⟩
theorem vG.none_of{o:Option Z7}(r:vG none o):o=none:=by
 cases o with
 |none=>rfl
 |some u=>exact(show False from r).elim
theorem Bm{v:V}{u:Z7}(r:eM v u):PySem.W.handedIn u=true:=by
 cases v with
 |non=>cases (show u=Value.none from r);rfl
 |bl b=>cases (show u=Value.bool b from r);rfl
 |int i=>obtain⟨t,e⟩:=(show ∃t,u=Value.int i t from r);cases e;rfl
 |str x=>obtain⟨t,e⟩:=(show ∃t,u=Value.str x t from r);cases e;rfl
 |byt b=>obtain⟨t,e⟩:=(show ∃t,u=Value.bytes b t from r);cases e;rfl
 |flt b=>obtain⟨t,e⟩:=(show ∃t,u=Value.float b t from r);cases e;rfl
 |ref a=>cases (show u=Value.ref a from r);rfl
 |ty n=>cases (show u=Value.type n from r);rfl
section
variable{P:ZS}{w:Zg}{H:Hp}{h:Heap}{a C dx:Addr}{fs:List (Str×V)}
theorem tL(hok:HOk P w H h)(e:H a=some (.ins C dx fs)):∃mA,IY h a dx C mA/\(∀f,vG (fs.lookup f) (mA f))/\PySem.Within mA (fs.map (·.1))/\fs.length<=1000/\H dx=some (.own a):=by
 obtain⟨d,z,ne,ob,mA,n,r,q⟩:=(show d6 P w H h a (.ins C dx fs)from hok a _ e);exact⟨mA,⟨ob,n,ne⟩,r,q,z,d⟩
end
structure Cls(K:Z6)(C:Addr):Prop where
 pg:PySem.W.plainGet K C Str.empty=true
 hd:PySem.W.hasDictIn K C=true
 po:PySem.W.plainOver K C=true
 sa:PySem.W.findIn K (.ref C) "__setattr__"=some (some (.builtin "object.__setattr__"))
def Cls.get{K:Z6}{C:Addr}(c:Cls K C)(f:Str):PySem.W.plainGet K C f=true:=c.pg
def kK(K:Z6)(C:Addr)(f:Str):Prop:=PySem.W.findIn K (.ref C) f=some none
theorem kK.taker{K:Z6}{C:Addr}{f:Str}(n:kK K C f):PySem.W.takerIn K C f=some none:=by
 unfold PySem.W.takerIn;rw[show PySem.W.findIn K (.ref C) f=some none from n];rfl
structure Cw(K:Z6)(C:Addr)(m:Str)(f:Addr):Prop where
 at_:PySem.W.findIn K (.ref C) m=some (some (.ref f))
 fn:PySem.W.isFn K (.ref f)=true
 kp:PySem.W.keepIn K (.ref f)=true
section
variable{X:Cx}{pins:List (Addr×Obj)}{σ:St}{H:Hp}{s:ZZ}{a C dx:Addr}{fs:List (Str×V)}{f:Str}{v:V}{A:Za}{E:Z7->ZZ->Prop}
theorem zy{b:Bool}{Q:Z7->ZZ->Prop}(I:Inv X pins σ H s)(e:H a=some (.ins C dx fs))(c:Cls X.K C)(n:kK X.K C f)(l:fs.lookup f=some v)
  (h:∀u s',Inv X pins σ H s'->eM v u->Q u s'):wpAny (Zv X.prog X.w) A (getAttr (.ref a) f b) Q E s:=by
 obtain⟨mA,O,r,_,_,_⟩:=tL I.hok e;obtain⟨u,hu,ru⟩:=vG.some_of (v:=v) (o:=mA f) (by rw[<-l];exact r f);exact ID I.kIn O (c.get f) c.hd n hu (Bm ru) (h u _ (I.tok _) ru)
theorem nk{m:Str}{g:Addr}{pl:Sem Bool}{Q:Z7×List Z7->ZZ->Prop}(I:Inv X pins σ H s)(e:H a=some (.ins C dx fs))(c:Cls X.K C)(k:Cw X.K C m g)(l:fs.lookup m=none)
  (h:Q (.ref g,[.ref a]) s):wpAny (Zv X.prog X.w) A (getMethod (.ref a) m pl) Q E s:=by
 obtain⟨mA,O,r,_,_,_⟩:=tL I.hok e;have hn:mA m=none:=vG.none_of (by rw[<-l];exact r m);exact Ei I.kIn O (c.get m) k.at_ k.fn hn h
theorem yY{y:V}{u:Z7}{Q:Unit->ZZ->Prop}(I:Inv X pins σ H s)(e:H a=some (.ins C dx fs))(c:Cls X.K C)(n:kK X.K C f)(hl:fs.length<1000)(ry:eM y u)
  (h:∀s',Inv X pins σ (upd H a (.ins C dx (qY f y fs))) s'->Q () s'):wpAny (Zv X.prog X.w) A (setAttr (.ref a) f u) Q E s:=by
 obtain⟨mA,O,r,wi,_,ho⟩:=tL I.hok e;have hz:(fs.map (·.1)).length<=ZP:=by rw[ZN,sizeLine_eq];omega
 refine GN I.kIn O c.sa c.po n.taker c.hd wi hz fun h' O' sb=>h _ ?_;have hd:∃o,h'.get? dx=some o:=let ⟨o,_,_,e',_⟩:=O'.ns;⟨o,e'⟩
 refine I.write (x:=a) (e:=dx) (by rw[e];exact True.intro) (.inr ho) (fun b q hb z=>(sb.2 b hb).trans z) hd ?_;refine⟨by rw[bN O.ne];exact ho,?_,O.ne,O'.obj,_,O'.ns,fun g=>?_,fun g hg=>?_⟩
 ·have:=qi f y fs;omega
 ·show vG ((qY f y fs).lookup g) (if g=f then some u else mA g);rw[lC];by_cases q:g=f
  ·rw[if_pos q,if_pos q];exact ry
  ·rw[if_neg q,if_neg q];exact r g
 ·by_cases q:g=f
  ·rw[q];exact(hV f y fs).1
  ·refine(hV f y fs).2 g (wi g fun z=>hg ?_);show(if g=f then some u else mA g)=none;rw[if_neg q];exact z
theorem Inv.made(I:Inv X pins σ H s):Inv X pins σ (upd (upd H s.heap.objs.size (.own (s.heap.objs.size+1))) (s.heap.objs.size+1) (.ins C s.heap.objs.size []))
  { s with heap:=(s.heap.push PySem.W.emptyDict).push (PySem.W.instObj C s.heap.objs.size) }:=by
 have e1:(s.heap.push PySem.W.emptyDict).get? s.heap.objs.size=some PySem.W.emptyDict:=Zy s.heap rfl;have e2:((s.heap.push PySem.W.emptyDict).push (PySem.W.instObj C s.heap.objs.size)).get? (s.heap.objs.size+1)=some (PySem.W.instObj C s.heap.objs.size):=by
  have:=Zy (s.heap.push PySem.W.emptyDict) (o:=PySem.W.instObj C s.heap.objs.size) rfl;rwa[Heap.size_push]at this
 have e3:(s.heap.push PySem.W.emptyDict).Ns s.heap.objs.size (fun _=>none):=⟨PySem.W.emptyDict,#[],_,e1,rfl,(fun e he=>absurd he (by simp)),fun _=>rfl⟩;have I1:=I.laid (a:=s.heap.objs.size) (o:=.own (s.heap.objs.size+1)) (h':=s.heap.push PySem.W.emptyDict) (t':=s.toks) (fun b u q=>ZK _ q) (ZD _) ⟨_,e1⟩;refine I1.laid (a:=s.heap.objs.size+1) (o:=.ins C s.heap.objs.size []) (t':=s.toks) (fun b u q=>ZK _ q) (Nat.le_of_eq (Heap.size_push _ _)) ?_;have ne:s.heap.objs.size≠s.heap.objs.size+1:=Zj (Nat.lt_succ_self _);refine⟨by rw[bN ne,bx],X1 _,ne,e2,fun _=>none,(Heap.Ns1.of_empty e3).at fun o q=>ZK _ q,fun _=>True.intro,fun y hy=>absurd rfl hy⟩
theorem IT{prog:ZS}{w:Zg}{env:Env}{e:ZC}{f:Str}{pos:Pos}{s:ZZ}{Q:Z7->ZZ->Prop}(hb:attributeBase e f env (eval e env)=eval e env)
  (h:wpAny (Zv prog w) A (eval e env) (fun o s₁=>wpAny (Zv prog w) A (getAttr o f true) Q E s₁) E s):wpAny (Zv prog w) A (eval (.Attribute e f pos) env) Q E s:=
 Attribute_any_ h (by rw[arm_eval_Attribute,hb])
end
def Q0(K:Z6)(ta:TE)(f:Str):TE:=fun σ H Q=>ta σ H fun x H1=>∃a C dx fs v,x=.ref a/\H1 a=some (.ins C dx fs)/\Cls K C/\kK K C f/\fs.lookup f=some v/\Q v H1
def Q2(K:Z6)(ta tv:TE)(f:Str):TS:=fun D σ H=>tv σ H fun y H1=>ta σ H1 fun x H2=>∃a C dx fs,x=.ref a/\H2 a=some (.ins C dx fs)/\Cls K C/\kK K C f/\fs.length<1000/\
 D.nx σ (upd H2 a (.ins C dx (qY f y fs)))
section
variable{X:Cx}{o e value:ZC}{f:Str}{pos pos':Pos}{ta tv:TE}
theorem LB(he:PE X e ta)(hb:attributeBase e f X.env (eval e X.env)=eval e X.env):PE X (.Attribute e f pos) (Q0 X.K ta f):=by
 intro pins s σ H Q I h;refine IT hb (thn (he pins s σ H _ I h) fun u s1 hz=>?_);obtain⟨x,H1,I1,rx,a,C,dx,fs,v,ex,ea,c,n,l,q⟩:=hz;subst ex;obtain rfl:u=Value.ref a:=rx;exact zy I1 ea c n l fun u' s2 I2 ru=>⟨v,H1,I2,ru,q⟩
theorem Ll(ha:PE X o ta)(hv:PE X value tv)(hs:X7 value (some (.Attribute o f pos')) pos.line X.env=pure false):PS X (.Assign [.Attribute o f pos'] value pos) (Q2 X.K ta tv f):=by
 intro pins s σ H D I h;refine plainObj_wpAny_Assign_Attribute (thn (hv pins s σ H _ I h) fun u s1 ⟨y,H1,I1,ry,q⟩=>thn (ha pins s1 σ H1 _ I1 q) fun ov s2 hz=>?_) hs;obtain⟨x,H2,I2,rx,a,C,dx,fs,ex,ea,c,n,l,q2⟩:=hz;subst ex;obtain rfl:ov=Value.ref a:=rx;exact yY I2 ea c n l ry fun s3 I3=>⟨σ,_,I3,q2⟩
end
section
variable{X:Cx}{pins:List (Addr×Obj)}{σ:St}{H:Hp}{s:ZZ}{A:Za}{E:Z7->ZZ->Prop}{Q:Z7->ZZ->Prop}{c:Z7}{b:Bool}
inductive yF(K:Z6)(H:Hp):V->Z7->Prop where
 |non:yF K H .non (.type "NoneType")
 |bl (x:Bool):yF K H (.bl x) (.type "bool")
 |int (i:Int):yF K H (.int i) (.type "int")
 |str (x:Str):yF K H (.str x) (.type "str")
 |flt (x:UInt64):yF K H (.flt x) (.type "float")
 |lst {a:Addr} {xs:List V} (e:H a=some (.lst xs)):yF K H (.ref a) (.type "list")
 |frz {a:Addr} {o:Obj} {xs:List V} (e:H a=some (.frz o (.lst xs))):yF K H (.ref a) (.type "list")
 |tup {a:Addr} {xs:List V} (e:H a=some (.tup xs)):yF K H (.ref a) (.type "tuple")
 |dK {a:Addr} {kvs:List (Key×V)} (e:H a=some (.dK kvs)):yF K H (.ref a) (.type "dict")
 |dT {a:Addr} {kvs:List (List Key×V)} (e:H a=some (.dT kvs)):yF K H (.ref a) (.type "dict")
 | ins {a C dx:Addr} {fs:List (Str×V)} (e:H a=some (.ins C dx fs)) (cl:Cls K C) (ha:PySem.W.findIn K (.ref C) "__class__"=some (some (.builtin "object.__class__")))
   (hn:PySem.W.specialIn K (.builtin "object.__class__") "__get__"=some (some (.builtin "getset_descriptor.__get__"))) (htk:PySem.W.takesIn K (.builtin "object.__class__")=some true)
   (hm:PySem.W.mroIn K C (.type "object")=some true):yF K H (.ref a) (.ref C)
theorem Bh{x:V}{u t:Z7}(I:Inv X pins σ H s)(rx:eM x u)(ty:yF X.K H x t)(e:PySem.W.kitOne X.K t c=some b)(h:∀tk,Q (.bool b) { s with toks:=tk }) :
  wpAny (Zv X.prog X.w) A (call (.builtin "isinstance") [u,c]) Q E s:=by
 cases ty with
 |non=>cases (show u=Value.none from rx);exact PySem.W.kia_one PySem.W.kitx_none I.kIn True.intro e (fun z=>nomatch z) h
 |bl y=>cases (show u=Value.bool y from rx);exact PySem.W.kia_one PySem.W.kitx_bool I.kIn True.intro e (fun z=>nomatch z) h
 |int i=>obtain⟨t,q⟩:=(show ∃t,u=Value.int i t from rx);cases q;exact PySem.W.kia_one PySem.W.kitx_int I.kIn True.intro e (fun z=>nomatch z) h
 |str y=>obtain⟨t,q⟩:=(show ∃t,u=Value.str y t from rx);cases q;exact PySem.W.kia_one PySem.W.kitx_str I.kIn True.intro e (fun z=>nomatch z) h
 |flt y=>obtain⟨t,q⟩:=(show ∃t,u=Value.float y t from rx);cases q;exact PySem.W.kia_one PySem.W.kitx_float I.kIn True.intro e (fun z=>nomatch z) h
 |@lst a xs ea=>
  cases (show u=Value.ref a from rx);obtain⟨_,_,n,_,h1⟩:=(show d6 X.prog X.w H s.heap a (.lst xs)from I.hok a _ ea);exact PySem.W.kia_one PySem.W.kitx_list I.kIn ⟨_,h1,rfl⟩ e (fun z=>nomatch z) h
 |@frz a ob xs ea=>
  cases (show u=Value.ref a from rx);obtain⟨_,_,_,n,_,h1⟩:=(show d6 X.prog X.w H s.heap a (.frz ob (.lst xs))from I.hok a _ ea);exact PySem.W.kia_one PySem.W.kitx_list I.kIn ⟨_,h1,rfl⟩ e (fun z=>nomatch z) h
 |@tup a xs ea=>
  cases (show u=Value.ref a from rx);obtain⟨_,_,_,p⟩:=(show d6 X.prog X.w H s.heap a (.tup xs)from I.hok a _ ea);obtain⟨o,h1,h2,_⟩:=p;exact PySem.W.kia_one PySem.W.kitx_tuple I.kIn ⟨o,h1,h2.1⟩ e (fun z=>nomatch z) h
 |@dK a kvs ea=>
  cases (show u=Value.ref a from rx);obtain⟨_,_,vs,_,p⟩:=(show d6 X.prog X.w H s.heap a (.dK kvs)from I.hok a _ ea);obtain⟨o,es,ep,h1,h2,_⟩:=p;exact PySem.W.kia_one PySem.W.kitx_dict I.kIn ⟨o,h1,h2.1⟩ e (fun z=>nomatch z) h
 |@dT a kvs ea=>
  cases (show u=Value.ref a from rx);obtain⟨_,_,xs,_,o,es,ep,h1,h2,_⟩:=(show d6 X.prog X.w H s.heap a (.dT kvs)from I.hok a _ ea);exact PySem.W.kia_one PySem.W.kitx_dict I.kIn ⟨o,h1,h2.1⟩ e (fun z=>nomatch z) h
 |@ins a C dx fs ea cl ha hn htk hm=>
  cases (show u=Value.ref a from rx);obtain⟨mA,O,_⟩:=tL I.hok ea;obtain⟨od,J,_⟩:=O.look;exact PySem.W.kia_one (PySem.W.kitx_own (cl.get _) cl.hd ha hn htk hm) I.kIn J e (fun z=>nomatch z) h
end
structure gS(k:Nat)(A:Za):Prop where
 hd:A.handled=none
 dp:A.depth+3*k+5<recursionLimit
 un:A.units+16*k+200<cLine
 gd:A.guards=some []
def gS.mono{j k:Nat}{A:Za}(r:gS k A)(h:j<=k):gS j A:=⟨r.hd,by have:=r.dp;omega,by have:=r.un;omega,r.gd⟩
theorem gS.deeper{k:Nat}{A:Za}(r:gS (k+1) A)(env:Env):gS k (A.deeper env):=
 ⟨r.hd,by have:=r.dp;show A.depth+1+3*k+5<_;omega,by have:=r.un;show A.units+3+16*k+200<_;omega,r.gd⟩
theorem zj{A:Za}{C:Addr}{us:List Z7}{kw:List (Str×Z7)}:(A.under (.builtin "type.__call__" ⟨.ref C::us,kw⟩)).depth=A.depth+1:=by
 first|rfl|simp[Around.under,Code.weight,Code.isCreation,Code.isGuard,Code.isCaller,Code.frames,Code.isFrame,guardIds]
theorem zi{A:Za}{C:Addr}{us:List Z7}{kw:List (Str×Z7)}:(A.under (.builtin "type.__call__" ⟨.ref C::us,kw⟩)).units=A.units+1:=by
 first|rfl|simp[Around.under,Code.cUnits,Code.frames,Code.isFrame]
theorem gS.make{k:Nat}{A:Za}(r:gS (k+1) A)(C:Addr)(us:List Z7)(kw:List (Str×Z7)):gS k (A.under (.builtin "type.__call__" ⟨.ref C::us,kw⟩)):=
 ⟨r.hd,by have:=r.dp;rw[zj];omega,by have:=r.un;rw[zi];omega,r.gd⟩
def gS.depth{k:Nat}{A:Za}(r:gS k A):A.depth<recursionLimit:=by have:=r.dp;omega
def gS.units{k:Nat}{A:Za}(r:gS k A):A.units+64<cLine:=by have:=r.un;omega
def Jb:TA:=fun _ H Q=>Q [] H
def Kv(ta:TE)(tr:TA):TA:=fun σ H Q=>ta σ H fun x H1=>tr σ H1 fun xs H2=>Q (x::xs) H2
section
variable{X:Cx}{e:ZC}{es:List ZC}{te:TE}{t:TA}{pos:Pos}
def LF:PA X [] Jb:=fun _ _ _ _ H Q I h=>Calls.spliced_nil ⟨[],H,I,.nil,h⟩
theorem HG(ha:PE X e te)(hr:PA X es t)(hs:ZX (e::es) X.env=(false,eval e X.env)::ZX es X.env:=by rfl):PA X (e::es) (Kv te t):=by
 intro pos pins s σ H Q I h;rw[hs];show wpAny _ _ (spliced ((false,eval e X.env)::Zf pos (ZX es X.env))) _ _ s;refine Calls.spliced_cons (thn (ha pins s σ H _ I h) fun u s1 hz=>?_);obtain⟨x,H1,I1,r1,q1⟩:=hz;exact thn (hr pos pins s1 σ H1 _ I1 q1) fun us s2 ⟨xs,H2,I2,r2,q2⟩=>⟨x::xs,H2,I2,.cons r1 r2,q2⟩
def QR(t:TA):TE:=fun σ H Q=>t σ H fun xs H1=>xs.length<=ZP/\∀p,H1 p=none->Q (.ref p) (upd H1 p (.tup xs))
def QY(t:TA):TE:=fun σ H Q=>t σ H fun xs H1=>xs.length<=ZP/\∀p,H1 p=none->Q (.ref p) (upd H1 p (.lst xs))
theorem Ls{x1}(h:PA X es t):PE X (.Tuple es x1 pos) (QR t):=by
 intro pins s σ H Q I hq;refine wpAny_Tuple_spliced (thn (h pos pins s σ H _ I hq) fun us s1 ⟨xs,H1,I1,r,z,q⟩=>⟨by rw[<-r.length];exact z,?_⟩);have hf:H1 s1.heap.objs.size=none:=I1.hok.fresh (ZD _);refine⟨.ref s1.heap.objs.size,upd H1 s1.heap.objs.size (.tup xs),I1.laid (t':=s1.toks) (fun b u e=>ZK _ e) (ZD _) ?_,rfl,q _ hf⟩;exact⟨z,us,r,⟨_,Zy _ rfl,⟨rfl,rfl⟩,_,rfl⟩⟩
theorem Lz(h:PA X es t):PE X (.List es pos) (QY t):=by
 intro pins s σ H Q I hq;refine wpAny_List_spliced (thn (h pos pins s σ H _ I hq) fun us s1 ⟨xs,H1,I1,r,z,q⟩=>⟨by rw[<-r.length];exact z,?_⟩);have hf:H1 s1.heap.objs.size=none:=I1.hok.fresh (ZD _);refine⟨.ref s1.heap.objs.size,upd H1 s1.heap.objs.size (.lst xs),I1.laid (t':=s1.toks) (fun b u e=>ZK _ e) (ZD _) ?_,rfl,q _ hf⟩;exact⟨z,us,0,r,Zy _ rfl⟩
end
abbrev Sp:=List V->Hp->VK->XK->Prop
abbrev CXT:=List Env->Hp->ZZ->XK->Z7->ZZ->Prop
structure I0(P:ZS)(w:Zg)(K:Z6)(mg:Str->Option Z7)(base:Heap)(A:Za)(outer:List Env)(s:ZZ)(H:Hp):Prop where
 frames:A.frames=some outer
 mod:Mod K mg base
 bs:∀b o,base.get? b=some o->s.heap.get? b=some o/\H b=none
 bsz:base.objs.size<=s.heap.objs.size
 funs:s.heap.FunFrames base outer
 frf:∀b∈frs outer,H b=none
 hok:HOk P w H s.heap
 bare:AllBare s.gens
def CE(outer:List Env)(P:ZS)(w:Zg)(H:Hp)(s:ZZ)(Q:VK)(u:Z7)(s':ZZ):Prop:=
 ∃v H',s'.os=s.os/\AllBare s'.gens/\Un (frs outer) [] H H' s.heap s'.heap/\HOk P w H' s'.heap/\eM v u/\Q v H'
def CR(CX:CXT)(outer:List Env)(P:ZS)(w:Zg)(H:Hp)(s:ZZ)(Q:VK)(E:XK)(r:Result)(s':ZZ):Prop:=
 match r with
 |.ok (.ret u)=>CE outer P w H s Q u s'
 |.ok _=>False
 |.error e=>CX outer H s E e s'
structure lU(P:ZS)(w:Zg)(K:Z6)(mg:Str->Option Z7)(base:Heap)(CX:CXT)(k:Nat)(f:Addr)(fd:X5)(ps:List Str)(sp:Sp):Prop where
 len:∀vs H Q E,sp vs H Q E->vs.length=ps.length
 run:∀(A:Za) (outer:List Env) (s:ZZ) (H:Hp) (args:Args) (us:List Z7) (vs:List V) (Q:VK) (E:XK),gS k A->I0 P w K mg base A outer s H->BindsTo s fd args (ps.zip us)->cU vs us->sp vs H Q E->
  codeAny (Zv P w) A (.call (.ref f) args) (CR CX outer P w H s Q E) s
theorem lU.mono{P:ZS}{w:Zg}{K:Z6}{mg:Str->Option Z7}{base:Heap}{CX:CXT}{j k:Nat}{f:Addr}{fd:X5}{ps:List Str}{sp:Sp}(F:lU P w K mg base CX j f fd ps sp)(h:j<=k) :
  lU P w K mg base CX k f fd ps sp:=⟨F.len,fun A outer s H args us vs Q E hr=>F.run A outer s H args us vs Q E (hr.mono h)⟩
theorem I0.make{P:ZS}{w:Zg}{K:Z6}{mg:Str->Option Z7}{base:Heap}{A:Za}{outer:List Env}{s:ZZ}{H:Hp}(e:I0 P w K mg base A outer s H)(C:Addr)(us:List Z7)(kw:List (Str×Z7)) :
  I0 P w K mg base (A.under (.builtin "type.__call__" ⟨.ref C::us,kw⟩)) outer s H:=⟨by first|exact e.frames|(simpa [Around.under,Code.envs,Code.isFrame,pushEnvs] using e.frames),e.mod,e.bs,e.bsz,e.funs,e.frf,e.hok,e.bare⟩
section
variable{X:Cx}{pins:List (Addr×Obj)}{σ:St}{H:Hp}{s s':ZZ}
theorem Inv.env0(I:Inv X pins σ H s):I0 X.prog X.w X.K X.mg X.base X.A X.stack s H:=
 ⟨I.ok.frames,I.ok.mod,I.bs,Zl I.ok.bsz I.sz,I.stack,I.stkFree,I.hok,I.bare⟩
theorem Inv.after{Q:VK}{u:Z7}(I:Inv X pins σ H s)(h:CE X.stack X.prog X.w H s Q u s'):EP X pins σ Q u s':=by
 obtain⟨v,H',os,bare,un,hok,r,q⟩:=h;obtain⟨hh,g,d,t,os'⟩:=s';obtain rfl:os'=s.os:=os;exact⟨v,H',I.call (h':=hh) (g':=g) (d':=d) (t':=t) (ch:=[]) un hok bare (fun b z=>absurd z (by simp)),r,q⟩
end
def Kw(sp:Sp)(dvs:List V)(E:XK)(t:TA):TE:=fun σ H Q=>t σ H fun vs H1=>sp (vs++dvs) H1 Q E
def vR(C:Addr)(m:Str)(sp:Sp)(dvs:List V)(E:XK)(ta:TE)(t:TA):TE:=fun σ H Q=>ta σ H fun x H1=>∃a dx fs,x=.ref a/\H1 a=some (.ins C dx fs)/\fs.lookup m=none/\
 t σ H1 fun vs H2=>sp (x::(vs++dvs)) H2 Q E
def Ap(C:Addr)(sp:Sp)(dvs:List V)(E:XK)(t:TA):TE:=fun σ H Q=>t σ H fun vs H1=>∀x dx,H1 x=none->H1 dx=none->dx≠x->
 sp (.ref x::(vs++dvs)) (upd (upd H1 dx (.own x)) x (.ins C dx [])) (fun v H2=>v=.non/\Q (.ref x) H2) E
def gW(K:Z6)(fd:X5)(ps:List Str)(ds:List Z7):Prop:=
 ∀(s:ZZ) (us:List Z7),K.In s.heap->(us++ds).length=ps.length->BindsTo s fd ⟨us,[]⟩ (ps.zip (us++ds))
theorem gW.all{K:Z6}{fd:X5}{ps:List Str}(h:∀us:List Z7,us.length=ps.length->bindArgs fd ⟨us,[]⟩=pure (ps.zip us)):gW K fd ps []:=fun s us _ hl=>by
 rw[Zu]at hl ⊢;exact .of_eq (h us hl)
def ic(CX:CXT)(X:Cx)(E:XK):Prop:=∀(pins:List (Addr×Obj)) (σ:St) (H:Hp) (s:ZZ) (e:Z7) (s':ZZ),Inv X pins σ H s->CX X.stack H s E e s'->X.xe e s'
section
variable{X:Cx}{CX:CXT}{k:Nat}{f C:Addr}{fd:X5}{ps:List Str}{sp:Sp}{dvs:List V}{ds:List Z7}{E:XK}{x m:Str}{p pos apos:Pos}{e o:ZC}{es:List ZC}{ta:TE}{t:TA}
theorem AE{pins:List (Addr×Obj)}{σ:St}{H:Hp}{s:ZZ}{Q:VK}{us:List Z7}{vs:List V}(F:lU X.prog X.w X.K X.mg X.base CX k f fd ps sp)(hr:gS k X.A)(hb:gW X.K fd ps ds)(hd:cU dvs ds)(hx:ic CX X E)
  (I:Inv X pins σ H s) (r:cU vs us) (h:sp (vs++dvs) H Q E):wpAny (Zv X.prog X.w) X.A (call (.ref f) us) (EP X pins σ Q) X.xe s:=by
 have r2:cU (vs++dvs) (us++ds):=r.append hd;have hl:(us++ds).length=ps.length:=by rw[<-r2.length];exact F.len _ _ _ _ h
 refine wpAny_call (codeAny_mono (F.run X.A X.stack s H ⟨us,[]⟩ (us++ds) (vs++dvs) Q E hr I.env0 (hb s us I.kIn hl) r2 h) fun r s' hq=>?_);cases r with
 |error e=>exact hx pins σ H s e s' I hq
 |ok fl=>
  cases fl with
  |ret u=>exact I.after hq
  |next=>exact False.elim hq
  |brk=>exact False.elim hq
  |cont=>exact False.elim hq
theorem AV(F:lU X.prog X.w X.K X.mg X.base CX k f fd ps sp)(hr:gS k X.A)(hg:Gl X x)(hm:X.mg x=some (.ref f))(hk:PySem.W.keepIn X.K (.ref f)=true)(hb:gW X.K fd ps ds)(hd:cU dvs ds)(hx:ic CX X E)
  (ha:PA X (e::es) t) (hdb:(x == ("__debug__":Str))=false:=by decide) (he:ZX (e::es) X.env=(false,eval e X.env)::ZX es X.env:=by rfl) (hpl:(Zf pos (ZX es X.env)).any (·.1)=false:=by rfl) :
  PE X (.Call (.Name x p) (e::es) [] pos) (Kw sp dvs E t):=by
 intro pins s σ H Q I h;refine wpAny_Call_Name_kw (mY I hg hm ?_ hdb);refine PySem.W.callWith_K (h₀:=X.base) I.ok.mod.kin hk (thn (ha pos pins s σ H _ I h) fun us s1 ⟨vs,H1,I1,r,q⟩=>⟨I1.kIn,?_⟩) he hpl;exact AE F hr hb hd hx I1 r q
theorem HB{pl:Sem Bool}(he:PE X o ta)(c:Cls X.K C)(hm:Cw X.K C m f)(F:lU X.prog X.w X.K X.mg X.base CX k f fd ps sp)(hr:gS k X.A)(hb:gW X.K fd ps ds)(hd:cU dvs ds)(hx:ic CX X E)(ha:PA X (e::es) t)
  (hst:ZX (e::es) X.env=(false,eval e X.env)::ZX es X.env:=by rfl) (hpl:(Zf pos (ZX es X.env)).any (·.1)=false:=by rfl)
  (ht:eval (.Call (.Attribute o m apos) (e::es) [] pos) X.env=(do
   let ov <-eval o X.env
   standAt apos.atName
   let (f,first) <-holding [ov] (getMethod ov m pl)
   callWith pos f first (Zf pos (ZX (e::es) X.env)) (backToKw pos (keywordEach [] X.env))):=by rfl) :
  PE X (.Call (.Attribute o m apos) (e::es) [] pos) (vR C m sp dvs E ta t):=by
 intro pins s σ H Q I h;refine PySem.W.methodCall_KW (pl:=pl) (thn (he pins s σ H _ I h) fun u s1 hz=>?_) ht;obtain⟨x,H1,I1,rx,a,dx,fs,ex,ea,l,q⟩:=hz;subst ex;obtain rfl:u=Value.ref a:=rx;refine nk I1 ea c hm l ?_;refine PySem.W.callWith_K (first:=[.ref a]) (h₀:=X.base) I.ok.mod.kin hm.kp (thn (ha pos pins s1 σ H1 _ I1 q) fun us s2 ⟨vs,H2,I2,r,q2⟩=>⟨I2.kIn,?_⟩) hst hpl;exact AE (us:=.ref a::us) (vs:=.ref a::vs) F hr hb hd hx I2 (.cons rfl r) q2
theorem DI{pl:Sem Bool}(he:PE X o ta)(c:Cls X.K C)(hm:Cw X.K C m f)(F:lU X.prog X.w X.K X.mg X.base CX k f fd ps sp)(hr:gS k X.A)(hb:gW X.K fd ps ds)(hd:cU dvs ds)(hx:ic CX X E)
  (ht:eval (.Call (.Attribute o m apos) [] [] pos) X.env=(do
   let ov <-eval o X.env
   standAt apos.atName
   let (f,first) <-holding [ov] (getMethod ov m pl)
   callWith pos f first (Zf pos (ZX [] X.env)) (backToKw pos (keywordEach [] X.env))):=by rfl) :
  PE X (.Call (.Attribute o m apos) [] [] pos) (vR C m sp dvs E ta Jb):=by
 intro pins s σ H Q I h;refine PySem.W.methodCall_KW (pl:=pl) (thn (he pins s σ H _ I h) fun u s1 hz=>?_) ht;obtain⟨x,H1,I1,rx,a,dx,fs,ex,ea,l,q⟩:=hz;subst ex;obtain rfl:u=Value.ref a:=rx;refine nk I1 ea c hm l ?_;exact PySem.W.callWith_K0 (first:=[.ref a]) I1.kIn hm.kp (AE (us:=[.ref a]) (vs:=[.ref a]) F hr hb hd hx I1 (.cons rfl .nil) q)
structure Mk(K:Z6)(C f:Addr):Prop where
 makes:PySem.W.makesIn K C=true
 init:PySem.W.findIn K (.ref C) "__init__"=some (some (.ref f))
 fn:PySem.W.isFn K (.ref f)=true
 kp:PySem.W.keepIn K (.ref C)=true
theorem xT{pins:List (Addr×Obj)}{σ:St}{H:Hp}{s:ZZ}{Q:VK}{us:List Z7}{vs:List V}(M:Mk X.K C f)(F:lU X.prog X.w X.K X.mg X.base CX k f fd ps sp)(hr:gS (k+1) X.A)(hb:gW X.K fd ps ds)(hd:cU dvs ds)
  (hx:ic CX X E) (I:Inv X pins σ H s) (r:cU vs us)
  (h:∀x dx,H x=none->H dx=none->dx≠x->sp (.ref x::(vs++dvs)) (upd (upd H dx (.own x)) x (.ins C dx [])) (fun v H2=>v=.non/\Q (.ref x) H2) E) :
  wpAny (Zv X.prog X.w) X.A (call (.ref C) us) (EP X pins σ Q) X.xe s:=by
 have hq:=h (s.heap.objs.size+1) s.heap.objs.size (I.hok.fresh (Nat.le_succ _)) (I.hok.fresh (ZD _)) (Zj (Nat.lt_succ_self _));have I2:=Inv.made (C:=C) I;have r2:cU (V.ref (s.heap.objs.size+1)::(vs++dvs)) (Value.ref (s.heap.objs.size+1)::(us++ds)):=.cons rfl (r.append hd);have hl:(Value.ref (s.heap.objs.size+1)::us++ds).length=ps.length:=by
  have e:=r2.length;rw[F.len _ _ _ _ hq]at e;exact e.symm
 refine wpAny_call (D1 (f:=f) I.kIn M.makes M.init (beq_iff_eq.mp M.fn) (codeAny_mono (F.run _ X.stack _ _ ⟨Value.ref (s.heap.objs.size+1)::us,[]⟩ (Value.ref (s.heap.objs.size+1)::(us++ds)) _ _ E (hr.make C us [])
  (I2.env0.make C us []) (hb _ (Value.ref (s.heap.objs.size+1)::us) I2.kIn hl) r2 hq) fun r s' hq'=>?_))
 cases r with
 |error e=>exact hx pins σ _ _ e s' I2 hq'
 |ok fl=>
  cases fl with
  |ret u=>
   obtain⟨v,H',I3,rv,ev,q3⟩:=I2.after hq';subst ev;exact⟨rv,⟨V.ref (s.heap.objs.size+1),H',I3,rfl,q3⟩⟩
  |next=>exact False.elim hq'
  |brk=>exact False.elim hq'
  |cont=>exact False.elim hq'
theorem HC(M:Mk X.K C f)(F:lU X.prog X.w X.K X.mg X.base CX k f fd ps sp)(hr:gS (k+1) X.A)(hg:Gl X x)(hm:X.mg x=some (.ref C))(hb:gW X.K fd ps ds)(hd:cU dvs ds)(hx:ic CX X E)
  (ha:PA X (e::es) t) (hdb:(x == ("__debug__":Str))=false:=by decide) (he:ZX (e::es) X.env=(false,eval e X.env)::ZX es X.env:=by rfl) (hpl:(Zf pos (ZX es X.env)).any (·.1)=false:=by rfl) :
  PE X (.Call (.Name x p) (e::es) [] pos) (Ap C sp dvs E t):=by
 intro pins s σ H Q I h;refine wpAny_Call_Name_kw (mY I hg hm ?_ hdb);refine PySem.W.callWith_K (h₀:=X.base) I.ok.mod.kin M.kp (thn (ha pos pins s σ H _ I h) fun us s1 ⟨vs,H1,I1,r,q⟩=>⟨I1.kIn,?_⟩) he hpl;exact xT M F hr hb hd hx I1 r q
theorem DJ(M:Mk X.K C f)(F:lU X.prog X.w X.K X.mg X.base CX k f fd ps sp)(hr:gS (k+1) X.A)(hg:Gl X x)(hm:X.mg x=some (.ref C))(hb:gW X.K fd ps ds)(hd:cU dvs ds)(hx:ic CX X E)
  (hdb:(x == ("__debug__":Str))=false:=by decide):PE X (.Call (.Name x p) [] [] pos) (Ap C sp dvs E Jb):=by
 intro pins s σ H Q I h;refine wpAny_Call_Name_kw (mY I hg hm ?_ hdb);exact PySem.W.callWith_K0 I.kIn M.kp (xT (us:=[]) M F hr hb hd hx I .nil h)
end
structure aG(N P:List Str)(sc:XA):Prop where
 kind:sc.kind=.function
 co:sc.isCoroutine=false
 gen:sc.isGenerator=false
 nd:N.Nodup
 pre:N.take P.length=P
 par:∀x∈P,sc.names.lookup x=some .local\/sc.names.lookup x=some .cell
 nofree:∀y∈sc.names,y.2≠.free
theorem vv{kindOf:Str->Option NameKind}{x:Str}:∀{binds:List (Str×Z7)} {m:Str->Option Z7},(∀v,(x,v)∉binds)->bindL kindOf binds m x=m x
 |[],_,_=>rfl
 |(n,v)::r,m,h=>by
  unfold bindL;rw[vv fun w hw=>h w (ZJ _ hw)];split
  ·have:x≠n:=by rintro rfl;exact h v ZE
   simp[this]
  ·rfl
theorem vx{kindOf:Str->Option NameKind}{x:Str}:∀{binds:List (Str×Z7)} {m:Str->Option Z7},(∀v,(x,v)∉binds)->bindC kindOf binds m x=m x
 |[],_,_=>rfl
 |(n,v)::r,m,h=>by
  unfold bindC;rw[vx fun w hw=>h w (ZJ _ hw)];split
  ·rfl
  ·have:x≠n:=by rintro rfl;exact h v ZE
   simp[this]
theorem vw{kindOf:Str->Option NameKind}{x:Str}{v:Z7}:∀{P:List Str} {vs:List Z7} {i:Nat} {m:Str->Option Z7},P.Nodup->P[i]?=some x->vs[i]?=some v->kindOf x=some .local->
  bindL kindOf (P.zip vs) m x=some v
 |[],_,_,_,_,h,_,_=>by simp at h
 |_::_,[],_,_,_,_,h,_=>by simp at h
 |p::P,w::vs,0,m,nd,h1,h2,hk=>by
  simp at h1 h2;subst h1;subst h2;show bindL kindOf ((p,w)::P.zip vs) m p=_;unfold bindL;rw[vv fun v hv=>(List.nodup_cons.mp nd).1 (List.of_mem_zip hv).1,if_pos hk];simp
 |p::P,w::vs,i+1,m,nd,h1,h2,hk=>by
  show bindL kindOf ((p,w)::P.zip vs) m x=_;unfold bindL;exact vw (i:=i) (List.nodup_cons.mp nd).2 (by simpa using h1) (by simpa using h2) hk
theorem vy{kindOf:Str->Option NameKind}{x:Str}{v:Z7}:∀{P:List Str} {vs:List Z7} {i:Nat} {m:Str->Option Z7},P.Nodup->P[i]?=some x->vs[i]?=some v->kindOf x≠some .local->
  bindC kindOf (P.zip vs) m x=some v
 |[],_,_,_,_,h,_,_=>by simp at h
 |_::_,[],_,_,_,_,h,_=>by simp at h
 |p::P,w::vs,0,m,nd,h1,h2,hk=>by
  simp at h1 h2;subst h1;subst h2;show bindC kindOf ((p,w)::P.zip vs) m p=_;unfold bindC;rw[vx fun v hv=>(List.nodup_cons.mp nd).1 (List.of_mem_zip hv).1,if_neg hk];simp
 |p::P,w::vs,i+1,m,nd,h1,h2,hk=>by
  show bindC kindOf ((p,w)::P.zip vs) m x=_;unfold bindC;exact vy (i:=i) (List.nodup_cons.mp nd).2 (by simpa using h1) (by simpa using h2) hk
def kO(N:List Str)(vs:List V):St:=vs.map some++ZU (N.length-vs.length) none
def w9(CX:CXT)(P:ZS)(w:Zg)(K:Z6)(mg:Str->Option Z7)(base:Heap)(N:List Str)(qual:Str)(scope:XA)(f:Addr)(cd:Z7)(A:Za)(outer:List Env)(s:ZZ)(H:Hp)(E:XK):Cx where
 prog:=P
 w:=w
 K:=K
 mg:=mg
 base:=base
 A:=A.deeper (envOfC qual scope s.heap.objs.size f cd)
 N:=N
 s₀:=s
 H₀:=H
 env:=envOfC qual scope s.heap.objs.size f cd
 outer:=outer
 stack:=envOfC qual scope s.heap.objs.size f cd::outer
 ex:=[]
 calm:=true
 fn:=fun _=>true
 pn:=[]
 xe:=fun e s'=>wpAny (Zv P w) (A.deeper (envOfC qual scope s.heap.objs.size f cd)) (leaving (envOfC qual scope s.heap.objs.size f cd) e) (fun _ s''=>CX outer H s E e s'') (fun e' s''=>CX outer H s E e' s'') s'
theorem yz{sc:XA}{n:Nat}{x:Str}(h:sc.names.lookup x=some .cell):∃c,(cellsFrom n sc.names []).lookup x=some c:=by
 have q:=PySem.W.cellsFrom_some sc.names n [] (.inl h);exact XU.mp q
theorem Bi{CX:CXT}{P:ZS}{w:Zg}{K:Z6}{mg:Str->Option Z7}{base:Heap}{N ps:List Str}{qual:Str}{scope:XA}{f:Addr}{cd:Z7}{A:Za}{outer:List Env}{s s1:ZZ}{H:Hp}{E:XK}{us:List Z7}{vs:List V}
  (S:aG N ps scope) (hd:A.handled=none) (e0:I0 P w K mg base A outer s H) (hl:vs.length=ps.length) (r:cU vs us)
  (x:InCallC s s.heap.objs.size (bindL (envOfC qual scope s.heap.objs.size f cd).kindOf (ps.zip us) fun _=>none) (cellsFrom (s.heap.objs.size+1) scope.names []) (bindC (envOfC qual scope s.heap.objs.size f cd).kindOf (ps.zip us) fun _=>none) s1) :
  Inv (w9 CX P w K mg base N qual scope f cd A outer s H E) [] (kO N vs) H s1:=by
 have hpl:ps.length<=N.length:=by have:=congrArg List.length S.pre;rw[List.length_take]at this;omega
 obtain⟨h1,tk,rfl,hk⟩:=x.done;have noA:∀b:Addr,b∉(w9 CX P w K mg base N qual scope f cd A outer s H E).ex:=fun b z=>absurd (show b∈([]:List Addr)from z) (by simp);refine⟨⟨e0.mod,S.kind,rfl,rfl,ZD _,fun y z c h1 h2=>?_,fun y hy=>?_,fun y c _ h=>?_,fun _=>hd,Around.frames_deeper e0.frames,.inr ⟨rfl,rfl⟩,fun b z=>absurd z (noA b),e0.bs,e0.bsz,fun b _ _=>noA b,fun b z=>absurd z (noA b),e0.funs,e0.frf⟩,
  rfl,e0.bare,Un.kept hk,⟨_,x.toInCall.ns,fun i y v h1 h2 h3=>?_⟩,fun y c h=>⟨_,x.cell y c h⟩,e0.hok.fresh (ZD _),fun y c h=>?_,fun p hp=>absurd (show p∈([]:List (Addr×Obj))from hp) (by simp),e0.hok.kept hk,?_⟩
 ·exact name_of_addr x.apart (PySem.mem_of_lookup h1) (PySem.mem_of_lookup h2)
 ·have hy:scope.names.lookup y=some .cell\/scope.names.lookup y=some .free:=hy;rcases hy with hy|hy
  ·exact yz hy
  ·exact absurd rfl (S.nofree _ (PySem.mem_of_lookup hy))
 ·exact Nat.le_of_lt (x.above y c (PySem.mem_of_lookup h))
 ·have hi:i<vs.length:=by
   unfold kO at h2;by_cases hi:i<vs.length
   ·exact hi
   ·rw[Zb (by simpa using hi)]at h2;rw[X4]at h2;split at h2<;>cases h2
  have ha:vs[i]?=some v:=by
   unfold kO at h2;rw[Zq (by simpa using hi),Zk]at h2;cases e:vs[i]? with
   |none=>rw[e]at h2;cases h2
   |some a=>rw[e]at h2;cases h2;rfl
  obtain⟨u,hu,rv⟩:=r.get ha;have hp:ps[i]?=some y:=by
   rw[<-S.pre,List.getElem?_take_of_lt (by omega)];exact h1
  have ndP:ps.Nodup:=by rw[<-S.pre];exact S.nd.sublist (List.take_sublist _ _)
  refine⟨u,rv,?_⟩;rcases S.par y (List.mem_of_getElem? hp)with k|k
  ·exact .inl ⟨k,vw ndP hp hu k⟩
  ·obtain⟨c,e⟩:=yz (n:=s.heap.objs.size+1) k;refine .inr ⟨.inl k,c,e,?_⟩;have q:=x.cell y c e;rw[vy ndP hp hu (by show scope.names.lookup y≠_;rw[k];decide)]at q;exact q
 ·exact e0.hok.fresh (Nat.le_of_lt (x.above y c (PySem.mem_of_lookup h)))
 ·unfold kO;show _=N.length;rw[ZY,ZN,List.length_replicate];omega
theorem IF{CX:CXT}{P:ZS}{w:Zg}{K:Z6}{mg:Str->Option Z7}{base:Heap}{k:Nat}{f:Addr}{name qual:Str}{params:Arguments}{body:List Zw}{scope:XA}{dV kV doc pm cdv ct oc:Z7}{an od:Option Addr}
  {osl:Array (Option Z7)} {N ps:List Str} {sp:Sp} (lk:K.lookup f=some ⟨oc,od,.func (PySem.W.fnOf name qual params body scope dV kV doc pm an cdv ct),osl⟩) (hcd:PySem.W.codeIn K cdv qual=true) (S:aG N ps scope)
  (len:∀vs H Q E,sp vs H Q E->vs.length=ps.length)
  (hbody:∀(A:Za) (outer:List Env) (s:ZZ) (H:Hp) (vs:List V) (Q:VK) (E:XK),gS k (A.deeper (envOfC qual scope s.heap.objs.size f cdv))->sp vs H Q E->
   ∃t,PSs (w9 CX P w K mg base N qual scope f cdv A outer s H E) body t/\t { nx:=fun _ H'=>Q .non H',rt:=Q } (kO N vs) H) :
  lU P w K mg base CX (k+1) f (PySem.W.fnOf name qual params body scope dV kV doc pm an cdv ct) ps sp:=by
 refine⟨len,fun A outer s H args us vs Q E hr e0 hb r hsp=>?_⟩;have hl:=len _ _ _ _ hsp;have KX:K.In s.heap:=e0.mod.kin.keeps fun b o e=>(e0.bs b o e).1;have lim:s.heap.NoLimit:=e0.mod.nolimit.keeps fun b o e=>(e0.bs b o e).1;have hkind:∀y∈ps.zip us,scope.names.lookup y.1=some .local\/(scope.names.lookup y.1=some .cell/\((cellsFrom (s.heap.objs.size+1) scope.names []).lookup y.1).isSome=true):=fun⟨n,v⟩ hy=>by
  rcases S.par n (List.of_mem_zip hy).1 with q|q
  ·exact .inl q
  ·exact .inr ⟨q,PySem.W.cellsFrom_some _ _ _ (.inl q)⟩
 refine codeAny_call_function hr.depth (KX _ _ lk) rfl S.co S.gen rfl (PySem.W.codeRec_of KX hcd) (hb _ _ _ _ ?_);refine wpAny_newFunctionEnv_cells S.kind hkind fun env he s1 x=>?_;subst he;refine⟨lim.keeps x.toInCall.keep,codeAny_func ?_⟩;obtain⟨t,ht,hq⟩:=hbody A outer s H vs Q E (hr.deeper _) hsp;have I:Inv (w9 CX P w K mg base N qual scope f cdv A outer s H E) [] (kO N vs) H s1:=Bi S hr.hd e0 hl r x;refine Zn (ht [] s1 (kO N vs) H _ I hq) (fun fl s' hs=>?_) fun e s' hs=>hs;have fin:∀{σ':St} {H':Hp} {v:V} {u:Z7},Inv (w9 CX P w K mg base N qual scope f cdv A outer s H E) [] σ' H' s'->eM v u->Q v H'->CE outer P w H s Q u s':=
  fun{σ' H' v u} J rv q=>⟨v,H',J.os,J.bare,J.base,J.hok,rv,q⟩
 cases fl with
 |ret u=>
  obtain⟨v,σ',H',J,rv,q⟩:=hs;exact fin J rv q
 |next=>
  obtain⟨σ',H',J,q⟩:=hs;exact fin (v:=V.non) (u:=Value.none) J rfl q
 |brk=>
  obtain⟨_,_,_,q⟩:=hs;exact False.elim q
 |cont=>
  obtain⟨_,_,_,q⟩:=hs;exact False.elim q
section
variable{X:Cx}{x:Str}{p pos:Pos}{e:ZC}{es:List ZC}{t:TA}{id T:String}{r:List V->Hp->VK->Prop}
def tCB(r:List V->Hp->VK->Prop)(t:TA):TE:=fun σ H Q=>t σ H fun vs H1=>r vs H1 Q
theorem DN(hc:gU X (.builtin id) r)(hg:Gl X x)(hm:X.mg x=none)(hv:Zc x=some (.builtin id))(ha:PA X (e::es) t)(hn:x≠"__name__":=by decide)(hdb:(x == ("__debug__":Str))=false:=by decide)
  (he:ZX (e::es) X.env=(false,eval e X.env)::ZX es X.env:=by rfl) (hpl:(Zf pos (ZX es X.env)).any (·.1)=false:=by rfl):PE X (.Call (.Name x p) (e::es) [] pos) (tCB r t):=by
 intro pins s σ H Q I h;refine wpAny_Call_Name_kw (u9 I hg hm hv ?_ hn hdb);exact PyProof.Rows.callWith_builtin1 (thn (ha pos pins s σ H _ I h) fun us s1 ⟨vs,H1,I1,r1,q1⟩=>hc pins s1 σ H1 vs us Q I1 r1 q1) he hpl
theorem AU(hc:gU X (.type T) r)(hg:Gl X x)(hm:X.mg x=none)(hv:Zc x=some (.type T))(ha:PA X (e::es) t)(hn:x≠"__name__":=by decide)(hdb:(x == ("__debug__":Str))=false:=by decide)
  (he:ZX (e::es) X.env=(false,eval e X.env)::ZX es X.env:=by rfl) (hpl:(Zf pos (ZX es X.env)).any (·.1)=false:=by rfl):PE X (.Call (.Name x p) (e::es) [] pos) (tCB r t):=by
 intro pins s σ H Q I h;refine wpAny_Call_Name_kw (u9 I hg hm hv ?_ hn hdb);exact PyProof.Rows.callWith_type1 (thn (ha pos pins s σ H _ I h) fun us s1 ⟨vs,H1,I1,r1,q1⟩=>hc pins s1 σ H1 vs us Q I1 r1 q1) he hpl
end
end L2
namespace HT
open PySem PyProof.Rows
section
variable{prog:ZS}{w:Zg}{A:Za}{E:Z7->ZZ->Prop}{s:ZZ}
theorem cat_tup{t b:Addr}{vs ws:List Z7}{Q:Z7->ZZ->Prop}(ht:IsTup s.heap t vs.toArray)(hb:IsTup s.heap b ws.toArray)(hv:vs≠[])
  (h1:ws=[]->Q (.ref t) s) (h2:ws≠[]->Q (.ref s.heap.objs.size) { s with heap:=s.heap.push { cls:=.type "tuple",data:=.seq (vs++ws).toArray } })
  (hsz:vs.length+ws.length<=ZP):wpAny (Zv prog w) A (binaryOp .Add (.ref t) (.ref b)) Q E s:=by
 obtain⟨⟨cls,dd,data,sl⟩,ho,hc,n,hd⟩:=id ht;obtain⟨⟨cls2,dd2,data2,sl2⟩,ho2,hc2,n2,hd2⟩:=id hb;simp only at hc hd hc2 hd2;subst hc hd hc2 hd2;have e:vs.toArray++ws.toArray=(vs++ws).toArray:=by simp
 by_cases hw:ws=[]
 ·exact concat_meets ⟨_,ho,rfl⟩ ⟨_,ho2,rfl⟩ noFill_tuple_add seq_tuple_add PySem.F.slot_tuple_add PySem.F.entry_tuple_add (PySem.F.args_tuple_add_2 _ _)
   (tuple_addW1 t b vs.toArray ws.toArray n n2 dd dd2 sl sl2 (by simpa using hv) (by simp[hw])) ⟨ho,ho2,h1 hw⟩
 ·refine concat_meets ⟨_,ho,rfl⟩ ⟨_,ho2,rfl⟩ noFill_tuple_add seq_tuple_add PySem.F.slot_tuple_add PySem.F.entry_tuple_add (PySem.F.args_tuple_add_2 _ _)
   (tuple_addW2 t b vs.toArray ws.toArray n n2 dd dd2 sl sl2 (by simpa using hv) (by simpa using hw) (by rw[ZI,ZI];exact hsz)) ⟨ho,ho2,?_⟩
  rw[e];exact h2 hw
def sIx(n d:Nat):Option Int->Nat
 |none=>d
 |some v=>if v<0 then(v+(n:Int)).toNat else min v.toNat n
def sIx_none(n d:Nat):sIx n d none=d:=rfl
theorem sIx_nat(n d k:Nat):sIx n d (some (k:Int))=min k n:=by
 show(if (k:Int)<0 then((k:Int)+(n:Int)).toNat else min (k:Int).toNat n)=min k n;rw[if_neg (by omega),Int.toNat_natCast]
theorem KO(n d:Nat)(hd:d<=n)(o:Option Int):sIx n d o<=n:=by
 cases o with
 |none=>exact hd
 |some v=>
  show(if v<0 then(v+(n:Int)).toNat else min v.toNat n)<=n;by_cases hv:v<0
  ·rw[if_pos hv];omega
  ·rw[if_neg hv];exact Nat.min_le_right _ _
theorem BQ(v:Int)(n d:Nat):(if v<0 then max (v+(n:Int)) 0 else min v (n:Int))=((sIx n d (some v):Nat):Int):=by
 show(if v<0 then max (v+(n:Int)) 0 else min v (n:Int))=(((if v<0 then(v+(n:Int)).toNat else min v.toNat n):Nat):Int);by_cases hv:v<0
 ·simp only[if_pos hv];omega
 ·simp only[if_neg hv];omega
theorem zK(lo hi:Option Int)(n:Nat):Builtin.Slice.sliceAdjust lo hi 1 (n:Int)=(((sIx n 0 lo:Nat):Int),((sIx n n hi:Nat):Int)):=by
 have h1:¬((1:Int)<0):=by omega
 unfold Builtin.Slice.sliceAdjust;simp only[h1,if_false];refine Prod.ext ?_ ?_
 ·cases lo with
  |none=>rfl
  |some v=>exact BQ v n 0
 ·cases hi with
  |none=>rfl
  |some v=>exact BQ v n n
theorem zc(i j:Nat):Builtin.Slice.slicePlaces (i:Int) (j:Int) 1=j-i:=by
 unfold Builtin.Slice.slicePlaces;have h1:(1:Int)>0:=by omega
 simp only[h1,if_true,Int.ediv_one];split<;>omega
theorem rR{v:Z7}{o:Option Int}{Q:Option Int->ZZ->Prop}(p:IsPart v o)(h:Q o s):wpAny (Zv prog w) A (Builtin.Slice.slicePartIndex v) Q E s:=by
 cases p with
 |none=>exact slicePart_none h
 |int i t=>exact slicePart_int h
theorem ow{sl:Addr}{vl vu:Z7}{lo hi:Option Int}{n:Nat}{Q:Int×Int×Nat->ZZ->Prop}(hs:s.heap.IsSliceOf sl vl vu .none)(pl:IsPart vl lo)(pu:IsPart vu hi)
  (h:Q (((sIx n 0 lo:Nat):Int),1,sIx n n hi-sIx n 0 lo) s):wpAny (Zv prog w) A (Builtin.Slice.sliceApplied (.ref sl) (pure (n:Int))) Q E s:=by
 obtain⟨os,hos,hcs,hds⟩:=id hs;unfold Builtin.Slice.sliceApplied Builtin.Slice.sliceFields;refine ZQ (ZQ (XJ hos hds (x:=vl) rfl (ZQ (XJ hos hds (x:=vu) rfl (ZQ (XJ hos hds (x:=.none) rfl (ZO ?_)))))));refine ZQ (slicePart_none ?_);show wpAny _ _ (if ((1:Int) == 0)=true then _ else _) _ _ s;rw[if_neg (by decide)];refine ZQ (rR pl (ZQ (rR pu (ZQ (ZO ?_)))));show wpAny _ _ (match Builtin.Slice.sliceAdjust lo hi 1 (n:Int)with|(lo,hi)=>pure (lo,(1:Int),Builtin.Slice.slicePlaces lo hi 1)) _ _ s;rw[zK lo hi n];show wpAny _ _ (pure (((sIx n 0 lo:Nat):Int),(1:Int),Builtin.Slice.slicePlaces ((sIx n 0 lo:Nat):Int) ((sIx n n hi:Nat):Int) 1)) _ _ s;rw[zc];exact ZO h
theorem DD(xs:Array Z7)(i k:Nat):((List.range k).filterMap fun(m:Nat)=>xs[((i:Int)+(m:Int)*1).toNat]?).toArray=((xs.toList.drop i).take k).toArray:=by
 have e:(fun(m:Nat)=>xs[((i:Int)+(m:Int)*1).toNat]?)=fun m=>xs[i+m]?:=by
  funext m;have:((i:Int)+(m:Int)*1).toNat=i+m:=by omega
  rw[this]
 rw[e];have:=pick_run xs i k;rw[List.filterMap_map]at this;have e2:((fun x=>xs[x]?) ∘ fun x=>i+x)=fun m=>xs[i+m]?:=rfl;rw[e2]at this;rw[this]
theorem getItem_tuple_cut{t sl:Addr}{items:Array Z7}{vl vu:Z7}{lo hi:Option Int}{Q:Z7->ZZ->Prop}(ht:IsTup s.heap t items)(hs:s.heap.IsSliceOf sl vl vu .none)(pl:IsPart vl lo)(pu:IsPart vu hi)
  (hw:¬(sIx items.size 0 lo=0/\sIx items.size items.size hi=items.size))
  (h:Q (.ref s.heap.objs.size) { s with heap:=s.heap.push { cls:=.type "tuple",data:=.seq ((items.toList.drop (sIx items.size 0 lo)).take (sIx items.size items.size hi-sIx items.size 0 lo)).toArray } })
  (hsz:items.size<=ZP):wpAny (Zv prog w) A (getItem (.ref t) (.ref sl)) Q E s:=by
 have htake:sizeOk (.seq ((items.toList.drop (sIx items.size 0 lo)).take (sIx items.size items.size hi-sIx items.size 0 lo)).toArray):=by
  show((items.toList.drop (sIx items.size 0 lo)).take (sIx items.size items.size hi-sIx items.size 0 lo)).toArray.size<=ZP;rw[ZI,List.length_take,List.length_drop,Array.length_toList];omega
 have hj:sIx items.size items.size hi<=items.size:=KO _ _ (ZD _) hi;obtain⟨os,hos,hcs,hds⟩:=id hs;have hTs:s.TypeIs (.ref sl) "slice":=⟨os,hos,hcs⟩;unfold getItem;try with_reducible refine wpAny_holding ?_
 first|refine ZQ (ZO ?_)|skip
 refine ZQ (wpAny_sequenceKey ht.typeIs (by decide) ?_);refine ZQ (wpAny_callSpecial?_slot (name:=Str.ofString "__getitem__") ht.typeIs PyProof.Rows.slot_tuple_getitem
  (wpAny_call_entry PyProof.Rows.slot_tuple_getitem ht.typeIs entry_tuple_getitem ?_ (args_tuple_getitem _ _)))
 show wpAny _ _ (Builtin.Tuple.tupleItemsOf (.ref t) >>= _) _ _ s;refine ZQ (tupleItemsOf_ ht ?_);refine ZQ (wpAny_typeOf hTs ?_);rw[if_pos (by decide)];refine ZQ (ow hs pl pu ?_);have hno:¬((((sIx items.size 0 lo:Nat):Int) == 0&&(1:Int) == 1&&(sIx items.size items.size hi-sIx items.size 0 lo) == items.size)=true):=by
  intro q;rw[Bool.and_eq_true,Bool.and_eq_true]at q;have q1:((sIx items.size 0 lo:Nat):Int)=0:=eq_of_beq q.1.1;have q2:sIx items.size items.size hi-sIx items.size 0 lo=items.size:=eq_of_beq q.2;exact hw ⟨by omega,by omega⟩
 show wpAny _ _ (if (((sIx items.size 0 lo:Nat):Int) == 0&&(1:Int) == 1&&(sIx items.size items.size hi-sIx items.size 0 lo) == items.size)=true then _ else _) _ _ s;rw[if_neg hno,DD];first
  |exact ZQ (m:=Builtin.Tuple.tupleExact _) (wpAny_newObj_type (ZO ⟨_,rfl,ZO h⟩) htake)
  |exact ZQ (m:=Builtin.Tuple.tupleExact _) (wpAny_newObj_type (ZQ (ZO (ZO ⟨_,rfl,ZO h⟩))) htake)
  |exact ZQ (ZQ (m:=Builtin.Tuple.tupleExact _) (wpAny_newObj_type (ZO (ZO ⟨_,rfl,ZO h⟩)) htake))
  |exact ZQ (ZQ (m:=Builtin.Tuple.tupleExact _) (wpAny_newObj_type (ZO ⟨_,rfl,ZO h⟩) htake))
end
end HT
namespace L2
open PySem PySem.Spec PyProof.Rows
abbrev TO:=St->Hp->(Option Int->Hp->Prop)->Prop
def PO(X:Cx)(e:Option ZC)(t:TO):Prop:=
 ∀(pins:List (Addr×Obj)) (s:ZZ) (σ:St) (H:Hp) (Q:Option Int->Hp->Prop),Inv X pins σ H s->t σ H Q->
  wpAny (Zv X.prog X.w) X.A (evalPart e X.env) (fun u s'=>∃o H',Inv X pins σ H' s'/\IsPart u o/\Q o H') X.xe s
def Ao:TO:=fun _ H Q=>Q none H
def Ko(t:TE):TO:=fun σ H Q=>t σ H fun x H1=>∃i,x=.int i/\Q (some i) H1
section
variable{X:Cx}{e:ZC}{te:TE}{lo hi:Option ZC}{tl th:TO}{pos p2:Pos}
theorem Hv:PO X none Ao:=by
 intro pins s σ H Q I h;rw[evalPart_none];exact ZO ⟨none,H,I,.none,h⟩
theorem Hu(h:PE X e te):PO X (some e) (Ko te):=by
 intro pins s σ H Q I hw;rw[evalPart_some];refine thn (h pins s σ H _ I hw) fun u s1 hz=>?_;obtain⟨x,H1,I1,r1,q1⟩:=hz;obtain⟨i,rfl,q⟩:=q1;obtain⟨t,rfl⟩:=r1;exact⟨some i,H1,I1,.int i t,q⟩
def SlR(X:Cx)(r:V->Option Int->Option Int->Hp->VK->Prop):Prop:=
 ∀(pins:List (Addr×Obj)) (s:ZZ) (σ:St) (H:Hp) (x:V) (v vl vu:Z7) (lo hi:Option Int) (sl:Addr) (Q:VK),Inv X pins σ H s->eM x v->s.heap.IsSliceOf sl vl vu .none->IsPart vl lo->IsPart vu hi->r x lo hi H Q->
  ∃T id,typeLookup (.type T) "__getitem__"=pure (some (.builtin id))/\s.TypeIs v T/\wpAny (Zv X.prog X.w) X.A (getItem v (.ref sl)) (EP X pins σ Q) X.xe s
theorem SlR.or{r r':V->Option Int->Option Int->Hp->VK->Prop}(h:SlR X r)(h':SlR X r'):SlR X (fun x lo hi H Q=>r x lo hi H Q\/r' x lo hi H Q):=by
 intro pins s σ H x v vl vu lo hi sl Q I rx hs pl pu q;rcases q with q|q
 ·exact h pins s σ H x v vl vu lo hi sl Q I rx hs pl pu q
 ·exact h' pins s σ H x v vl vu lo hi sl Q I rx hs pl pu q
def tSl(r:V->Option Int->Option Int->Hp->VK->Prop)(te:TE)(tl th:TO):TE:=fun σ H Q=>te σ H fun x H1=>tl σ H1 fun l H2=>th σ H2 fun u H3=>r x l u H3 Q
theorem DH{r:V->Option Int->Option Int->Hp->VK->Prop}(hr:SlR X r)(he:PE X e te)(hl:PO X lo tl)(hu:PO X hi th):PE X (.Subscript e (.Slice lo hi none p2) pos) (tSl r te tl th):=by
 intro pins s σ H Q I h;refine Subscript_ (thn (he pins s σ H _ I h) fun v s1 hz=>?_);obtain⟨x,H1,I1,r1,q1⟩:=hz;refine wpAny_Slice (thn (hl pins s1 σ H1 _ I1 q1) fun vl s2 ⟨l,H2,I2,pl,q2⟩=>thn (hu pins s2 σ H2 _ I2 q2) fun vu s3 hz=>?_);obtain⟨u,H3,I3,pu,q3⟩:=hz;rw[evalPart_none];refine ZO ?_;have I4:Inv X pins σ H3 { s3 with heap:=s3.heap.push { cls:=.type "slice",data:=.fields #[vl,vu,.none] } }:=I3.kept (t':=s3.toks) fun b ob q=>ZK _ q;obtain⟨T,id,hT,ht,hg⟩:=hr pins { s3 with heap:=s3.heap.push { cls:=.type "slice",data:=.fields #[vl,vu,.none] } } σ H3 x v vl vu l u s3.heap.objs.size Q I4 r1 (Heap.IsSliceOf.new ..) pl pu q3;show wpAny (Zv X.prog X.w) X.A (subscriptTail e (.Slice lo hi none p2) v (.ref s3.heap.objs.size)) (EP X pins σ Q) X.xe { s3 with heap:=s3.heap.push { cls:=.type "slice",data:=.fields #[vl,vu,.none] } };exact tail_any (ops:=[.ref s3.heap.objs.size,v]) ht hT hg (by with_unfolding_all rfl)
def BN(xs:List V)(lo hi:Option Int):List V:=(xs.drop (HT.sIx xs.length 0 lo)).take (HT.sIx xs.length xs.length hi-HT.sIx xs.length 0 lo)
theorem qE(xs:List V)(lo hi:Option Int):(BN xs lo hi).length<=xs.length:=by
 unfold BN;rw[List.length_take,List.length_drop];omega
def Sd(K:Z6):V->Option Int->Option Int->Hp->VK->Prop:=fun x lo hi H Q=>∃a xs,x=.ref a/\SqT K H a xs/\
 ¬(HT.sIx xs.length 0 lo=0/\HT.sIx xs.length xs.length hi=xs.length)/\∀p,H p=none->Q (.ref p) (upd H p (.tup (BN xs lo hi)))
theorem KA:SlR X (Sd X.K):=by
 intro pins s σ H x v vl vu lo hi sl Q I rx hs pl pu h;obtain⟨a,xs,rfl,hx,hw,q⟩:=h;cases rx;obtain⟨its,r,ht,hz⟩:=I.tuple hx;have hlen:its.toArray.size=xs.length:=by rw[ZI];exact r.length.symm
 refine⟨"tuple",_,PyProof.Rows.slot_tuple_getitem.lookup,ht.typeIs,?_⟩;refine HT.getItem_tuple_cut ht hs pl pu (by rw[hlen];exact hw) ?_ (by rw[hlen];exact hz);rw[hlen];refine⟨.ref s.heap.objs.size,_,I.laid (t':=s.toks) (o:=.tup (BN xs lo hi)) (fun b ob q=>ZK _ q) (ZD _) ?_,rfl,q _ (I.hok.fresh (ZD _))⟩;exact⟨Zl (qE xs lo hi) hz,_,(r.drop (HT.sIx xs.length 0 lo)).take (HT.sIx xs.length xs.length hi-HT.sIx xs.length 0 lo),ET.new _ _⟩
def Pl(K:Z6):R2:=fun x y H Q=>∃a b xs ys,x=.ref a/\y=.ref b/\SqT K H a xs/\SqT K H b ys/\xs≠[]/\xs.length+ys.length<=ZP/\
 (ys=[]->Q (.ref a) H)/\(ys≠[]->∀p,H p=none->Q (.ref p) (upd H p (.tup (xs++ys))))
theorem cU.nil_iff{xs:List V}{us:List Z7}(r:cU xs us):us=[]↔xs=[]:=by
 cases r with
 |nil=>simp
 |cons _ _=>simp
theorem HL:OpR X (binaryOp .Add) (Pl X.K):=by
 intro pins s σ H x y v u Q I rx ry h;obtain⟨a,b,xs,ys,rfl,rfl,ha,hb,hx,hz,q1,q2⟩:=h;cases rx;cases ry;obtain⟨its,r1,p1,_⟩:=I.tuple ha;obtain⟨its2,r2,p2,_⟩:=I.tuple hb;refine HT.cat_tup p1 p2 (fun z=>hx (r1.nil_iff.mp z)) (fun z=>⟨.ref a,H,I,rfl,q1 (r2.nil_iff.mp z)⟩) (fun z=>?_) (by rw[<-r1.length,<-r2.length];exact hz);refine⟨.ref s.heap.objs.size,_,I.laid (t':=s.toks) (o:=.tup (xs++ys)) (fun b ob q=>ZK _ q) (ZD _) ?_,rfl,q2 (fun w=>z (r2.nil_iff.mpr w)) _ (I.hok.fresh (ZD _))⟩;exact⟨by rw[ZY];exact hz,_,r1.append r2,ET.new _ _⟩
end
def ixN(n:Nat)(i:Int):Option Nat:=if 0<=i then(if i<n then some i.toNat else none)else if -(n:Int)<=i then some (i+n).toNat else none
def atI{α:Type}(xs:List α)(i:Int):Option α:=(ixN xs.length i).bind fun j=>xs[j]?
theorem Bf{n:Nat}{i:Int}{j:Nat}(h:ixN n i=some j):seqIndex? i n=some j/\j<n/\-(n:Int)<=i/\i<n:=by
 unfold ixN at h;by_cases h0:0<=i
 ·rw[if_pos h0]at h;by_cases h1:i<n
  ·rw[if_pos h1]at h;have e:i.toNat=j:=Option.some.inj h;exact⟨by rw[seqIndex_of h0 h1,e],by omega,by omega,h1⟩
  ·rw[if_neg h1]at h;cases h
 ·rw[if_neg h0]at h;by_cases h1:-(n:Int)<=i
  ·rw[if_pos h1]at h;have e:(i+n).toNat=j:=Option.some.inj h;exact⟨by rw[seqIndex_neg (by omega) h1,e],by omega,h1,by omega⟩
  ·rw[if_neg h1]at h;cases h
theorem B4{α:Type}{xs:List α}{i:Int}{v:α}(h:atI xs i=some v):∃j,seqIndex? i xs.length=some j/\xs[j]?=some v/\j<xs.length/\-(xs.length:Int)<=i/\i<xs.length:=by
 unfold atI at h;cases e:ixN xs.length i with
 |none=>rw[e]at h;cases h
 |some j=>
  rw[e]at h;obtain⟨h1,h2,h3,h4⟩:=Bf e;exact⟨j,h1,h,h2,h3,h4⟩
theorem nB{α:Type}{xs:List α}{j:Nat}{v:α}(h:xs[j]?=some v):atI xs (j:Int)=some v:=by
 have hj:j<xs.length:=(Z9.mp h).1;have e:ixN xs.length (j:Int)=some j:=by
  unfold ixN;rw[if_pos (by omega),if_pos (by omega)];simp
 unfold atI;rw[e];exact h
def uf(b:ZC):Prop:=∀o i,subscripted b false o i=operate [o,i] (getItem o i)
def IxR(X:Cx)(r:R2):Prop:=
 ∀(value slice:ZC) (pins:List (Addr×Obj)) (s:ZZ) (σ:St) (H:Hp) (x y:V) (v u:Z7) (Q:VK),Inv X pins σ H s->eM x v->eM y u->r x y H Q->
  subscripted slice false v u=operate [v,u] (getItem v u)->wpAny (Zv X.prog X.w) X.A (subscriptTail value slice v u) (EP X pins σ Q) X.xe s
def MtR(X:Cx)(id:String)(r:V->List V->Hp->VK->Prop):Prop:=
 ∀(pins:List (Addr×Obj)) (s:ZZ) (σ:St) (H:Hp) (x:V) (xs:List V) (v:Z7) (us:List Z7) (Q:VK),Inv X pins σ H s->eM x v->cU xs us->r x xs H Q->
  wpAny (Zv X.prog X.w) X.A (call (.builtin id) (v::us)) (EP X pins σ Q) X.xe s
section
variable{X:Cx}{a b:ZC}{ta tb:TE}{pos:Pos}
theorem IxR.or{r r':R2}(h:IxR X r)(h':IxR X r'):IxR X (fun x y H Q=>r x y H Q\/r' x y H Q):=by
 intro value slice pins s σ H x y v u Q I rx ry q hs;rcases q with q|q
 ·exact h value slice pins s σ H x y v u Q I rx ry q hs
 ·exact h' value slice pins s σ H x y v u Q I rx ry q hs
theorem PD{r:R2}(hr:IxR X r)(ha:PE X a ta)(hb:PE X b tb)(hs:uf b):PE X (.Subscript a b pos) (tOp r ta tb):=by
 intro pins s σ H Q I h;exact Subscript_ (NJ ha hb I h fun v u s2 x y H2 I2 rx ry q=>hr a b pins s2 σ H2 x y v u Q I2 rx ry q (hs _ _))
def Sg(K:Z6):R2:=fun x y H Q=>∃p xs i v,x=.ref p/\y=.int i/\SqL K H p xs/\atI xs i=some v/\Q v H
def Sf(K:Z6):R2:=fun x y H Q=>∃p xs i v,x=.ref p/\y=.int i/\SqT K H p xs/\atI xs i=some v/\Q v H
theorem Be:IxR X (Sg X.K):=by
 intro value slice pins s σ H x y v u Q I rx ry h hs;obtain⟨p,xs,i,z,rfl,rfl,hq,he,q⟩:=h;cases rx;obtain⟨t,rfl⟩:=ry;obtain⟨its,r,pl,hz⟩:=I.list hq;obtain⟨j,h1,h2,h3,h4,h5⟩:=B4 he;obtain⟨w,ew,rw'⟩:=r.get h2;have hl:=r.length;have hn:=yd;have fin:EP X pins σ Q w s:=⟨z,H,I,rw',q⟩;by_cases h0:0<=i
 ·have hj:i.toNat=j:=by
   rw[seqIndex_of h0 h5]at h1;exact Option.some.inj h1
  exact item_listR pl.isList h0 (by omega) (by rw[hj];simpa using ew) fin hs
 ·have hj:(i+(its.toArray.size:Int)).toNat=j:=by
   rw[seqIndex_neg (by omega) h4]at h1;rw[ZI,<-hl];exact Option.some.inj h1
  exact subscriptTail_builtinR (x:=w) pl.isList.typeIs slot_list_getitem.lookup
   (wpAny_getItem_list_neg (Q:=fun r s'=>r=w/\EP X pins σ Q r s') pl.isList (by omega) (by rw[ZI]<;>omega) (by omega) (by rw[hj];simpa using ew) ⟨rfl,fin⟩) hs
theorem Fu:IxR X (Sf X.K):=by
 intro value slice pins s σ H x y v u Q I rx ry h hs;obtain⟨p,xs,i,z,rfl,rfl,hq,he,q⟩:=h;cases rx;obtain⟨t,rfl⟩:=ry;obtain⟨its,r,pl,hz⟩:=I.tuple hq;obtain⟨j,h1,h2,h3,h4,h5⟩:=B4 he;obtain⟨w,ew,rw'⟩:=r.get h2;have hl:=r.length;have hn:=yd;have fin:EP X pins σ Q w s:=⟨z,H,I,rw',q⟩;exact subscriptTail_builtinR (x:=w) pl.typeIs slot_tuple_getitem.lookup
  (getItem_tuple (j:=j) (Q:=fun r s'=>r=w/\EP X pins σ Q r s') pl (by omega) (by omega) (by rw[ZI,<-hl];exact h1) (by simpa using ew) ⟨rfl,fin⟩) hs
theorem zh(its:List Z7)(n j:Nat)(u:Z7):Obj.mapSeq (·.setIfInBounds j u) { cls:=.type "list",data:=.seq its.toArray n }={ cls:=.type "list",data:=.seq (its.set j u).toArray n }:=by
 simp[Obj.mapSeq]
theorem Inv.lst{pins:List (Addr×Obj)}{σ:St}{H:Hp}{s:ZZ}{p:Addr}{xs:List V}(I:Inv X pins σ H s)(h:H p=some (.lst xs)) :
  ∃(its:List Z7) (n:Nat),cU xs its/\s.heap.get? p=some { cls:=.type "list",data:=.seq its.toArray n }/\xs.length<=ZP:=by
 obtain⟨z,its,n,r,e⟩:=I.hok p _ h;exact⟨its,n,r,e,z⟩
theorem Inv.lstUpd{pins:List (Addr×Obj)}{σ:St}{H:Hp}{s:ZZ}{p:Addr}{xs ys:List V}{its its':List Z7}{n n':Nat}{f:Obj->Obj}(I:Inv X pins σ H s)(h:H p=some (.lst xs))
  (ho:s.heap.get? p=some { cls:=.type "list",data:=.seq its.toArray n }) (hf:f { cls:=.type "list",data:=.seq its.toArray n }={ cls:=.type "list",data:=.seq its'.toArray n' }) (r:cU ys its') (hz:ys.length<=ZP) (t:Nat) :
  Inv X pins σ (upd H p (.lst ys)) { s with heap:=s.heap.update p f,toks:=t }:=by
 have e:(s.heap.update p f).get? p=some { cls:=.type "list",data:=.seq its'.toArray n' }:=by
  rw[Heap.get?_update_self f ho (by rw[hf]<;>rfl),hf]
 refine I.write (x:=p) (e:=p) (by rw[h];trivial) (.inl rfl) (fun b u hb q=>(Zi _ _ (Ne.symm hb)).trans q) ⟨_,e⟩ ?_;exact⟨hz,its',n',r,e⟩
def Pg:V->V->V->Hp->(Hp->Prop)->Prop:=fun o i v H Q=>∃p xs k j,o=.ref p/\i=.int k/\H p=some (.lst xs)/\ixN xs.length k=some j/\Q (upd H p (.lst (xs.set j v)))
theorem Dd:QD X Pg:=by
 intro pins s σ H o i v ov iv u Q I ro ri rv h;obtain⟨p,xs,k,j,rfl,rfl,hp,hj,q⟩:=h;cases ro;obtain⟨t,rfl⟩:=ri;obtain⟨its,n,r,ho,hz⟩:=I.lst hp;obtain⟨h1,h2,h3,h4⟩:=Bf hj;have hl:=r.length;have hn:=yd;have I':Inv X pins σ (upd H p (.lst (xs.set j v))) { s with heap:=s.heap.update p (Obj.mapSeq (·.setIfInBounds j u)) }:=
  I.lstUpd hp ho (zh its n j u) (r.set rv j) (by rw[List.length_set];exact hz) s.toks
 by_cases h0:0<=k
 ·have hk:k.toNat=j:=by
   rw[seqIndex_of h0 h4]at h1;exact Option.some.inj h1
  exact PySem.W.ki_setAt ho h0 (by omega) (by rw[ZI,<-hl];exact h4) (by rw[hk];exact⟨_,I',q⟩)
 ·have hk:(k+(its.toArray.size:Int)).toNat=j:=by
   rw[seqIndex_neg (by omega) h3]at h1;rw[ZI,<-hl];exact Option.some.inj h1
  exact PySem.W.ki_setBack ho (by omega) (by rw[ZI,<-hl];exact h3) (by omega) (by rw[hk];exact⟨_,I',q⟩)
theorem uI(lo hi:Option Int)(n:Nat):(sliceBounds lo hi none n).1=((HT.sIx n 0 lo:Nat):Int)/\(sliceBounds lo hi none n).2.1=((HT.sIx n n hi:Nat):Int)/\(sliceBounds lo hi none n).2.2=1:=by
 refine⟨?_,?_,rfl⟩
 ·cases lo with
  |none=>simp[sliceBounds,HT.sIx]
  |some i=>
   simp only[sliceBounds,HT.sIx,Option.getD_none,show(1:Int)>0 by decide,if_true];by_cases h:i<0
   ·simp only[h,if_true]<;>omega
   ·simp only[h,if_false]<;>omega
 ·cases hi with
  |none=>simp[sliceBounds,HT.sIx]
  |some i=>
   simp only[sliceBounds,HT.sIx,Option.getD_none,show(1:Int)>0 by decide,if_true];by_cases h:i<0
   ·simp only[h,if_true]<;>omega
   ·simp only[h,if_false]<;>omega
theorem sT(its:List Z7)(lo hi:Option Int):slicePick its.toArray lo hi none=((its.drop (HT.sIx its.length 0 lo)).take (HT.sIx its.length its.length hi-HT.sIx its.length 0 lo)).toArray:=by
 obtain⟨h1,h2,h3⟩:=uI lo hi its.toArray.size;unfold slicePick;rw[h1,h2,h3];simp only[sliceRange_one,pick_run,ZI]<;>rfl
def Se(K:Z6):V->Option Int->Option Int->Hp->VK->Prop:=fun x lo hi H Q=>∃a xs,x=.ref a/\SqL K H a xs/\∀p,H p=none->Q (.ref p) (upd H p (.lst (BN xs lo hi)))
theorem Az:SlR X (Se X.K):=by
 intro pins s σ H x v vl vu lo hi sl Q I rx hs pl pu h;obtain⟨a,xs,rfl,hx,q⟩:=h;cases rx;obtain⟨its,r,ht,hz⟩:=I.list hx;have hlen:=r.length;refine⟨"list",_,slot_list_getitem.lookup,ht.isList.typeIs,?_⟩;refine wpAny_getItem_list_slice ht.isList hs pl pu .none (by simp) ?_ (by rw[ZI]<;>omega);rw[sT,<-hlen];refine⟨.ref s.heap.objs.size,_,I.laid (t':=s.toks) (o:=.lst (BN xs lo hi)) (fun b ob q=>ZK _ q) (ZD _) ?_,rfl,q _ (I.hok.fresh (ZD _))⟩;exact⟨Zl (qE xs lo hi) hz,_,0,(r.drop (HT.sIx xs.length 0 lo)).take (HT.sIx xs.length xs.length hi-HT.sIx xs.length 0 lo),Zy _ rfl⟩
theorem vt:gU X (.builtin "len") (fun xs H Q=>∃p ys,xs=[.ref p]/\(SqL X.K H p ys\/SqT X.K H p ys)/\Q (.int ys.length) H):=by
 intro pins s σ H xs us Q I r h;obtain⟨p,ys,rfl,hq,q⟩:=h;obtain⟨u,rfl,rx⟩:=oj r;cases rx;have hn:=yd;rcases hq with hq|hq
 ·obtain⟨its,r',pl,hz⟩:=I.list hq;have hlen:=r'.length;exact Calls.call_len_list pl.isList (by simp only[ZI]<;>omega) ⟨.int ys.length,H,I.tok _,⟨s.toks+1,by rw[ZI,hlen]⟩,q⟩
 ·obtain⟨its,r',pl,hz⟩:=I.tuple hq;have hlen:=r'.length;exact len_tuple pl (by simp only[ZI]<;>omega) ⟨.int ys.length,H,I.tok _,⟨s.toks+1,by rw[ZI,hlen]⟩,q⟩
theorem gU.or{f:Z7}{r r':List V->Hp->VK->Prop}(h:gU X f r)(h':gU X f r'):gU X f (fun xs H Q=>r xs H Q\/r' xs H Q):=by
 intro pins s σ H xs us Q I rs q;rcases q with q|q
 ·exact h pins s σ H xs us Q I rs q
 ·exact h' pins s σ H xs us Q I rs q
theorem j2:gU X (.type "list") (fun xs H Q=>∃p ys,xs=[.ref p]/\(SqL X.K H p ys\/SqT X.K H p ys)/\∀l,H l=none->Q (.ref l) (upd H l (.lst ys))):=by
 intro pins s σ H xs us Q I r h;obtain⟨p,ys,rfl,hq,q⟩:=h;obtain⟨u,rfl,rx⟩:=oj r;cases rx;have fin:∀(its:List Z7),cU ys its->ys.length<=ZP->∀(h':Heap) (c':Nat),(∀b o',s.heap.get? b=some o'->h'.get? b=some o')->
   h'.get? s.heap.objs.size=some { cls:=.type "list",dict:=none,data:=.seq its.toArray c',slots:=#[] }->EP X pins σ Q (.ref s.heap.objs.size) { s with heap:=h' }:=fun its r' hz h' c' kp e=>
  ⟨.ref s.heap.objs.size,_,I.laid (t':=s.toks) kp (ZD _) (show d6 X.prog X.w _ h' _ (.lst ys)from⟨hz,its,c',r',e⟩),rfl,q _ (I.hok.fresh (ZD _))⟩
 rcases hq with hq|hq
 ·obtain⟨its,r',pl,hz⟩:=I.list hq;have hlen:=r'.length;obtain⟨o,ho,hc,n,hd⟩:=pl.isList;exact call_list_seq p (.inl rfl) ho hc hd (fun h' c' kp e=>fin its r' hz h' c' kp e) (by simp only[ZI]<;>omega)
 ·obtain⟨its,r',pl,hz⟩:=I.tuple hq;have hlen:=r'.length;obtain⟨o,ho,hc,n,hd⟩:=pl;exact call_list_seq p (.inr rfl) ho hc hd (fun h' c' kp e=>fin its r' hz h' c' kp e) (by simp only[ZI]<;>omega)
theorem dh:gU X (.type "tuple") (fun xs H Q=>∃p ys,xs=[.ref p]/\((SqL X.K H p ys/\∀l,H l=none->Q (.ref l) (upd H l (.tup ys)))\/(SqT X.K H p ys/\Q (.ref p) H))):=by
 intro pins s σ H xs us Q I r h;obtain⟨p,ys,rfl,h⟩:=h;obtain⟨u,rfl,rx⟩:=oj r;cases rx;rcases h with⟨hq,q⟩|⟨hq,q⟩
 ·obtain⟨its,r',pl,hz⟩:=I.list hq;have hlen:=r'.length;refine call_tuple_list pl.isList (fun h' kp=>?_) (by simp only[ZI]<;>omega);have I1:Inv X pins σ H { s with heap:=h' }:=I.kept (t':=s.toks) kp;have I2:Inv X pins σ (upd H h'.objs.size (.tup ys)) { s with heap:=h'.push { cls:=.type "tuple",data:=.seq its.toArray } }:=
   I1.laid (t':=s.toks) (fun b o e=>ZK _ e) (ZD _) (show d6 X.prog X.w _ _ _ (.tup ys)from⟨hz,its,r',ET.new _ _⟩)
  exact⟨.ref h'.objs.size,_,I2,rfl,q _ (I1.hok.fresh (ZD _))⟩
 ·obtain⟨its,r',pl,hz⟩:=I.tuple hq;exact call_tuple_same pl ⟨.ref p,H,I,rfl,q⟩
def tyV(K:Z6)(T:String)(x:V)(H:Hp):Prop:=match x with
 |.str _=>T="str"
 |.int _=>T="int"
 | .ref p=>(T="list"/\∃xs,SqL K H p xs)\/(T="tuple"/\∃o,K.lookup p=some o/\o.cls=.type "tuple"/\o.dict=none)\/
   (T="dict"/\((∃kvs,H p=some (.dK kvs))\/∃kvs,H p=some (.dT kvs)))\/(T="set"/\∃S n,H p=some (.set S n))
 |_=>False
theorem Ke{pins:List (Addr×Obj)}{σ:St}{H:Hp}{s:ZZ}{T:String}{x:V}{v:Z7}(I:Inv X pins σ H s)(r:eM x v)(ty:tyV X.K T x H) :
  s.TypeIs v T/\∀a,v=.ref a->∃ob,s.heap.get? a=some ob/\ob.dict=none:=by
 cases x with
 |str z=>
  obtain⟨t,rfl⟩:=r;cases (show T="str" from ty);exact⟨typeIs_str s z t,fun _ e=>nomatch e⟩
 |int i=>
  obtain⟨t,rfl⟩:=r;cases (show T="int" from ty);exact⟨typeIs_int s i t,fun _ e=>nomatch e⟩
 |ref p=>
  cases r;rcases ty with⟨rfl,xs,hq⟩|⟨rfl,o,hk,hc,hd⟩|⟨rfl,hk⟩|⟨rfl,S,n,hk⟩
  ·obtain⟨its,_,pl,_⟩:=I.list hq;refine⟨pl.isList.typeIs,fun a e=>?_⟩;cases e;obtain⟨o,n,e,c,hd,_⟩:=pl;exact⟨o,e,hd⟩
  ·refine⟨⟨o,I.kIn p o hk,hc⟩,fun a e=>?_⟩;cases e;exact⟨o,I.kIn _ o hk,hd⟩
  ·have z:∃o,s.heap.get? p=some o/\o.ExactDict:=by
    rcases hk with⟨kvs,hk⟩|⟨kvs,hk⟩
    ·obtain⟨_,_,_,_,o,_,_,e,ex,_⟩:=I.hok p _ hk;exact⟨o,e,ex⟩
    ·obtain⟨_,_,_,_,o,_,_,e,ex,_⟩:=I.hok p _ hk;exact⟨o,e,ex⟩
   obtain⟨o,e,ex⟩:=z;refine⟨⟨o,e,ex.1⟩,fun a e2=>?_⟩;cases e2;exact⟨o,e,ex.2.1⟩
  ·obtain⟨o,_,_,_,e,ex,_⟩:=I.hok p _ hk;refine⟨⟨o,e,ex.1⟩,fun a e2=>?_⟩;cases e2;exact⟨o,e,ex.2.1⟩
 |_=>exact False.elim ty
def tBM(K:Z6)(T:String)(r:V->List V->Hp->VK->Prop)(to:TE)(t:TA):TE:=fun σ H Q=>to σ H fun x H1=>tyV K T x H1/\t σ H1 fun xs H2=>r x xs H2 Q
variable{o e:ZC}{es:List ZC}{to:TE}{t:TA}{name:Str}{apos cpos:Pos}{T id:String}{r:V->List V->Hp->VK->Prop}
theorem PF(pa:PlainAttrs T)(slot:Slot T name id)(hty:typeOf (.builtin id)=pure (.type "method_descriptor"))(hm:MtR X id r)(ho:PE X o to)(ha:PA X (e::es) t)
  (hbase:attributeBase o name X.env (eval o X.env)=eval o X.env:=by rfl)
  (hfew:((Zf cpos (ZX (e::es) X.env)).all (fun x=>!x.1)&&(backToKw cpos (keywordEach [] X.env)).all (fun x=>x.1.isSome)
   && decide ((e::es).length+([]:List Keyword).length+(if ([]:List Keyword).isEmpty then 0 else 1)<30))=true:=by rfl)
  (hline:(apos.endLine == cpos.line)=true:=by rfl) (hs:ZX (e::es) X.env=(false,eval e X.env)::ZX es X.env:=by rfl) (hplain:(Zf cpos (ZX es X.env)).any (·.1)=false:=by rfl) :
  PE X (.Call (.Attribute o name apos) (e::es) [] cpos) (tBM X.K T r to t):=by
 intro pins s σ H Q I h;refine wpAny_Call_method_late hbase hfew hline rfl (thn (ho pins s σ H _ I h) fun v s1 hz=>?_);obtain⟨x,H1,I1,r1,ty,q1⟩:=hz;obtain⟨h1,h2⟩:=Ke I1 r1 ty;refine⟨T,id,pa,slot,hty,h1,h2,?_⟩;have hA:=ha cpos pins s1 σ H1 _ I1 q1;rw[hs]at hA ⊢;refine Calls.callWith_builtin (by show(false||(Zf cpos (ZX es X.env)).any (·.1))=false;rw[hplain]<;>rfl) (Calls.evalArgs_plain ?_);exact thn hA fun us s2 ⟨vs,H2,I2,r2,q2⟩=>hm pins s2 σ H2 x vs v us Q I2 r1 r2 q2
end
def MtM(X:Cx)(id:String)(r:V->List V->Hp->VK->Prop):Prop:=
 ∀(pins:List (Addr×Obj)) (s:ZZ) (σ:St) (H:Hp) (x:V) (xs:List V) (v:Z7) (us:List Z7) (Q:VK),Inv X pins σ H s->eM x v->cU xs us->r x xs H Q->
  wpAny (Zv X.prog X.w) X.A (call (.builtin id) (v::us)) (EP X pins σ Q) X.xe s
theorem cU.one:∀{x:V} {us:List Z7},cU [x] us->∃u,us=[u]/\eM x u
 |_,_,.cons r .nil=>⟨_,rfl,r⟩
theorem cU.rep{xs:List V}{us:List Z7}(h:cU xs us):∀k:Nat,cU (ZU k xs).flatten (ZU k us).flatten
 |0=>.nil
 |k+1=>by
  rw[X3,X3,XR,XR];exact cU.append h (cU.rep h k)
theorem qt(its:List Z7):∀(k:Nat) (acc:List Z7),
  List.foldl (fun x1 x2=>x1++x2) acc.toArray (ZU k its.toArray)=(acc++(ZU k its).flatten).toArray
 |0,acc=>by simp
 |k+1,acc=>by
  have e:acc.toArray++its.toArray=(acc++its).toArray:=by simp
  have e2:(acc++its)++(ZU k its).flatten=acc++(ZU (k+1) its).flatten:=by
   rw[X3,XR,ZV]
  rw[<-e2,<-qt its k (acc++its),<-e,X3,List.foldl_cons]
section
variable{X:Cx}{pins:List (Addr×Obj)}{σ:St}{H:Hp}{s:ZZ}{l:Addr}{xs ys:List V}
theorem Inv.lset{its its':List Z7}{n:Nat}{f:Array Z7->Array Z7}{t':Nat}(I:Inv X pins σ H s)(hH:H l=some (.lst xs))
  (e:s.heap.get? l=some { cls:=.type "list",data:=.seq its.toArray n }) (hf:f its.toArray=its'.toArray) (hv:cU ys its') (hz:ys.length<=ZP) :
  Inv X pins σ (upd H l (.lst ys)) { s with heap:=s.heap.update l (Obj.mapSeq f),toks:=t' }:=by
 have q:=PySem.IsL.update e f;rw[hf]at q;refine I.write (x:=l) (e:=l) (by rw[hH];exact trivial) (.inl rfl) (fun b' u hb hu=>(Zi s.heap (Obj.mapSeq f) (Ne.symm hb)).trans hu) ⟨_,q⟩ ?_;exact⟨hz,its',_,hv,q⟩
theorem Inv.lnew{its:List Z7}{t':Nat}(I:Inv X pins σ H s)(hv:cU ys its)(hz:ys.length<=ZP) :
  Inv X pins σ (upd H s.heap.objs.size (.lst ys)) { s with heap:=s.heap.push { cls:=.type "list",data:=.seq its.toArray },toks:=t' }:=
 I.laid (fun _ _ q=>ZK _ q) (ZD _) ⟨hz,its,0,hv,Zy _ rfl⟩
def Inv.fresh(I:Inv X pins σ H s):H s.heap.objs.size=none:=I.hok.fresh (ZD _)
theorem Inv.lstM(I:Inv X pins σ H s)(hH:H l=some (.lst xs)):xs.length<=ZP/\∃(its:List Z7) (n:Nat),cU xs its/\xs.length=its.length/\s.heap.get? l=some { cls:=.type "list",data:=.seq its.toArray n }:=by
 obtain⟨z,its,n,r,e⟩:=I.hok l _ hH;exact⟨z,its,n,r,r.length,e⟩
theorem DY{n:Nat}(h:n<=ZP):Builtin.List.listTooLong n=false:=by
 unfold Builtin.List.listTooLong;exact decide_eq_false (by omega)
end
section
variable{X:Cx}
def AL:V->List V->Hp->VK->Prop:=fun x vs H Q=>∃l xs y,x=.ref l/\vs=[y]/\H l=some (.lst xs)/\xs.length<ZP/\Q .non (upd H l (.lst (xs++[y])))
theorem qd:MtM X "list.append" AL:=by
 intro pins s σ H x vs v us Q I rx rv h;obtain⟨l,xs,y,rfl,rfl,hH,hz,q⟩:=h;cases rx;obtain⟨u,rfl,ru⟩:=rv.one;obtain⟨z,its,n,r,hl,e⟩:=I.lstM hH;refine call_meets F.slot_list_append ⟨_,e,rfl⟩ F.entry_list_append (F.args_list_append_2 _ _) (PySem.list_append l its.toArray n u (by rw[ZI];omega)) ⟨e,?_⟩;refine⟨.non,_,I.lset (its':=its++[u]) hH e (by simp) (r.append (.cons ru .nil)) ?_,rfl,q⟩;rw[ZY,List.length_singleton];omega
def Nx:R2:=fun x y H Q=>∃l b xs zs,x=.ref l/\y=.ref b/\H l=some (.lst xs)/\H b=some (.lst zs)/\xs.length+zs.length<=ZP/\∀p,H p=none->Q (.ref p) (upd H p (.lst (xs++zs)))
theorem LY:OpR X (binaryOp .Add) Nx:=by
 intro pins s σ H x y v u Q I rx ry h;obtain⟨l,b,xs,zs,rfl,rfl,hH,hB,hz,q⟩:=h;cases rx;cases ry;obtain⟨z,its,n,r,hl,e⟩:=I.lstM hH;obtain⟨z2,its2,n2,r2,hl2,e2⟩:=I.lstM hB;refine PySem.P.add_list e e2 ?_ (by rw[ZI,ZI];omega);have ea:its.toArray++its2.toArray=(its++its2).toArray:=by simp
 rw[ea];exact⟨.ref _,_,I.lnew (t':=s.toks) (r.append r2) (by rw[ZY];omega),rfl,q _ I.fresh⟩
def Ph:R2:=fun x y H Q=>∃l k xs,x=.ref l/\y=.int k/\H l=some (.lst xs)/\-(2^63)<=k/\k<2^63/\xs.length*k.toNat<=ZP/\
 ∀p,H p=none->Q (.ref p) (upd H p (.lst (ZU k.toNat xs).flatten))
theorem wG{α:Type}(xs:List α)(k:Nat):(ZU k xs).flatten.length=k*xs.length:=by
 induction k with
 |zero=>simp
 |succ k ih=>rw[X3,XR,ZY,ih,Nat.succ_mul,Nat.add_comm]
theorem LU:OpR X (binaryOp .Mult) Ph:=by
 intro pins s σ H x y v u Q I rx ry h;obtain⟨l,k,xs,rfl,rfl,hH,h1,h2,hz,q⟩:=h;cases rx;obtain⟨t,rfl⟩:=ry;obtain⟨z,its,n,r,hl,e⟩:=I.lstM hH;have hlen:its.toArray.size*k.toNat<=ZP:=by rw[ZI,<-hl];exact hz
 have hcap:¬its.toArray.size*k.toNat>(2^63-1) / 8:=by
  have:(ZP:Nat)<=(2^63-1) / 8:=by decide
  omega
 have hfit:¬(!Builtin.List.listFitsIndex k)=true:=by
  rw[fitsIndex_both h1 h2];exact ZL
 have hlong:¬Builtin.List.listTooLong (its.toArray.size*k.toNat)=true:=by
  rw[DY hlen];exact ZL
 have hnew:List.foldl (fun x1 x2=>x1++x2) #[] (ZU (if its.toArray.isEmpty=true then 0 else k.toNat) its.toArray)=(ZU k.toNat its).flatten.toArray:=by
  have f0:∀m:Nat,List.foldl (fun x1 x2=>x1++x2) #[] (ZU m its.toArray)=(ZU m its).flatten.toArray:=fun m=>by
   have:=qt its m [];rw[Zo]at this;exact this
  rw[f0];cases its with
  |nil=>simp
  |cons a r'=>rw[if_neg (by simp)]
 refine wpAny_binaryOp_repeat_ref (T:="list") (U:="int") (by decide) ⟨_,e,rfl⟩ (fun s'=>typeIs_int s' k t) noFill_list_mul F.fills_int_mul F.slot_int_rmul repeat_list F.slot_int_index.lookup
  (call_meets F.slot_int_rmul (typeIs_int s k t) F.entry_int_rmul (F.args_int_rmul_2 _ _) (int___rmul___int_list k t l its.toArray n)
   ⟨e,rfl,⟨_,e,rfl⟩,call_meets F.slot_list_mul ⟨_,e,rfl⟩ F.entry_list_mul (F.args_list_mul_2 _ _) (AutoListH.list___mul___list_int_3 l its.toArray n k t hfit hcap hlong) ⟨e,?_⟩⟩)
 rw[hnew];exact⟨.ref _,_,I.lnew (t':=s.toks) (r.rep k.toNat) (by rw[wG,Nat.mul_comm];exact hz),rfl,q _ I.fresh⟩
end
section
variable{κ:Type}[DecidableEq κ]
def l7(kvs:List (κ×V))(k:κ):Option V:=(kvs.find? fun kv=>decide (kv.1=k)).map (·.2)
def um(kvs:List (κ×V))(k:κ)(v:V):List (κ×V):=
 if (kvs.any fun kv=>decide (kv.1=k))=true then kvs.map (fun kv=>if kv.1=k then(kv.1,v)else kv)else kvs++[(k,v)]
def eO{p:κ×V}{r:List (κ×V)}{k:κ}(e:p.1=k):l7 (p::r) k=some p.2:=by simp[l7,XZ,e]
def eP{p:κ×V}{r:List (κ×V)}{k:κ}(e:¬p.1=k):l7 (p::r) k=l7 r k:=by simp[l7,XZ,e]
theorem oN(k:κ):∀kvs:List (κ×V),(kvs.any fun kv=>decide (kv.1=k))=(l7 kvs k).isSome
 |[]=>rfl
 |p::r=>by
  rw[List.any_cons];by_cases e:p.1=k
  ·simp only[eO e,decide_eq_true e,Bool.true_or,Option.isSome_some]
  ·rw[eP e,decide_eq_false e,Bool.false_or];exact oN k r
theorem xI(k j:κ)(y:V):∀kvs:List (κ×V),l7 (kvs.map fun kv=>if kv.1=k then(kv.1,y)else kv) j=(l7 kvs j).map fun x=>if j=k then y else x
 |[]=>rfl
 |p::r=>by
  have ih:=xI k j y r;rw[ZG];by_cases h:p.1=k
  ·rw[if_pos h];by_cases e:p.1=j
   ·rw[eO (p:=(p.1,y)) e,eO e,XQ,if_pos (e.symm.trans h)]
   ·rw[eP (p:=(p.1,y)) e,eP e,ih]
  ·rw[if_neg h];by_cases e:p.1=j
   ·rw[eO (p:=p) e,eO e,XQ,if_neg (fun z=>h (e.trans z))]
   ·rw[eP (p:=p) e,eP e,ih]
theorem uA(k j:κ)(y:V):∀kvs:List (κ×V),l7 kvs k=none->l7 (kvs++[(k,y)]) j=if j=k then some y else l7 kvs j
 |[],_=>by
  by_cases e:k=j
  ·rw[if_pos e.symm];exact eO (p:=(k,y)) e
  ·rw[if_neg (fun z=>e z.symm)];exact eP (p:=(k,y)) e
 |p::r,hn=>by
  rw[Zt];have hk:¬p.1=k:=fun z=>by rw[eO z]at hn;cases hn
  rw[eP hk]at hn;have ih:=uA k j y r hn;by_cases e:p.1=j
  ·rw[eO e,eO e,if_neg (fun z=>hk (e.trans z))]
  ·rw[eP e,eP e,ih]
theorem C1(kvs:List (κ×V))(k j:κ)(y:V):l7 (um kvs k y) j=if j=k then some y else l7 kvs j:=by
 unfold um;by_cases a:(kvs.any fun kv=>decide (kv.1=k))=true
 ·rw[if_pos a,xI];rw[oN]at a;by_cases e:j=k
  ·obtain⟨x,hx⟩:=XU.mp a;rw[if_pos e,e,hx,XQ,if_pos rfl]
  ·rw[if_neg e];cases l7 kvs j with
   |none=>rfl
   |some x=>rw[XQ,if_neg e]
 ·rw[if_neg a];refine uA k j y kvs ?_;rw[oN]at a;cases q:l7 kvs k with
  |none=>rfl
  |some x=>rw[q]at a;exact(a rfl).elim
theorem qh(kvs:List (κ×V))(k:κ)(v:V):(um kvs k v).length<=kvs.length+1:=by
 unfold um;split
 ·rw[ZN];omega
 ·rw[ZY,ZT,List.length_nil];omega
theorem vG.isSome_eq{o:Option V}{u:Option Z7}(r:vG o u):o.isSome=u.isSome:=by
 cases o with
 |none=>cases u with
  |none=>rfl
  |some _=>exact(show False from r).elim
 |some _=>cases u with
  |none=>exact(show False from r).elim
  |some _=>rfl
theorem KV.val{kvs:List (κ×V)}{vs:List (κ×Z7)}(r:KV kvs vs)(k:κ):vG (l7 kvs k) (valueAt vs k):=by
 unfold KV at r;induction r with
 |nil=>exact True.intro
 |@cons p q ps qs h t ih=>
  obtain⟨h1,h2⟩:=h;by_cases e:p.1=k
  ·have e':q.1=k:=h1.symm.trans e;have b:valueAt (q::qs) k=some q.2:=by simp[valueAt,XZ,e']
   rw[eO e,b];exact h2
  ·have e':¬q.1=k:=fun z=>e (h1.trans z);have b:valueAt (q::qs) k=valueAt qs k:=by simp[valueAt,XZ,e']
   rw[eP e,b];exact ih
theorem KV.any{kvs:List (κ×V)}{vs:List (κ×Z7)}(r:KV kvs vs)(k:κ):(kvs.any fun kv=>decide (kv.1=k))=vs.any fun kv=>decide (kv.1=k):=by
 unfold KV at r;induction r with
 |nil=>rfl
 |cons h t ih=>rw[List.any_cons,List.any_cons,ih,h.1]
theorem KV.repl{kvs:List (κ×V)}{vs:List (κ×Z7)}(r:KV kvs vs)(k:κ){y:V}{u:Z7}(ry:eM y u) :
  KV (kvs.map fun kv=>if kv.1=k then(kv.1,y)else kv) (vs.map fun kv=>if kv.1=k then(kv.1,u)else kv):=by
 unfold KV at r ⊢;induction r with
 |nil=>exact .nil
 |@cons p q ps qs h t ih=>
  rw[ZG,ZG];refine .cons ?_ ih;obtain⟨h1,h2⟩:=h;by_cases e:p.1=k
  ·rw[if_pos e,if_pos (h1.symm.trans e)];exact⟨h1,ry⟩
  ·rw[if_neg e,if_neg (fun z=>e (h1.trans z))];exact⟨h1,h2⟩
theorem KV.put{kvs:List (κ×V)}{vs:List (κ×Z7)}(r:KV kvs vs)(k:κ){y:V}{u:Z7}(ry:eM y u):KV (um kvs k y) (stored vs k u):=by
 unfold um stored;rw[r.any k];by_cases e:(vs.any fun kv=>decide (kv.1=k))=true
 ·rw[if_pos e,if_pos e];exact r.repl k ry
 ·rw[if_neg e,if_neg e];exact Paired.snoc r ⟨rfl,ry⟩
def KV.length{kvs:List (κ×V)}{vs:List (κ×Z7)}(r:KV kvs vs):kvs.length=vs.length:=Paired.length r
end
theorem Il{P:ZS}{w:Zg}{k:Key}{u:Z7}(r:eM (kV k) u):(fK P w).is k u=true:=by
 cases k with
 |inl i=>obtain⟨t,e⟩:=(show ∃t,u=Value.int i t from r);subst e;exact wD P w i t
 |inr x=>obtain⟨t,e⟩:=(show ∃t,u=Value.str x t from r);subst e;exact wC P w x t
theorem vc{P:ZS}{w:Zg}:∀{ks:List Key} {us:List Z7},cU (ks.map kV) us->ItemsAre (fK P w) ks us
 |[],_,r=>by rw[Ze]at r;cases r;exact .nil
 |k::ks,_,r=>by
  rw[ZG]at r;cases r with
  |cons h t=>exact .cons (Il h) (vc t)
abbrev KT(H:Hp):List (List Key×V)->List (List Key×Addr×Z7)->Prop:=Paired fun p q=>p.1=q.1/\H q.2.1=some (.tup (p.1.map kV))/\eM p.2 q.2.2
theorem KT.val{H:Hp}{kvs:List (List Key×V)}{xs:List (List Key×Addr×Z7)}(r:KT H kvs xs)(k:List Key):vG (l7 kvs k) ((atKey xs k).map (·.2)):=by
 induction r with
 |nil=>exact True.intro
 |@cons p q ps qs h t ih=>
  obtain⟨h1,_,h2⟩:=h;by_cases e:p.1=k
  ·have e':q.1=k:=h1.symm.trans e;have b:atKey (q::qs) k=some q.2:=by simp[atKey,XZ,e']
   rw[eO e,b];exact h2
  ·have e':¬q.1=k:=fun z=>e (h1.trans z);have b:atKey (q::qs) k=atKey qs k:=by simp[atKey,XZ,e']
   rw[eP e,b];exact ih
theorem KT.repl{H:Hp}{kvs:List (List Key×V)}{xs:List (List Key×Addr×Z7)}(r:KT H kvs xs)(k:List Key){y:V}{u:Z7}(ry:eM y u) :
  KT H (kvs.map fun kv=>if kv.1=k then(kv.1,y)else kv) (xs.map (putAt k u)):=by
 induction r with
 |nil=>exact .nil
 |@cons p q ps qs h t ih=>
  rw[ZG,ZG];refine .cons ?_ ih;obtain⟨h1,h2,h3⟩:=h;unfold putAt;by_cases e:p.1=k
  ·rw[if_pos e,if_pos (h1.symm.trans e)];exact⟨h1,h2,ry⟩
  ·rw[if_neg e,if_neg (fun z=>e (h1.trans z))];exact⟨h1,h2,h3⟩
theorem KT.put{H:Hp}{kvs:List (List Key×V)}{xs:List (List Key×Addr×Z7)}(r:KT H kvs xs)(k:List Key){b:Addr}{y:V}{u:Z7}(hb:H b=some (.tup (k.map kV)))(ry:eM y u) :
  KT H (um kvs k y) (storedH xs k b u):=by
 have e:(kvs.any fun kv=>decide (kv.1=k))=(atKey xs k).isSome:=by
  rw[oN,(r.val k).isSome_eq,Option.isSome_map]
 unfold um storedH;rw[e];by_cases q:(atKey xs k).isSome=true
 ·rw[if_pos q,if_pos q];exact r.repl k ry
 ·rw[if_neg q,if_neg q];exact Paired.snoc r ⟨rfl,hb,ry⟩
theorem KT.keeps{H H':Hp}{kvs:List (List Key×V)}{xs:List (List Key×Addr×Z7)}(r:KT H kvs xs)(ht:∀b ys,H b=some (.tup ys)->H' b=some (.tup ys)):KT H' kvs xs:=
 Paired.mapP r fun _ _ z=>⟨z.1,ht _ _ z.2.1,z.2.2⟩
section
variable{P:ZS}{w:Zg}{H:Hp}{h:Heap}{a:Addr}
def KU{u:HO}(ok:HOk P w H h)(e:Rd H a u):d6 P w H h a u:=e.ok ok
theorem Ex{kvs:List (Key×V)}(ok:HOk P w H h)(e:Rd H a (.dK kvs)):kvs.length<=ZP/\(a == sysModules)=false/\∃vs,KV kvs vs/\h.DictOf (fK P w) a vs:=
 show d6 P w H h a (.dK kvs)from KU ok e
theorem MX{kvs:List (Key×V)}(ok:HOk P w H h)(e:H a=some (.dK kvs)):kvs.length<=ZP/\(a == sysModules)=false/\∃vs,KV kvs vs/\h.DictOf (fK P w) a vs:=Ex ok (.inl e)
theorem A7{ks:List Key}(ok:HOk P w H h)(e:H a=some (.tup (ks.map kV))):(tupleKind (fK P w)).is h ks a:=by
 obtain⟨_,its,r,o,h1,h2,n,h3⟩:=(show d6 P w H h a (.tup (ks.map kV))from ok a _ e);exact⟨o,its.toArray,n,h1,h2.1,h3,by simpa using vc r⟩
theorem II{kvs:List (List Key×V)}(ok:HOk P w H h)(e:Rd H a (.dT kvs)):kvs.length<=ZP/\(a == sysModules)=false/\
  ∃xs,KT H kvs xs/\h.DictOfH (tupleKind (fK P w)) a xs:=by
 obtain⟨z,y,xs,r,o,es,ep,h1,h2,h3,h4,h5⟩:=(show d6 P w H h a (.dT kvs)from KU ok e);refine⟨z,y,xs,r,o,es,ep,h1,h2,h3,h4,fun x hx=>?_,h5⟩;have all:∀{l:List (List Key×V)} {m:List (List Key×Addr×Z7)},KT H l m->∀x∈m,(tupleKind (fK P w)).is h x.1 x.2.1:=by
  intro l m q;induction q with
  |nil=>intro x hx;exact nomatch hx
  |@cons p q ps qs hq t ih=>
   intro x hx;rcases Zx.mp hx with e|hx
   ·subst e;exact A7 ok (by rw[<-hq.1];exact hq.2.1)
   ·exact ih x hx
 exact all r x hx
theorem Qu{kvs:List (List Key×V)}(ok:HOk P w H h)(e:H a=some (.dT kvs)):kvs.length<=ZP/\(a == sysModules)=false/\
  ∃xs,KT H kvs xs/\h.DictOfH (tupleKind (fK P w)) a xs:=II ok (.inl e)
end
def DGet(H:Hp)(a:Addr)(y:V)(r:Option V):Prop:=
 (∃kvs k,Rd H a (.dK kvs)/\y=kV k/\r=l7 kvs k)\/∃kvs k b,Rd H a (.dT kvs)/\y=.ref b/\H b=some (.tup (k.map kV))/\r=l7 kvs k
def Nr(H:Hp)(a:Addr)(y v:V)(H':Hp):Prop:=
 (∃kvs k,H a=some (.dK kvs)/\y=kV k/\kvs.length<ZP/\H'=upd H a (.dK (um kvs k v)))\/
 ∃kvs k b,H a=some (.dT kvs)/\y=.ref b/\H b=some (.tup (k.map kV))/\kvs.length<ZP/\H'=upd H a (.dT (um kvs k v))
theorem DGet.k{H:Hp}{a:Addr}{kvs:List (Key×V)}{k:Key}(e:H a=some (.dK kvs)):DGet H a (kV k) (l7 kvs k):=.inl ⟨kvs,k,.inl e,rfl,rfl⟩
theorem Nr.k{H:Hp}{a:Addr}{kvs:List (Key×V)}{k:Key}{v:V}(e:H a=some (.dK kvs))(hl:kvs.length<ZP):Nr H a (kV k) v (upd H a (.dK (um kvs k v))):=.inl ⟨kvs,k,e,rfl,hl,rfl⟩
section
variable{X:Cx}{pins:List (Addr×Obj)}{σ:St}{H:Hp}{s:ZZ}{a:Addr}{y v:V}{u r:Z7}{o:Option V}{A:Za}{E:Z7->ZZ->Prop}
theorem Inv.big(I:Inv X pins σ H s):sysModules<s.heap.objs.size:=by
 have h:mainGlobals<s.heap.objs.size:=(I.mod.glob.keeps I.bk).lt;exact Nat.lt_trans (by decide) h
theorem BM{Q:Z7->ZZ->Prop}(hu:A.units+1<cLine)(I:Inv X pins σ H s)(g:DGet H a y (some v))(ry:eM y u)(h:∀w' s',Inv X pins σ H s'->eM v w'->Q w' s') :
  wpAny (Zv X.prog X.w) A (getItem (.ref a) u) Q E s:=by
 rcases g with⟨kvs,k,e,ey,l⟩|⟨kvs,k,b,e,ey,eb,l⟩
 ·subst ey;obtain⟨z,hd,vs,rel,dd⟩:=Ex I.hok e;obtain⟨w',hw,rw'⟩:=vG.some_of (v:=v) (o:=valueAt vs k) (by rw[l];exact rel.val k);exact wpAny_getItem_of (Il ry) dd.mapOf hw (h w' _ (I.tok _) rw')
 ·subst ey;cases (show u=Value.ref b from ry);obtain⟨z,hd,xs,rel,dd⟩:=II I.hok e;obtain⟨w',hw,rw'⟩:=vG.some_of (v:=v) (o:=(atKey xs k).map (·.2)) (by rw[l];exact rel.val k);obtain⟨p,hp,hp2⟩:=X2.mp hw;refine wpAny_getItem_heap (tupleKind_room_in1 hu) (A7 I.hok eb) dd hp ?_;rw[hp2];exact h w' _ (I.tok _) rw'
theorem BK{h':Heap}{t':Nat}{ob:HO}(I:Inv X pins σ H s)(mu:Mut (H a))(hs:Heap.SameBut a s.heap h')(he:∃q,h'.get? a=some q)(new:d6 X.prog X.w (upd H a ob) h' a ob) :
  Inv X pins σ (upd H a ob) { s with heap:=h',toks:=t' }:=
 I.write (x:=a) (e:=a) mu (.inl rfl) (fun b q hb z=>(hs.2 b hb).trans z) he new
theorem MY{P:ZS}{w:Zg}{H':Hp}{h':Heap}{kvs:List (Key×V)}{vs:List (Key×Z7)}(z:kvs.length<=ZP)(hd:(a == sysModules)=false)(rel:KV kvs vs)(dd:h'.DictOf (fK P w) a vs) :
  d6 P w H' h' a (.dK kvs):=⟨z,hd,vs,rel,dd⟩
theorem BL{H':Hp}{Q:Unit->ZZ->Prop}(hu:A.units+1<cLine)(I:Inv X pins σ H s)(g:Nr H a y v H')(ry:eM y u)(rv:eM v r)(h:∀s',Inv X pins σ H' s'->Q () s') :
  wpAny (Zv X.prog X.w) A (setItem (.ref a) u r) Q E s:=by
 rcases g with⟨kvs,k,e,ey,l,eH⟩|⟨kvs,k,b,e,ey,eb,l,eH⟩
 ·subst ey eH;obtain⟨z,hd,vs,rel,dd⟩:=MX I.hok e;have hz:vs.length<=ZP:=by rw[<-rel.length];exact z
  have hl:(um kvs k v).length<=ZP:=by have:=qh kvs k v;omega
  refine wpAny_setItem_pairs (hsz:=hz) (Il ry) dd fun h' dd' hs=>h _ ?_;have he:∃q,h'.get? a=some q:=let ⟨q,_,_,hq,_⟩:=dd';⟨q,hq⟩
  exact BK I (by rw[e];exact True.intro) hs he (MY hl hd (rel.put k rv) dd')
 ·subst ey eH;cases (show u=Value.ref b from ry);obtain⟨z,hd,xs,rel,dd⟩:=Qu I.hok e;have hz:xs.length<=ZP:=by rw[<-Paired.length rel];exact z
  have hl:(um kvs k v).length<=ZP:=by have:=qh kvs k v;omega
  refine wpAny_setItem_heap (hsz:=hz) (tupleKind_room_in1 hu) (A7 I.hok eb) dd fun h' dd' hs=>h _ ?_;obtain⟨q,es,ep,hq,h2,h3,h4,_,h5⟩:=dd';refine BK I (by rw[e];exact True.intro) hs ⟨q,hq⟩ ⟨hl,hd,_,(rel.put k eb rv).keeps fun c ys ec=>?_,q,es,ep,hq,h2,h3,h4,h5⟩;rw[bN (PV ec e (fun z=>nomatch z))];exact ec
end
section
variable{X:Cx}{pins:List (Addr×Obj)}{σ:St}{H:Hp}{s:ZZ}{a:Addr}{kvs:List (Key×V)}{A:Za}{E:Z7->ZZ->Prop}
theorem Qw{Q:Z7->ZZ->Prop}(I:Inv X pins σ H s)(e:Rd H a (.dK kvs))(h:∀t s',Inv X pins σ H s'->Q (.int kvs.length t) s'):wpAny (Zv X.prog X.w) A (call (.builtin "len") [.ref a]) Q E s:=by
 obtain⟨z,hd,vs,rel,dd⟩:=Ex I.hok e;refine call_len_dict hd dd (by rw[<-rel.length];rw[sizeLine_eq]at z;omega) ?_;rw[<-rel.length];exact h _ _ (I.tok _)
end
def NQ(i:ZC):Prop:=∀ov iv,subscripted i false ov iv=operate [ov,iv] (getItem ov iv)
theorem GG{prog:ZS}{w:Zg}{A:Za}{E:Z7->ZZ->Prop}{s:ZZ}{env:Env}{value slice:ZC}{pos:Pos}{T id:String}{Q:Z7->ZZ->Prop}
  (hl:typeLookup (.type T) "__getitem__"=pure (some (.builtin id))) (hs:NQ slice)
  (h:wpAny (Zv prog w) A (eval value env) (fun o s₁=>wpAny (Zv prog w) A (eval slice env) (fun i s₂=>s₂.TypeIs o T/\wpAny (Zv prog w) A (getItem o i) Q E s₂) E s₁) E s) :
  wpAny (Zv prog w) A (eval (.Subscript value slice pos) env) Q E s:=by
 refine Subscript_ (Zn h (fun o s₁ h₁=>Zn h₁ (fun i s₂ h₂=>?_) fun _ _ x=>x) fun _ _ x=>x);obtain⟨hT,h₂⟩:=h₂;unfold subscriptTail;refine ZQ ?_;rw[getitemInPython_of_ne hT.not_modules];refine ZQ (wpAny_specialOf hT hl ?_);have fin:wpAny (Zv prog w) A (subscripted slice false o i) (fun r s₃=>wpAny (Zv prog w) A (letTemporaryGo value o r >>= fun _=>pure r) Q E s₃) E s₂:=by
  rw[hs o i];exact wpAny_operating (Zn h₂ (fun r s₃ h₃=>ZQ (wpAny_letTemporaryGo (ZO h₃))) fun _ _ x=>x)
 first
  |exact ZO (ZQ fin)
  |exact ZQ (ZO (ZQ fin))
  |exact ZQ fin
theorem w8{X:Cx}{pins:List (Addr×Obj)}{σ:St}{H:Hp}{s:ZZ}{a:Addr}{y:V}{o:Option V}(I:Inv X pins σ H s)(g:DGet H a y o):s.TypeIs (.ref a) "dict":=by
 rcases g with⟨kvs,k,e,_,_⟩|⟨kvs,k,b,e,_,_,_⟩
 ·obtain⟨_,_,vs,_,dd⟩:=Ex I.hok e;exact dd.typeIs
 ·obtain⟨_,_,xs,_,dd⟩:=II I.hok e;exact dd.typeIs
def Ku(td ty:TE):TE:=fun σ H Q=>td σ H fun x H1=>ty σ H1 fun y H2=>∃a v,x=.ref a/\DGet H2 a y (some v)/\Q v H2
def KP(td ty tv:TE):TS:=fun D σ H=>tv σ H fun v H1=>td σ H1 fun x H2=>ty σ H2 fun y H3=>∃a H4,x=.ref a/\Nr H3 a y v H4/\D.nx σ H4
section
variable{X:Cx}{o i value:ZC}{pos pos':Pos}{td ty tv:TE}
theorem HD(hu:X.A.units+1<cLine)(ho:PE X o td)(hi:PE X i ty)(hs:NQ i):PE X (.Subscript o i pos) (Ku td ty):=by
 intro pins s σ H Q I h;refine GG PySem.F.slot_dict_getitem.lookup hs (thn (ho pins s σ H _ I h) fun u s1 ⟨x,H1,I1,rx,q1⟩=>thn (hi pins s1 σ H1 _ I1 q1) fun iv s2 hz=>?_);obtain⟨y,H2,I2,ry,a,v,ex,g,q2⟩:=hz;subst ex;obtain rfl:u=Value.ref a:=rx;exact⟨w8 I2 g,BM hu I2 g ry fun w' s3 I3 rw'=>⟨v,H2,I3,rw',q2⟩⟩
theorem Hq(hu:X.A.units+1<cLine)(ho:PE X o td)(hi:PE X i ty)(hv:PE X value tv)(hs:X7 value (some (.Subscript o i pos')) pos.line X.env=pure false) :
  PS X (.Assign [.Subscript o i pos'] value pos) (KP td ty tv):=by
 intro pins s σ H D I h;refine wpAny_Assign_Subscript (thn (hv pins s σ H _ I h) fun r s1 ⟨v,H1,I1,rv,q1⟩=>thn (ho pins s1 σ H1 _ I1 q1) fun u s2 ⟨x,H2,I2,rx,q2⟩=>thn (hi pins s2 σ H2 _ I2 q2) fun iv s3 hz=>?_) hs;obtain⟨y,H3,I3,ry,a,H4,ex,g,q3⟩:=hz;subst ex;obtain rfl:u=Value.ref a:=rx;exact BL hu I3 g ry rv fun s4 I4=>⟨σ,H4,I4,q3⟩
end
theorem Ey{P:ZS}{w:Zg}{H:Hp}(h:Heap)(hb:sysModules<h.objs.size):d6 P w H (h.push { cls:=.type "dict",data:=.dict #[] }) h.objs.size (.dK []):=
 ⟨X1 _,beq_eq_false_iff_ne.mpr (Ne.symm (Zj hb)),[],.nil,Heap.DictOf.new h⟩
def E4:TE:=fun _ H Q=>∀p,H p=none->Q (.ref p) (upd H p (.dK []))
section
variable{X:Cx}{pos:Pos}
theorem DL:PE X (.Dict [] [] pos) E4:=fun pins s σ H Q I h=>
 wpAny_Dict_empty ⟨.ref s.heap.objs.size,_,I.laid (a:=s.heap.objs.size) (o:=.dK []) (t':=s.toks) (fun _ _ q=>ZK _ q) (ZD _) (Ey s.heap I.big),rfl,h _ (I.hok.fresh (ZD _))⟩
end
end L2
namespace Att
open PySem PySem.W PySem.Calls PyProof.Rows
theorem qk{P:Params}{h:Heap}:∀(ns:List Int) (vs:List Z7),WellAll P h vs (ns.map WData.int)->IntsAre vs ns:=by
 intro ns;induction ns with
 |nil=>
  intro vs w;rw[Ze]at w;cases w;exact .nil
 |cons n ns ih=>
  intro vs w;rw[ZG]at w;cases w with
  |cons a b=>
   cases a;exact .cons _ _ (ih _ b)
theorem AB{l:OpenLaw}{n:Nat}(hn:l.most=some n){P:Params}{h:Heap}{args:List WData}{vals:List Z7}
  (hpre:l.row.toRowW.claim.pre args=true) (hwl:WellAll P h vals args) :
  ∃a vs ns,vals=[Value.ref a]/\args=[WData.list (ns.map WData.int)]/\h.get? a=some { cls:=.type "list",data:=.seq vs.toArray }/\IntsAre vs ns/\ns.length<=n:=by
 have hsh:WShape.hasAll [] args [.list .int]=true:=(pre_splitW hpre).1;have hc:l.pre.holds [] { args:=args }=true:=(pre_splitW hpre).2;obtain⟨d,r,rfl,h1,h2⟩:=hasAllW_cons hsh;obtain rfl:=hasAllW_nil h2;obtain⟨xs,rfl,h3⟩:=hasW_list h1;obtain⟨ns,rfl⟩:=items_int h3;have hlen:ns.length<=n:=by
  unfold OpenLaw.pre at hc;have h4:(WTm.not (.lt (.lit (.int (n:Int))) (.len (.arg 0)))).holds [] { args:=[.list (ns.map .int)] }=true:=by
   have h4:=(holds_andW hc).1;rw[hn]at h4;exact h4
  have h5:=condW_of h4 (w_not (w_lt w_lit (w_len_list (w_arg rfl))));rw[ZN]at h5;refine Nat.le_of_not_lt fun q=>?_;have q':(n:Int)<((ns.length:Nat):Int):=by omega
  first
   |(rw[decide_eq_true q']at h5;exact absurd h5 (by decide))
   |(simp at h5;omega)
 cases hwl with
 |cons w1 w2=>
  cases w2;cases w1 with
  |list ho hall=>exact⟨_,_,ns,rfl,rfl,ho,qk ns _ hall,hlen⟩
theorem AR(l:OpenLaw)(args:List WData):l.row.toRowW.claim.post args (.bool true) args=true:=
 postW_of (r:=l.row.toRowW) (X:=(true == true))
  (show WShape.has [] (.bool true) .bool=true by first|rfl|decide|simp[WShape.has,WShape.arms,WShape.armsAll])
  (show(WTm.eq .res (.lit (.bool true))).value [] { args:=args,res:=some (.bool true),after:=args }=some (.bool (true == true))from w_eq_bool (w_res rfl) w_lit) rfl
theorem attach_call{l:OpenLaw}{n:Nat}{q:ZS}{loose:List Str}{XP:(Str->Option Z7)->Heap->Prop}{YP:Zg->Heap->Prop}{d:DefRec}
  (hn:l.most=some n) (hdf:d.params.defaults=[])
  (call:∀(w:Zg) (s₀ s₁:ZZ) (mg mb:Str->Option Z7) (fa:Addr) (o:Obj) (pm cd doc:Z7) (a:Addr) (vs:List Z7) (ns:List Int),
   Ground q loose [] XP w s₀ mg mb s₁.heap->YP w s₁.heap->
   s₁.heap.get? fa=some o->o.data=.func (docDef d.name d.params d.body d.scope pm cd doc)->s₁.heap.CodeRec cd d.name->mg d.name=some (.ref fa)->
   s₁.heap.get? a=some { cls:=.type "list",data:=.seq vs.toArray }->IntsAre vs ns->ns.length<=n->s₁.gens=#[]->
   codeAny (Zv l.prog w) callerA (.call (.ref fa) ⟨[.ref a],[]⟩) (fun r s'=>r=.ok (.ret (.bool true))/\OldK s₁.heap s'.heap/\s'.os=s₁.os/\AllBare s'.gens) s₁) :
  WalkO q loose XP YP l.row.toRowW d [] (fun f vs=>PySem.call f vs):=by
 intro w s₀ s₁ mg mb G Y fa o pm cd doc dV kV ho hd hcd hD hmg hg args vals as hpre hlay hrd hwl hlo;obtain rfl:dV=.none:=Dflts.none hD hdf;obtain rfl:kV=.none:=Dflts.noKw hD;obtain⟨a,vs,ns,rfl,rfl,hobj,hints,hlen⟩:=AB hn hpre hwl;refine enter_call (codeAny_mono (call w s₀ s₁ mg mb fa o pm cd doc a vs ns G Y ho (fd_plain hd) hcd hmg hobj hints hlen hg) fun r s' hq=>?_);obtain⟨rfl,h2,h3,h4⟩:=hq;exact⟨.inl ⟨.bool true,.bool true,[],rfl,fun _=>rfl,.bool true,AR l _,fun _=>⟨List.Pairwise.nil,fun _ hm=>(nomatch hm)⟩⟩,h2,h3,h4⟩
end Att
namespace L2
open PySem PySem.Spec PyProof.Rows
theorem jF:∀{vs:List Z7} {ns:List Int},IntsAre vs ns->cU (ns.map V.int) vs
 |_,_,.nil=>.nil
 |_,_,.cons n t h=>.cons ⟨t,rfl⟩ (jF h)
def QF(H:Hp):Prop:=∀b,H b=none\/∃o xs,H b=some (.frz o (.lst xs))
theorem D7{P:ZS}{w:Zg}{K:Z6}{mg mb:Str->Option Z7}{CX:CXT}{k:Nat}{fa a:Addr}{fd:X5}{x:Str}{sp:Sp}{s₁:ZZ}{vs:List Z7}{ns:List Int}
  (KX:K.In s₁.heap) (hns:s₁.heap.Ns mainGlobals mg) (hb:s₁.heap.Ns builtinsNs mb) (hbb:∀x:Str,x≠"__name__"->mb x=Zc x) (hlim:s₁.heap.NoLimit) (hg:s₁.gens=#[])
  (ha:s₁.heap.get? a=some { cls:=.type "list",data:=.seq vs.toArray }) (hi:IntsAre vs ns) (hl:ns.length<=ZP) (hr:gS k callerA)
  (F:∀base:Heap,K.In base->base.Ns mainGlobals mg->lU P w K mg base CX k fa fd [x] sp) (hbind:∀(s:ZZ) (u:Z7),BindsTo s fd ⟨[u],[]⟩ [(x,u)])
  (hsp:∀H:Hp,QF H->SqL K H a (ns.map V.int)->sp [.ref a] H (fun v _=>v=.bl true) fun _ _ _=>False)
  (hCX:∀H e s',CX [] H s₁ (fun _ _ _=>False) e s'->False) :
  codeAny (Zv P w) callerA (.call (.ref fa) ⟨[.ref a],[]⟩) (fun r s'=>r=.ok (.ret (.bool true))/\OldK s₁.heap s'.heap/\s'.os=s₁.os/\AllBare s'.gens) s₁:=by
 have rv:=jF hi;have lenV:=hi.length;have core:∀H:Hp,QF H->SqL K H a (ns.map V.int)->HOk P w H s₁.heap->(∀b,H b≠none->b=a)->(H a≠none->K.lookup a=none)->
   codeAny (Zv P w) callerA (.call (.ref fa) ⟨[.ref a],[]⟩) (fun r s'=>r=.ok (.ret (.bool true))/\OldK s₁.heap s'.heap/\s'.os=s₁.os/\AllBare s'.gens) s₁:=by
  intro H hO hS hok hA hK;have base_of:∀{b:Addr} {o:Obj},s₁.heap.get? b=some o->H b=none->(Ee s₁.heap H).get? b=some o:=fun e n=>Ed e n;have noA:∀{b:Addr} {o:Obj} {es:Array DictEntry} {ep:Nat},s₁.heap.get? b=some o->o.data=.dict es ep->H b=none:=fun{b o es ep} e d=>by
   cases q:H b with
   |none=>rfl
   |some u=>
    have e':b=a:=hA b (by rw[q];simp);subst e';rw[ha]at e;cases e;have d':Data.seq vs.toArray _=Data.dict es ep:=d;cases d'
  have nsK:∀{b:Addr} {m:Str->Option Z7},s₁.heap.Ns b m->(Ee s₁.heap H).Ns b m:=fun{b m} ⟨o,es,ep,e,d,r⟩=>⟨o,es,ep,base_of e (noA e d),d,r⟩;have hKb:K.In (Ee s₁.heap H):=fun b o e=>base_of (KX b o e) (by
   cases q:H b with
   |none=>rfl
   |some u=>
    have e':b=a:=hA b (by rw[q];simp);subst e';rw[hK (by rw[q];simp)]at e;cases e)
  have hM:Mod K mg (Ee s₁.heap H):=⟨hKb,nsK hns,⟨mb,nsK hb,hbb⟩,let ⟨mc,h1,h2⟩:=hlim;⟨mc,nsK h1,h2⟩⟩;have e0:I0 P w K mg (Ee s₁.heap H) callerA [] s₁ H:=⟨rfl,hM,fun b o e=>HN e,Nat.le_of_eq (Bl _ _),trivial,fun b hb=>absurd (show b∈([]:List Addr)from hb) (by simp),hok,.of_eq hg⟩;refine codeAny_mono ((F _ hKb (nsK hns)).run callerA [] s₁ H ⟨[.ref a],[]⟩ [.ref a] [.ref a] _ _ hr e0 (hbind s₁ (.ref a)) (.cons rfl .nil) (hsp H hO hS)) fun r s' h=>?_;cases r with
  |error e=>exact(hCX H e s' h).elim
  |ok fl=>
   cases fl with
   |next=>exact False.elim h
   |brk=>exact False.elim h
   |cont=>exact False.elim h
   |ret u=>
    obtain⟨v,H',os,bare,un,hok',r',q⟩:=h;have q':v=.bl true:=q;subst q';obtain rfl:u=Value.bool true:=r';refine⟨rfl,OldK.of_keep fun b o e=>?_,os,bare⟩;cases q:H b with
    |none=>exact un.keep b o e q (by intro z;exact absurd (show b∈([]:List Addr)from z) (by simp)) (by simp)
    |some u=>
     rcases hO b with z|⟨ob,xs,z⟩
     ·rw[q]at z;cases z
     ·have z2:=un.frzs b ob _ z;obtain⟨e1,_⟩:=hok b _ z;obtain⟨e2,_⟩:=hok' b _ z2;rw[e]at e1;cases e1;exact e2
 cases hk:K.lookup a with
 |some o=>
  have e:=KX a o hk;rw[ha]at e;cases e;refine core (fun _=>none) (fun _=>.inl rfl) (.inr ⟨_,vs.toArray,_,hk,rfl,rfl,rfl,by rw[ZI,lenV];exact hl,by simpa using rv⟩) (fun b u z=>by have z':(none:Option HO)=some u:=z;cases z') (fun b z=>absurd rfl z) fun z=>absurd rfl z
 |none=>
  refine core (fun b=>if b=a then some (.frz { cls:=.type "list",data:=.seq vs.toArray } (.lst (ns.map V.int)))else none) (fun b=>?_) (.inl (.inr ⟨{ cls:=.type "list",data:=.seq vs.toArray },if_pos rfl⟩)) (fun b u z=>?_) (fun b z=>?_) fun _=>hk
  ·by_cases hb:b=a
   ·exact .inr ⟨_,_,if_pos hb⟩
   ·exact .inl (if_neg hb)
  ·by_cases hb:b=a
   ·have z':=(if_pos hb).symm.trans z;cases z';subst hb;exact⟨ha,by rw[ZN];exact hl,vs,_,rv,ha⟩
   ·have z':=(if_neg hb).symm.trans z;cases z'
  ·by_cases hb:b=a
   ·exact hb
   ·exact absurd (if_neg hb) z
theorem GB{l:PySem.W.OpenLaw}{n k:Nat}{q:ZS}{loose:List Str}{XP:(Str->Option Z7)->Heap->Prop}{YP:Zg->Heap->Prop}{d:DefRec}{K:Params->Z6}{CX:Zg->CXT}{sp:Zg->Sp}{x:Str}
  (hn:l.most=some n) (hn2:n<=ZP) (hdf:d.params.defaults=[]) (hr:gS k callerA)
  (hY:∀(w:Zg) (h:Heap),YP w h->(K w.params).In h)
  (F:∀(w:Zg) (mg:Str->Option Z7) (fa:Addr) (h:Heap),(K w.params).In h->h.Ns mainGlobals mg->mg d.name=some (.ref fa)->
   ∃fd:X5,(∀(s:ZZ) (u:Z7),BindsTo s fd ⟨[u],[]⟩ [(x,u)])/\
    ∀base:Heap,(K w.params).In base->base.Ns mainGlobals mg->lU l.prog w (K w.params) mg base (CX w) k fa fd [x] (sp w))
  (hsp:∀(w:Zg) (H:Hp) (a:Addr) (ns:List Int),ns.length<=n->QF H->SqL (K w.params) H a (ns.map V.int)->sp w [.ref a] H (fun v _=>v=.bl true) fun _ _ _=>False)
  (hCX:∀(w:Zg) (H:Hp) (s:ZZ) (e:Z7) (s':ZZ),CX w [] H s (fun _ _ _=>False) e s'->False) :
  PySem.W.WalkO q loose XP YP l.row.toRowW d [] (fun f vs=>PySem.call f vs):=by
 refine Att.attach_call hn hdf fun w s₀ s₁ mg mb fa o pm cd doc a vs ns G Y ho hd hcd hmg hobj hints hlen hg=>?_;have KX:=hY w _ Y;obtain⟨fd,hb,hF⟩:=F w mg fa _ KX G.T.g hmg;exact D7 KX G.T.g G.T.b G.T.builtins G.T.nolimit hg hobj hints (Zl hlen hn2) hr hF hb (fun H hO hS=>hsp w H a ns hlen hO hS) fun H e s'=>hCX w H s₁ e s'
def bL(s:Zw)(j:Nat):Zw:=match s with
 |.ClassDef _ _ _ body _ _ _ _ _ _ _=>body.getD j (.Pass ⟨0,0,0,0⟩)
 |_=>.Pass ⟨0,0,0,0⟩
def lH(s:Zw):Arguments:=match s with
 |.FunctionDef _ a _ _ _ _ _ _ _ _=>a
 |_=>{ posonlyargs:=[],args:=[],vararg:=none,kwonlyargs:=[],kw_defaults:=[],kwarg:=none,defaults:=[] }
def dX(s:Zw):List Zw:=match s with
 |.FunctionDef _ _ b _ _ _ _ _ _ _=>b
 |_=>[]
def ay(s:Zw):XA:=match s with
 |.FunctionDef _ _ _ _ _ _ sc _ _ _=>sc
 |_=>{ kind:=.function,names:=[],isGenerator:=false,isCoroutine:=false }
abbrev CX0:CXT:=fun _ _ _ _ _ _=>False
abbrev E0:XK:=fun _ _ _=>False
def AW{X:Cx}:ic CX0 X E0:=fun _ _ _ _ _ _ _ h=>h.elim
structure Fun(K:Z6)(x qual:Str)(st:Zw)(f:Addr)(fd:X5):Prop where
 ex:∃(oc:Z7) (od:Option Addr) (kV doc pm:Z7) (an:Option Addr) (cdv ct:Z7) (osl:Array (Option Z7)),
  fd=PySem.W.fnOf x qual (lH st) (dX st) (ay st) .none kV doc pm an cdv ct/\K.lookup f=some ⟨oc,od,.func fd,osl⟩/\PySem.W.codeIn K cdv qual=true
 kp:PySem.W.keepIn K (.ref f)=true
section
variable{P:ZS}{w:Zg}{K:Z6}{mg:Str->Option Z7}{base:Heap}
theorem Fun.ok{x qual:Str}{st:Zw}{f:Addr}{fd:X5}{N ps:List Str}{k:Nat}{sp:Sp}(F:Fun K x qual st f fd)(S:aG N ps (ay st))(len:∀vs H Q E,sp vs H Q E->vs.length=ps.length)
  (hbody:∀(cdv:Z7) (A:Za) (outer:List Env) (s:ZZ) (H:Hp) (vs:List V) (Q:VK) (E:XK),gS k (A.deeper (envOfC qual (ay st) s.heap.objs.size f cdv))->sp vs H Q E->
   ∃t,PSs (w9 CX0 P w K mg base N qual (ay st) f cdv A outer s H E).nox (dX st) t/\t { nx:=fun _ H'=>Q .non H',rt:=Q } (kO N vs) H):lU P w K mg base CX0 (k+1) f fd ps sp:=by
 obtain⟨oc,od,kV,doc,pm,an,cdv,ct,osl,rfl,lk,hcd⟩:=F.ex;refine IF lk hcd S len fun A outer s H vs Q E hr hsp=>?_;obtain⟨t,h,q⟩:=hbody cdv A outer s H vs Q E hr hsp;exact⟨t,h.nox,q⟩
theorem Fun.binds{x qual:Str}{st:Zw}{f:Addr}{fd:X5}{ps:List Str}(F:Fun K x qual st f fd)
  (h:∀(kV doc pm:Z7) (an:Option Addr) (cdv ct:Z7) (us:List Z7),us.length=ps.length->bindArgs (PySem.W.fnOf x qual (lH st) (dX st) (ay st) .none kV doc pm an cdv ct) ⟨us,[]⟩=pure (ps.zip us)):gW K fd ps []:=by
 obtain⟨oc,od,kV,doc,pm,an,cdv,ct,osl,rfl,lk,hcd⟩:=F.ex;exact .all (h kV doc pm an cdv ct)
theorem Fz{x qual:Str}{st:Zw}{f:Addr}{oc:Z7}{od an:Option Addr}{osl:Array (Option Z7)}{kV doc pm cdv ct:Z7}(l:K.lookup f=some ⟨oc,od,.func (PySem.W.fnOf x qual (lH st) (dX st) (ay st) .none kV doc pm an cdv ct),osl⟩)
  (c:PySem.W.codeIn K cdv qual=true) (k:PySem.W.keepIn K (.ref f)=true):Fun K x qual st f (PySem.W.fnOf x qual (lH st) (dX st) (ay st) .none kV doc pm an cdv ct):=⟨⟨oc,od,kV,doc,pm,an,cdv,ct,osl,rfl,l,c⟩,k⟩
end
theorem bF{A:Za}{k:Nat}(hr:gS k A):A.units+1<cLine:=Nat.lt_of_le_of_lt (Nat.add_le_add_left (by decide:1<=64) _) hr.units
def Ay{n:Nat}(h:n<=1000):n<ZP:=Nat.lt_of_le_of_lt h (by decide)
section
variable{X:Cx}
theorem pv(i:Nat){x:Str}{pos:Pos}(hN:X.N[i]?=some x:=by rfl)(hv:Vis X.env.scope x:=by first|exact Or.inl rfl|exact Or.inr (Or.inl rfl)|exact Or.inr (Or.inr rfl))(hd:(x == ("__debug__":Str))=false:=by decide)
  (hcd:(x == ("__classdict__":Str))=false:=by decide):PE X (.Name x pos) (Nw i):=Lq hN hv hd hcd
theorem BU:gU X (.builtin "len") (fun xs H Q=>∃a kvs,xs=[V.ref a]/\H a=some (.dK kvs)/\Q (.int kvs.length) H):=by
 intro pins s σ H xs us Q I r h;obtain⟨a,kvs,rfl,ha,q⟩:=h;obtain⟨u,rfl,ru⟩:=oj r;cases ru;exact Qw I (.inl ha) fun t s' I'=>⟨.int kvs.length,H,I',⟨t,rfl⟩,q⟩
end
theorem Fx{A B:Prop}(h:B):if false=true then A else B:=by
 rw[if_neg ZL];exact h
theorem Fv{A B:Prop}(h:A):if true=true then A else B:=by
 rw[if_pos rfl];exact h
def xn(H H':Hp):Prop:=∀b o,H b=some o->H' b=some o
def xn.refl(H:Hp):xn H H:=fun _ _ h=>h
def xn.trans{H H1 H2:Hp}(a:xn H H1)(b:xn H1 H2):xn H H2:=fun c o h=>b c o (a c o h)
theorem xn.free{H H':Hp}(e:xn H H'){l:Addr}(h:H' l=Option.none):H l=Option.none:=by
 cases q:H l with
 |none=>rfl
 |some o=>
  rw[e l o q]at h;cases h
end L2
namespace OG
open PySem PySem.Spec PyProof.Rows L2
structure WE(X:Cx)(e:ZC)(t:TE):Prop where
 h:PE X e t
structure WT(X:Cx)(e:ZC)(t:TT):Prop where
 h:PT X e t
structure WW(X:Cx)(e:ZC)(t:TT):Prop where
 h:PW X e t
structure WA(X:Cx)(es:List ZC)(t:TA):Prop where
 h:PA X es t
structure WS(X:Cx)(st:Zw)(t:TS):Prop where
 h:PS X st t
structure WSs(X:Cx)(st:List Zw)(t:TS):Prop where
 h:PSs X st t
structure WI(X:Cx)(tg iter:ZC)(wi:TI):Prop where
 h:PI X tg iter wi
structure WG(X:Cx)(target:ZC)(t:TG):Prop where
 h:PG X target t
structure WGs(X:Cx)(ts:List ZC)(t:TGs):Prop where
 h:PGs X ts t
structure WO(X:Cx)(e:Option ZC)(t:TO):Prop where
 h:PO X e t
section
variable{X:Cx}
def ak{i j pos}:WE X (.Constant (.int i) j pos) (tC (.int i)):=⟨LA ⟩
def eN{b j pos}:WE X (.Constant (.bool b) j pos) (tC (.bl b)):=⟨PH ⟩
def bW{j pos}:WE X (.Constant .none j pos) (tC .non):=⟨Ly ⟩
def aC{x j pos}:WE X (.Constant (.str x) j pos) (tC (.str x)):=⟨Lu ⟩
end
section
variable{X:Cx}
variable{pos:Pos}
theorem Gb{e:ZC}{t:TE}(h:WE X e t)(he:∀whole,isTrue e X.env whole=(do let v <-whole;standAt e.pos;holding [v] (truthy v)):=by intro _;rfl):WT X e (tB t):=⟨Lf h.h he⟩
end
section
variable{X:Cx}
variable{a:ZC}{pos:Pos}
variable{tA:TT}
def CF(ha:WT X a tA):WW X (.BoolOp .And [a] pos) tA:=⟨Hj ha.h⟩
def F9(ha:WT X a tA):WW X (.BoolOp .Or [a] pos) tA:=⟨Ld ha.h⟩
end
section
variable{X:Cx}
variable{a b:ZC}{pos:Pos}
variable{tA tB':TT}{rest:List ZC}
theorem Ga(ha:WT X a tA)(hb:WW X (.BoolOp .And (b::rest) pos) tB'):WW X (.BoolOp .And (a::b::rest) pos) (Q1 tA tB'):=⟨Le ha.h hb.h⟩
theorem J4(ha:WT X a tA)(hb:WW X (.BoolOp .Or (b::rest) pos) tB'):WW X (.BoolOp .Or (a::b::rest) pos) (tOr tA tB'):=⟨Pr ha.h hb.h⟩
end
section
variable{X:Cx}
variable{a:ZC}{pos:Pos}
variable{tA:TT}
def Gd(ha:WT X a tA):WT X (.UnaryOp .Not a pos) (QX tA):=⟨Lg ha.h⟩
end
section
variable{X:Cx}
variable{a:ZC}{pos:Pos}
def Gm{op}{t:TE}(h:WE X a t):WE X (.BoolOp op [a] pos) t:=⟨Lw h.h⟩
end
section
variable{X:Cx}
variable{a b:ZC}{ta tb:TE}{pos:Pos}
variable{rest:List ZC}
theorem Gr(ha:WE X a ta)(hb:WE X (.BoolOp .And (b::rest) pos) tb):WE X (.BoolOp .And (a::b::rest) pos) (Ky ta tb):=⟨LC ha.h hb.h⟩
end
section
variable{X:Cx}
variable{a:ZC}{ta:TE}{pos:Pos}
def Gn(ha:WE X a ta):WE X (.UnaryOp .Not a pos) (Kr ta):=⟨Lx ha.h⟩
end
section
variable{X:Cx}
variable{a b:ZC}{ta tb:TE}{pos:Pos}
variable{tA:TT}
def Aa{c:ZC}(hc:WT X c tA)(ha:WE X a ta)(hb:WE X b tb):WE X (.IfExp c a b pos) (tIf tA ta tb):=⟨DK hc.h ha.h hb.h⟩
end
section
variable{X:Cx}
def CJ :WSs X [] Ks:=⟨Hm ⟩
end
section
variable{X:Cx}{st:Zw}{rest:List Zw}{t u:TS}
def lW(h1:WS X st t)(h2:WSs X rest u):WSs X (st::rest) (QU t u):=⟨Dx h1.h h2.h⟩
end
section
variable{X:Cx}{st:Zw}{t:TS}
def xA(h1:WS X st t):WSs X [st] t:=⟨Hl h1.h⟩
end
section
variable{X:Cx}{e:ZC}{te:TE}{pos:Pos}
def xB(he:WE X e te)(hs:X7 e none pos.line X.env=pure false:=by rfl):WS X (.Expr e pos) (Kt te):=⟨Ho he.h hs⟩
def vN(he:WE X e te):WS X (.Return (some e) pos) (QV te):=⟨Lj he.h⟩
end
section
variable{X:Cx}{t u:TS}{pos:Pos}
theorem EZ{c:ZC}{a b:List Zw}{tc:TT}(hc:WT X c tc)(ha:WSs X a t)(hb:WSs X b u):WS X (.If c a b pos) (QZ tc t u):=⟨Pt hc.h ha.h hb.h⟩
end
section
variable{X:Cx}{st:Zw}
def z4 :WS X st xM:=⟨DB ⟩
end
section
variable{X:Cx}
def rG{sts:List Zw}:WSs X sts xM:=⟨AQ ⟩
end
section
variable{X:Cx}{pos:Pos}
theorem bC{i:Nat}{x:Str}(hN:X.N.Nodup)(hi:X.N[i]?=some x)(hx:Loc X.env.scope x)(hf:X.fn x=true\/X.env.scope.names.lookup x=some .local:=by first|exact .inl rfl|exact .inr rfl|assumption):WG X (.Name x pos) (zB i):=⟨HA hN hi hx hf⟩
end
section
variable{X:Cx}
def CO :WGs X [] Ro:=⟨Hz ⟩
theorem z6{e:ZC}{es:List ZC}{t:TG}{u:TGs}(h1:WG X e t)(h2:WGs X es u)(hs:(assignEach (e::es) X.env).map (·.2)=assign e X.env::(assignEach es X.env).map (·.2):=by rfl):WGs X (e::es) (ML t u):=⟨DG h1.h h2.h hs⟩
end
section
variable{X:Cx}{pos:Pos}
theorem Gi{es:List ZC}{k:Nat}{t:TGs}{n:Nat}(hc:X.calm=true)(h:WGs X es t)(hn:(assignEach es X.env).length=n:=by rfl)(hst:(assignEach es X.env).findIdx? (·.1)=none:=by rfl):WG X (.Tuple es k pos) (Rl X.K n t):=⟨Lo hc h.h hn hst⟩
theorem Gj {o i : ZC} {to ti : TE} {t : NM} (ho : WE X o to) (hi : WE X i ti) (hs : QD X t) (ha : ∀ v, assign (.Subscript o i pos) X.env v = (do
   let ov <-holding [v] (eval o X.env)
   let iv <-holding [v,ov] (eval i X.env)
   standAt pos
   holding [v,ov,iv] (setItem ov iv v)
   release [v,ov,iv] []):=by intro _;rfl):WG X (.Subscript o i pos) (Rm to ti t):=⟨Lp ho.h hi.h hs ha⟩
theorem z5{tg e:ZC}{te:TE}{g:TG}(he:WE X e te)(hg:WG X tg g)(hs:swapsWithSole [tg] e pos.line X.env=pure false:=by rfl)(hw:swappedStores [tg] e X.env=pure none:=by rfl)(h1:(assignEach [tg] X.env).map (·.2)=[assign tg X.env]:=by rfl):WS X (.Assign [tg] e pos) (Kx te g):=⟨Lm he.h hg.h hs hw h1⟩
theorem vM{i:Nat}{x:Str}{e:ZC}{te:TE}{pos':Pos}(hN:X.N.Nodup)(hi:X.N[i]?=some x)(hx:Loc X.env.scope x)(he:WE X e te)(hs:X7 e (some (.Name x pos')) pos.line X.env=pure false:=by rfl)(hf:X.fn x=true\/X.env.scope.names.lookup x=some .local:=by first|exact .inl rfl|exact .inr rfl|assumption):WS X (.Assign [.Name x pos'] e pos) (Kx te (zB i)):=⟨Li hN hi hx he.h hs hf⟩
theorem z3{c:ZC}{body:List Zw}{tc:TT}{tb:TS}(hp:PassesOwn (Zv X.prog X.w) X.A X.env X.xe)(hc:WT X c tc)(hb:WSs X body tb):WS X (.While c body [] pos) (An tc tb):=⟨Dy hp hc.h hb.h⟩
end
section
variable{X:Cx}{tg:ZC}
def CL{l:ZC}{tl:TE}(hl:WE X l tl):WI X tg l (MJ X.K tl):=⟨Hy hl.h⟩
def Gg{l:ZC}{tl:TE}(hl:WE X l tl):WI X tg l (Rk X.K tl):=⟨Ln hl.h⟩
theorem yS{a:ZC}{ta:TA}{p pos:Pos}(hg:Gl X "range")(hm:X.mg "range"=none)(ha:WA X [a] ta)(hs:ZX [a] X.env=[(false,eval a X.env)]:=by rfl):WI X tg (.Call (.Name "range" p) [a] [] pos) (MI ta):=⟨AS hg hm ha.h hs⟩
theorem Ge{iter:ZC}{body:List Zw}{wi:TI}{g:TG}{tb:TS}{pos:Pos}(hp:PassesOwn (Zv X.prog X.w) X.A X.env X.xe)(hc:X.calm=true)(hi:WI X tg iter wi)(hg:WG X tg g)(hb:WSs X body tb)(hs:∀x,foldedSetIterable iter X.env x=pure x:=by intro _;rfl):WS X (.For tg iter body [] pos) (O8 wi g tb):=⟨Lk hp hc hi.h hg.h hb.h hs⟩
end
section
variable{X:Cx}{a b:ZC}{ta tb:TE}{pos:Pos}
theorem J6{op:Operator}{r:R2}(ho:OpR X (binaryOp op) r)(ha:WE X a ta)(hb:WE X b tb):WE X (.BinOp a op b pos) (tOp r ta tb):=⟨PB ho ha.h hb.h⟩
end
section
variable{X:Cx}{a:ZC}{ta:TE}{pos:Pos}
theorem J5{op:UnaryOp}{r:V->Hp->VK->Prop}(ho:UnR X (unaryOp op) r)(ha:WE X a ta):WE X (.UnaryOp op a pos) (tUn r ta):=⟨Pz ho ha.h⟩
end
section
variable{X:Cx}{a b:ZC}{ta tb:TE}{pos:Pos}
theorem xF{op:CmpOp}{r:R2}(ho:OpR X (compareOp op) r)(ha:WE X a ta)(hb:WE X b tb)(hm:behindInMarks op b=false):WE X (.Compare a [op] [b] pos) (tOp r ta tb):=⟨HE ho ha.h hb.h hm⟩
theorem CH{op:CmpOp}{r:R2}(ho:OpR X (compareOp op) r)(ha:WE X a ta)(hb:WE X b tb)(hm:behindInMarks op b=false):WT X (.Compare a [op] [b] pos) (Km (tOp r ta tb)):=⟨Hk ho ha.h hb.h hm⟩
end
section
variable{X:Cx}{a b c:ZC}{ta tb tc:TE}{pos:Pos}
theorem Ad{op op':CmpOp}{r r':R2}(ho:OpR X (compareOp op) r)(ho':OpR X (compareOp op') r')(ha:WE X a ta)(hb:WE X b tb)(hc:WE X c tc)(hm:lastMarks [op,op'] [b,c]=false:=by with_unfolding_all rfl):WE X (.Compare a [op,op'] [b,c] pos) (Aq r r' ta tb tc):=⟨DM ho ho' ha.h hb.h hc.h hm⟩
end
section
variable{X:Cx}{a b c:ZC}{ta tb:TE}{pos:Pos}
theorem uv(ha:WE X a ta)(hb:WE X b tb)(hs:ue b):WE X (.Subscript a b pos) (tOp (fun x y H Q=>∃z i c,x=.str z/\y=.int i/\0<=i/\i<2^63/\i<z.length/\z.cps[i.toNat]?=some c/\Q (.str ⟨#[c]⟩) H) ta tb):=⟨wc ha.h hb.h hs⟩
end
section
variable{X:Cx}{e:ZC}{f:Str}{pos:Pos}{ta:TE}
theorem Gq(he:WE X e ta)(hb:attributeBase e f X.env (eval e X.env)=eval e X.env):WE X (.Attribute e f pos) (Q0 X.K ta f):=⟨LB he.h hb⟩
end
section
variable{X:Cx}{o value:ZC}{f:Str}{pos pos':Pos}{ta tv:TE}
theorem Gf(ha:WE X o ta)(hv:WE X value tv)(hs:X7 value (some (.Attribute o f pos')) pos.line X.env=pure false):WS X (.Assign [.Attribute o f pos'] value pos) (Q2 X.K ta tv f):=⟨Ll ha.h hv.h hs⟩
end
section
variable{X:Cx}
def jE :WA X [] Jb:=⟨LF ⟩
end
section
variable{X:Cx}{e:ZC}{es:List ZC}{te:TE}{t:TA}
theorem cZ(ha:WE X e te)(hr:WA X es t)(hs:ZX (e::es) X.env=(false,eval e X.env)::ZX es X.env:=by rfl):WA X (e::es) (Kv te t):=⟨HG ha.h hr.h hs⟩
end
section
variable{X:Cx}{es:List ZC}{t:TA}{pos:Pos}
def Gk{x1}(h:WA X es t):WE X (.Tuple es x1 pos) (QR t):=⟨Ls h.h⟩
def z9(h:WA X es t):WE X (.List es pos) (QY t):=⟨Lz h.h⟩
end
section
variable{X:Cx}{CX:CXT}{k:Nat}{f C:Addr}{fd:X5}{ps:List Str}{sp:Sp}{dvs:List V}{ds:List Z7}{E:XK}{m:Str}{pos apos:Pos}{e o:ZC}{es:List ZC}{ta:TE}{t:TA}
theorem xE {pl : Sem Bool} (he : WE X o ta) (c : Cls X.K C) (hm : Cw X.K C m f) (F : lU X.prog X.w X.K X.mg X.base CX k f fd ps sp) (hr : gS k X.A) (hb : gW X.K fd ps ds) (hd : cU dvs ds) (hx : ic CX X E) (ha : WA X (e :: es) t) (hst : ZX (e :: es) X.env = (false, eval e X.env) :: ZX es X.env := by rfl) (hpl : (Zf pos (ZX es X.env)).any (·.1) = false := by rfl) (ht : eval (.Call (.Attribute o m apos) (e :: es) [] pos) X.env = (do
   let ov <-eval o X.env
   standAt apos.atName
   let (f,first) <-holding [ov] (getMethod ov m pl)
   callWith pos f first (Zf pos (ZX (e::es) X.env)) (backToKw pos (keywordEach [] X.env))):=by rfl):WE X (.Call (.Attribute o m apos) (e::es) [] pos) (vR C m sp dvs E ta t):=⟨HB he.h c hm F hr hb hd hx ha.h hst hpl ht⟩
end
section
variable{X:Cx}{CX:CXT}{k:Nat}{f C:Addr}{fd:X5}{ps:List Str}{sp:Sp}{dvs:List V}{ds:List Z7}{E:XK}{m:Str}{pos apos:Pos}{o:ZC}{ta:TE}
theorem z7 {pl : Sem Bool} (he : WE X o ta) (c : Cls X.K C) (hm : Cw X.K C m f) (F : lU X.prog X.w X.K X.mg X.base CX k f fd ps sp) (hr : gS k X.A) (hb : gW X.K fd ps ds) (hd : cU dvs ds) (hx : ic CX X E) (ht : eval (.Call (.Attribute o m apos) [] [] pos) X.env = (do
   let ov <-eval o X.env
   standAt apos.atName
   let (f,first) <-holding [ov] (getMethod ov m pl)
   callWith pos f first (Zf pos (ZX [] X.env)) (backToKw pos (keywordEach [] X.env))):=by rfl):WE X (.Call (.Attribute o m apos) [] [] pos) (vR C m sp dvs E ta Jb):=⟨DI he.h c hm F hr hb hd hx ht⟩
end
section
variable{X:Cx}{CX:CXT}{k:Nat}{f C:Addr}{fd:X5}{ps:List Str}{sp:Sp}{dvs:List V}{ds:List Z7}{E:XK}{x:Str}{p pos:Pos}{e:ZC}{es:List ZC}{t:TA}
theorem CP(M:Mk X.K C f)(F:lU X.prog X.w X.K X.mg X.base CX k f fd ps sp)(hr:gS (k+1) X.A)(hg:Gl X x)(hm:X.mg x=some (.ref C))(hb:gW X.K fd ps ds)(hd:cU dvs ds)(hx:ic CX X E)(ha:WA X (e::es) t)(hdb:(x == ("__debug__":Str))=false:=by decide)(he:ZX (e::es) X.env=(false,eval e X.env)::ZX es X.env:=by rfl)(hpl:(Zf pos (ZX es X.env)).any (·.1)=false:=by rfl):WE X (.Call (.Name x p) (e::es) [] pos) (Ap C sp dvs E t):=⟨HC M F hr hg hm hb hd hx ha.h hdb he hpl⟩
end
section
variable{X:Cx}{CX:CXT}{k:Nat}{f C:Addr}{fd:X5}{ps:List Str}{sp:Sp}{dvs:List V}{ds:List Z7}{E:XK}{x:Str}{p pos:Pos}
theorem z8(M:Mk X.K C f)(F:lU X.prog X.w X.K X.mg X.base CX k f fd ps sp)(hr:gS (k+1) X.A)(hg:Gl X x)(hm:X.mg x=some (.ref C))(hb:gW X.K fd ps ds)(hd:cU dvs ds)(hx:ic CX X E)(hdb:(x == ("__debug__":Str))=false:=by decide):WE X (.Call (.Name x p) [] [] pos) (Ap C sp dvs E Jb):=⟨DJ M F hr hg hm hb hd hx hdb⟩
end
section
variable{X:Cx}{x:Str}{p pos:Pos}{e:ZC}{es:List ZC}{t:TA}{id:String}{r:List V->Hp->VK->Prop}
theorem lX(hc:gU X (.builtin id) r)(hg:Gl X x)(hm:X.mg x=none)(hv:Zc x=some (.builtin id))(ha:WA X (e::es) t)(hn:x≠"__name__":=by decide)(hdb:(x == ("__debug__":Str))=false:=by decide)(he:ZX (e::es) X.env=(false,eval e X.env)::ZX es X.env:=by rfl)(hpl:(Zf pos (ZX es X.env)).any (·.1)=false:=by rfl):WE X (.Call (.Name x p) (e::es) [] pos) (tCB r t):=⟨DN hc hg hm hv ha.h hn hdb he hpl⟩
end
section
variable{X:Cx}{x:Str}{p pos:Pos}{e:ZC}{es:List ZC}{t:TA}{T:String}{r:List V->Hp->VK->Prop}
theorem rJ(hc:gU X (.type T) r)(hg:Gl X x)(hm:X.mg x=none)(hv:Zc x=some (.type T))(ha:WA X (e::es) t)(hn:x≠"__name__":=by decide)(hdb:(x == ("__debug__":Str))=false:=by decide)(he:ZX (e::es) X.env=(false,eval e X.env)::ZX es X.env:=by rfl)(hpl:(Zf pos (ZX es X.env)).any (·.1)=false:=by rfl):WE X (.Call (.Name x p) (e::es) [] pos) (tCB r t):=⟨AU hc hg hm hv ha.h hn hdb he hpl⟩
end
section
variable{X:Cx}
def xD :WO X none Ao:=⟨Hv ⟩
end
section
variable{X:Cx}{e:ZC}{te:TE}
def xC(h:WE X e te):WO X (some e) (Ko te):=⟨Hu h.h⟩
end
section
variable{X:Cx}{e:ZC}{te:TE}{lo hi:Option ZC}{tl th:TO}{pos p2:Pos}
theorem uu{r:V->Option Int->Option Int->Hp->VK->Prop}(hr:SlR X r)(he:WE X e te)(hl:WO X lo tl)(hu:WO X hi th):WE X (.Subscript e (.Slice lo hi none p2) pos) (tSl r te tl th):=⟨DH hr he.h hl.h hu.h⟩
end
section
variable{X:Cx}{a b:ZC}{ta tb:TE}{pos:Pos}
theorem E1{r:R2}(hr:IxR X r)(ha:WE X a ta)(hb:WE X b tb)(hs:uf b):WE X (.Subscript a b pos) (tOp r ta tb):=⟨PD hr ha.h hb.h hs⟩
end
section
variable{X:Cx}
variable{o e:ZC}{es:List ZC}{to:TE}{t:TA}{name:Str}{apos cpos:Pos}{T id:String}{r:V->List V->Hp->VK->Prop}
theorem uw (pa : PlainAttrs T) (slot : Slot T name id) (hty : typeOf (.builtin id) = pure (.type "method_descriptor")) (hm : MtR X id r) (ho : WE X o to) (ha : WA X (e :: es) t) (hbase : attributeBase o name X.env (eval o X.env) = eval o X.env := by rfl) (hfew : ((Zf cpos (ZX (e :: es) X.env)).all (fun x => !x.1) && (backToKw cpos (keywordEach [] X.env)).all (fun x => x.1.isSome)
   && decide ((e::es).length+([]:List Keyword).length+(if ([]:List Keyword).isEmpty then 0 else 1)<30))=true:=by rfl) (hline:(apos.endLine == cpos.line)=true:=by rfl) (hs:ZX (e::es) X.env=(false,eval e X.env)::ZX es X.env:=by rfl) (hplain:(Zf cpos (ZX es X.env)).any (·.1)=false:=by rfl):WE X (.Call (.Attribute o name apos) (e::es) [] cpos) (tBM X.K T r to t):=⟨PF pa slot hty hm ho.h ha.h hbase hfew hline hs hplain⟩
end
section
variable{X:Cx}{o i:ZC}{pos:Pos}{td ty:TE}
theorem CU(hu:X.A.units+1<cLine)(ho:WE X o td)(hi:WE X i ty)(hs:NQ i):WE X (.Subscript o i pos) (Ku td ty):=⟨HD hu ho.h hi.h hs⟩
end
section
variable{X:Cx}{o i value:ZC}{pos pos':Pos}{td ty tv:TE}
theorem CK(hu:X.A.units+1<cLine)(ho:WE X o td)(hi:WE X i ty)(hv:WE X value tv)(hs:X7 value (some (.Subscript o i pos')) pos.line X.env=pure false):WS X (.Assign [.Subscript o i pos'] value pos) (KP td ty tv):=⟨Hq hu ho.h hi.h hv.h hs⟩
end
section
variable{X:Cx}{pos:Pos}
def Ac :WE X (.Dict [] [] pos) E4:=⟨DL ⟩
end
section
variable{X:Cx}
theorem wpv(i:Nat){x:Str}{pos:Pos}(hN:X.N[i]?=some x:=by rfl)(hv:Vis X.env.scope x:=by first|exact Or.inl rfl|exact Or.inr (Or.inl rfl)|exact Or.inr (Or.inr rfl))(hd:(x == ("__debug__":Str))=false:=by decide)(hcd:(x == ("__classdict__":Str))=false:=by decide):WE X (.Name x pos) (Nw i):=⟨pv i hN hv hd hcd⟩
end
def WW.pt{X:Cx}{e:ZC}{t:TT}(h:WW X e t):WT X e t:=⟨h.h.pt⟩
section
variable{X:Cx}{e:ZC}
def zT(i j:Int):Prop:=0<j/\j.natAbs.log2<9000
theorem tD:OpR X (binaryOp .FloorDiv) (rI zT fun i j=>.int (i / j)):=opI fun i j _ _ _ _ _ hc q=>by
 refine PyProof.Rows.floordiv_int (by have:=hc.1;omega) ?_ (.inl (PyProof.noPylong_of_log2 hc.2));rw[Int.fdiv_eq_ediv_of_nonneg i (Int.le_of_lt hc.1)];exact q
theorem xh:gU X (.builtin "isinstance") (fun xs H Q=>∃(x:V) (T:String) (t:Z7) (k:Bool),xs=[x,.ty T]/\yF X.K H x t/\PySem.W.kitOne X.K t (.type T)=some k/\Q (.bl k) H):=by
 rintro pins s σ H xs us Q I r ⟨x,T,t,k,rfl,ty,e,q⟩;obtain⟨u,w',rfl,ru,rw'⟩:=yU r;cases rw';exact Bh I ru ty e fun tk=>⟨.bl k,H,I.tok tk,rfl,q⟩
end
def eQ{H:Hp}{p:Addr}(h:H p=none)(o:HO):xn H (upd H p o):=fun b u q=>by rw[bN (dG q h)];exact q
def Def(K:Z6)(mg:Str->Option Z7)(x:Str)(st:Zw)(ps:List Str):Prop:=
 ∃f fd,Fun K x x st f fd/\gW K fd ps []/\mg x=some (.ref f)
def Has(P:ZS)(w:Zg)(K:Z6)(mg:Str->Option Z7)(base:Heap)(x:Str)(k:Nat)(ps:List Str)(sp:Sp):Prop:=
 ∃f fd,lU P w K mg base CX0 k f fd ps sp/\gW K fd ps []/\PySem.W.keepIn K (.ref f)=true/\mg x=some (.ref f)
section
variable{P:ZS}{w:Zg}{K:Z6}{mg:Str->Option Z7}{base:Heap}{x:Str}{st:Zw}{ps N:List Str}{k j:Nat}{sp:Sp}
theorem Has.mono(h:Has P w K mg base x j ps sp)(l:j<=k):Has P w K mg base x k ps sp:=by
 obtain⟨f,fd,a,b,c,d⟩:=h;exact⟨f,fd,a.mono l,b,c,d⟩
theorem Def.has(d:Def K mg x st ps)(S:aG N ps (ay st))(len:∀vs H Q E,sp vs H Q E->vs.length=ps.length)
  (hbody:∀(f:Addr) (cdv:Z7) (A:Za) (outer:List Env) (s:ZZ) (H:Hp) (vs:List V) (Q:VK) (E:XK),gS k (A.deeper (envOfC x (ay st) s.heap.objs.size f cdv))->sp vs H Q E->
   ∃t,WSs (w9 CX0 P w K mg base N x (ay st) f cdv A outer s H E).nox (dX st) t/\t { nx:=fun _ H'=>Q .non H',rt:=Q } (kO N vs) H):Has P w K mg base x (k+1) ps sp:=by
 obtain⟨f,fd,F,b,m⟩:=d;exact⟨f,fd,F.ok S len (fun cdv A outer s H vs Q E hr h=>let ⟨t,a,b⟩:=hbody f cdv A outer s H vs Q E hr h;⟨t,a.h,b⟩),b,F.kp,m⟩
theorem Def.none(d:Def K mg x st ps)(no:∀vs H Q E,¬sp vs H Q E):Has P w K mg base x k ps sp:=by
 obtain⟨f,fd,F,b,m⟩:=d;exact⟨f,fd,⟨fun vs H Q E h=>absurd h (no vs H Q E),fun A outer s H args us vs Q E _ _ _ _ h=>absurd h (no vs H Q E)⟩,b,F.kp,m⟩
end
theorem Ab{X:Cx}{k:Nat}{ps:List Str}{sp:Sp}{x:Str}{p pos:Pos}{e:ZC}{es:List ZC}{t:TA}(F:Has X.prog X.w X.K X.mg X.base x k ps sp)(hr:gS k X.A)(hg:Gl X x)
  (ha:WA X (e::es) t) (hdb:(x == ("__debug__":Str))=false:=by decide) (he:ZX (e::es) X.env=(false,eval e X.env)::ZX es X.env:=by rfl) (hpl:(Zf pos (ZX es X.env)).any (·.1)=false:=by rfl) :
  WE X (.Call (.Name x p) (e::es) [] pos) (Kw sp [] E0 t):=by
 obtain⟨f,fd,a,b,c,d⟩:=F;exact⟨AV a hr hg d c b .nil AW ha.h hdb he hpl⟩
structure Blt(mg:Str->Option Z7):Prop where
 len:mg "len"=none
 isinstance:mg "isinstance"=none
 int:mg "int"=none
 bool:mg "bool"=none
 str:mg "str"=none
 tuple:mg "tuple"=none
 list:mg "list"=none
 range:mg "range"=none
 min:mg "min"=none
 sum:mg "sum"=none
 all:mg "all"=none
 zip:mg "zip"=none
 sorted:mg "sorted"=none
 dict:mg "dict"=none
 enumerate:mg "enumerate"=none
 any:mg "any"=none
 max:mg "max"=none
 set:mg "set"=none
def uH{n:Nat}(h:n<=1000):n<=ZP:=Nat.le_of_lt (Ay h)
theorem zl{n:Nat}(h:n<2^60):n.log2<1920:=by
 by_cases e:n=0
 ·subst e;decide
 ·have:=(Nat.log2_lt e).mpr h;omega
theorem EB(ns:List Int)(lo hi:Option Int):BN (ns.map V.int) lo hi=((ns.drop (HT.sIx (ns.map V.int).length 0 lo)).take (HT.sIx (ns.map V.int).length (ns.map V.int).length hi-HT.sIx (ns.map V.int).length 0 lo)).map V.int:=by
 unfold BN;rw[List.map_take,List.map_drop]
def C8(K:Z6):Sp:=fun vs H Q _=>∃(a:Addr) (ns:List Int),vs=[.ref a]/\SqL K H a (ns.map V.int)/\ns.length<=63/\∀H',Q (.bl true) H'
def yB:Zc "int"=some (.type "int"):=rfl
def BY:Zc "bool"=some (.type "bool"):=rfl
def gQ:Zc "str"=some (.type "str"):=rfl
def dR:Zc "tuple"=some (.type "tuple"):=rfl
def qL:Zc "list"=some (.type "list"):=rfl
def ib:Zc "isinstance"=some (.builtin "isinstance"):=rfl
def EH:Zc "min"=some (.builtin "min"):=rfl
def yC:Zc "all"=some (.builtin "all"):=rfl
def xj:Zc "sorted"=some (.builtin "sorted"):=rfl
theorem rH{X:Cx}{x:Str}{T:String}{pos:Pos}(hg:Gl X x)(hm:X.mg x=none)(hv:Zc x=some (.type T))(hn:x≠"__name__":=by decide)(hd:(x == ("__debug__":Str))=false:=by decide):WE X (.Name x pos) (tC (.ty T)):=
 ⟨HF hg hm hv rfl hn hd⟩
theorem fW{X:Cx}{x:Str}{i:Int}{pos:Pos}(hg:Gl X x)(hm:∃t,X.mg x=some (.int i t))(hd:(x == ("__debug__":Str))=false:=by decide):WE X (.Name x pos) (tC (.int i)):=by
 obtain⟨t,hm⟩:=hm;exact⟨we hg hm ⟨t,rfl⟩ hd⟩
theorem sy{α:Type}{xs:List α}{k:Int}{v:α}(h0:0<=k)(h:xs[k.toNat]?=some v):atI xs k=some v:=by
 have ek:k=((k.toNat:Nat):Int):=by omega
 rw[ek];exact nB h
theorem Fun.okW{P:ZS}{w:Zg}{K:Z6}{mg:Str->Option Z7}{base:Heap}{x qual:Str}{st:Zw}{f:Addr}{fd:X5}{N ps:List Str}{k:Nat}{sp:Sp}(F:Fun K x qual st f fd)(S:aG N ps (ay st))(len:∀vs H Q E,sp vs H Q E->vs.length=ps.length)
  (hbody:∀(cdv:Z7) (A:Za) (outer:List Env) (s:ZZ) (H:Hp) (vs:List V) (Q:VK) (E:XK),gS k (A.deeper (envOfC qual (ay st) s.heap.objs.size f cdv))->sp vs H Q E->
   ∃t,WSs (w9 CX0 P w K mg base N qual (ay st) f cdv A outer s H E).nox (dX st) t/\t { nx:=fun _ H'=>Q .non H',rt:=Q } (kO N vs) H):lU P w K mg base CX0 (k+1) f fd ps sp:=
 F.ok S len fun cdv A outer s H vs Q E hr h=>let ⟨t,a,b⟩:=hbody cdv A outer s H vs Q E hr h;⟨t,a.h,b⟩
def zU(env:Env):List (Str×Addr)->Prop
 |[]=>True
 |p::r=>env.cells.lookup p.1=some p.2/\zU env r
theorem zU.look{env:Env}:∀{cl:List (Str×Addr)} {y:Str} {c:Addr},zU env cl->cl.lookup y=some c->env.cells.lookup y=some c
 |[],_,_,_,h=>by simp at h
 |(n,d)::r,y,c,a,h=>by
  obtain⟨a1,a2⟩:=a;rw[List.lookup_cons]at h;by_cases e:(y == n)=true
  ·rw[e]at h;have e':y=n:=by simpa using e
   subst e';cases h;exact a1
  ·have e':(y == n)=false:=by simpa using e
   rw[e']at h;exact zU.look a2 h
abbrev cxC(X:Cx)(Nc:List Str)(scope:XA)(cl:List (Str×Addr))(s3:ZZ)(H3:Hp)(fp:List Addr):Cx where
 prog:=X.prog
 w:=X.w
 K:=X.K
 mg:=X.mg
 base:=X.base
 A:=X.A
 N:=Nc
 s₀:=s3
 H₀:=H3
 env:=compEnvC scope cl s3.heap.objs.size X.env
 outer:=X.stack
 stack:=X.stack
 ex:=fp
 fn:=fun _=>false
 calm:=X.calm
 pn:=[]
 xe:=fun _ _=>False
def stC(n:Nat)(caps:List Nat)(σ:L2.St):L2.St:=ZU n none++caps.map fun i=>(σ[i]?).getD none
def C5(wi:TI)(g:TG)(te:TE)(n:Nat)(caps:List Nat):TE:=fun σ H Q=>wi σ H fun J H1=>∀l,H1 l=none->∃W:Nat->Nat->L2.St->Hp->Prop,(∃m,W 0 m (stC n caps σ) (upd H1 l (.lst [])))/\
 ∀i m σ' H2,W i m σ' H2->(J.stop i H2/\Q (.ref l) H2)\/(J.go i H2/\∃N:L2.St->Hp->Prop,(∀σ'' H',N σ'' H'->∃m',m'<m/\W (i+1) m' σ'' H')/\
  ∀x H3,J.yld i H2 x H3->g x σ' H3 fun σ2 H4=>te σ2 H4 fun v H5=>∃ys,H5 l=some (.lst ys)/\ys.length<ZP/\N σ2 (upd H5 l (.lst (ys++[v]))))
theorem vq{prog:ZS}{w:Zg}{A:Za}{R:Result->ZZ->Prop}{s:ZZ}{elt target iter:ZC}{scope:XA}{pos:Pos}{it acc:Z7}{env:Env}(I:Nat->ZZ->Prop)
  (turn:∀n s,I n s->wpAny (Zv prog w) A (pyNext it) (fun r s₁=>match r with
   |none=>R (.ok .next) s₁
   | some v=>wpAny (Zv prog w) A (letOwnedTupleGo target it v) (fun _ s₁'=>wpAny (Zv prog w) A (assign target env v) (fun _ s₂=>wpAny (Zv prog w) A (eval elt env) (fun x s₃=>
     wpAny (Zv prog w) A (call (.builtin "list.append") [acc,x]) (fun _ s₄=>∃m,m<n/\I m s₄) (fun _ _=>False) s₃)
     (fun _ _=>False) s₂) (fun _ _=>False) s₁') (fun _ _=>False) s₁) (fun _ _=>False) s)
  (n:Nat) (h:I n s) :
  codeAny (Zv prog w) A (.compLoop (.ListComp elt [⟨target,iter,[],0⟩] scope pos) 0 it acc env) R s:=by
 refine codeAny_loop rfl I (fun n s hI=>?_) n h;show wpAny _ _ ((compTurn (.ListComp elt [⟨target,iter,[],0⟩] scope pos) 0 it acc env).onRaise (fun x=>do noteFrame x env;theTreesLotGoes x)) _ _ s;refine wpAny_noted ?_;rw[compTurn_list1];refine ZQ (wpAny_standAt (ZQ (Zn (turn n s hI) (fun r s₁ h₁=>?_) fun _ _ h'=>h'.elim)));cases r with
 |none=>exact ZO h₁
 |some v=>
  refine ZQ (Zn h₁ (fun _ s₁' h₁'=>?_) fun _ _ h'=>h'.elim);exact ZQ (Zn h₁' (fun _ s₂ h₂=>ZQ (ZQ (Zn h₂ (fun x s₃ h₃=>ZQ (Zn h₃
   (fun _ s₄ h₄=>ZO (ZO ⟨rfl,h₄⟩)) fun _ _ h'=>h'.elim)) fun _ _ h'=>h'.elim))) fun _ _ h'=>h'.elim)
section
variable{X:Cx}{pins:List (Addr×Obj)}{σ:L2.St}{H:Hp}{s:ZZ}{Nc capN:List Str}{scope:XA}{cl:List (Str×Addr)}{fp:List Addr}{n:Nat}{caps:List Nat}
def Cap(X:Cx)(scope:XA)(cl:List (Str×Addr))(i:Nat)(y:Str):Prop:=X.N[i]?=some y/\X.env.scope.names.lookup y=some .cell/\(relabel scope X.env).names.lookup y=some .cell/\∃c,cl.lookup y=some c
theorem Inv.comp{h1:Heap}{t':Nat}(I:Inv X pins σ H s)(hc:X.calm=true)(f2:∀b∈fp,zV X pins H b)(fo:∀b∈fp,b<s.heap.objs.size)(hkind:scope.kind=.function)(hcl:zU X.env cl)
  (hhas:((relabel scope X.env).names.all fun p=>!(p.2 == .cell||p.2 == .free)||(cl.lookup p.1).isSome)=true)
  (hcap:Paired (Cap X scope cl) caps capN) (tn:List Str) (hN:Nc=tn++capN) (hn:tn.length=n)
  (hns:h1.Ns s.heap.objs.size (fun _=>none)) (hk:∀b o,s.heap.get? b=some o->h1.get? b=some o) :
  Inv (cxC X Nc scope cl s H fp) [] (stC n caps σ) H { s with heap:=h1,toks:=t' }:=by
 have lkc:∀y c,cl.lookup y=some c->X.env.cells.lookup y=some c:=fun y c e=>hcl.look e;refine⟨⟨I.ok.mod,?_,I.ok.glob,I.ok.blt,ZD _,fun x y c a b=>I.ok.inj x y c (lkc _ _ a) (lkc _ _ b),fun x hx=>?_,fun x c z=>(nomatch z),I.ok.hd,I.ok.frames,.inl rfl,fun b hb=>⟨Zj (fo b hb),fun x c e=>(f2 b hb).2.2.2.2.1 x c (lkc _ _ e)⟩,I.bs,Zl I.ok.bsz I.sz,
  fun b o e hb=>?_,fun b hb z=>?_,I.stack,I.stkFree⟩,rfl,I.bare,Un.kept hk,⟨_,hns,fun i y v h1' h2 h3=>?_⟩,fun y c e=>?_,I.hok.fresh (ZD _),fun y c e=>I.freeC y c (lkc _ _ e),fun p hp=>(by simp at hp),I.hok.kept hk,?_⟩
 ·exact hkind
 ·have hx':(relabel scope X.env).names.lookup x=some .cell\/(relabel scope X.env).names.lookup x=some .free:=hx;have mem:∀{k},(relabel scope X.env).names.lookup x=some k->(x,k)∈(relabel scope X.env).names:=fun{k} e=>by
   generalize (relabel scope X.env).names=L at e;induction L with
   |nil=>simp at e
   |cons p r ih=>
    obtain⟨a,b⟩:=p;rw[List.lookup_cons]at e;by_cases q:(x == a)=true
    ·rw[q]at e;cases e;have:x=a:=by simpa using q
     subst this;exact ZE
    ·rw[show(x == a)=false by simpa using q]at e;exact ZJ _ (ih e)
  have fin:∀{k},(k=NameKind.cell\/k=.free)->(relabel scope X.env).names.lookup x=some k->∃c,cl.lookup x=some c:=fun{k} hk' e=>by
   have:=List.all_eq_true.mp hhas _ (mem e);dsimp only at this;have q:(cl.lookup x).isSome=true:=by
    rcases hk' with z|z<;>subst z<;>simpa using this
   exact XU.mp q
  rcases hx' with e|e
  ·exact fin (.inl rfl) e
  ·exact fin (.inr rfl) e
 ·rcases(f2 b hb).2.2.2.1 with z|z
  ·exact I.ok.noex b o e z
  ·exact absurd (Zz (ZF e) I.ok.bsz) (Nat.not_lt.mpr z)
 ·rcases Zx.mp (I.stkSub b z)with q|q
  ·exact(f2 b hb).2.1 q
  ·exact(f2 b hb).2.2.1 q
 ·obtain⟨m,hm,hl⟩:=I.loc;have h2':(stC n caps σ)[i]?=some (some v):=h2;have h1'':Nc[i]?=some y:=h1';unfold stC at h2';by_cases hi:i<n
  ·rw[Zq (by simpa using hi),X4,if_pos hi]at h2';cases h2'
  ·rw[Zb (by simp;omega),List.length_replicate,Zk]at h2';rw[hN,Zb (by omega),hn]at h1'';have key:∀(j:Nat) {caps:List Nat} {capN:List Str},Paired (Cap X scope cl) caps capN->capN[j]?=some y->(Option.map (fun i=>(σ[i]?).getD none) caps[j]?)=some (some v)->∃k,Cap X scope cl k y/\σ[k]?=some (some v):=by
    intro j;induction j with
    |zero=>
     intro caps capN P e1 e2;cases P with
     |nil=>simp at e1
     |@cons a b l r p t=>
      simp at e1 e2;subst e1;cases q:σ[a]? with
      |none=>rw[q]at e2;simp at e2
      |some w'=>rw[q]at e2;simp at e2;subst e2;exact⟨a,p,q⟩
    |succ j ih=>
     intro caps capN P e1 e2;cases P with
     |nil=>simp at e1
     |cons p t=>exact ih t (by simpa using e1) (by simpa using e2)
   obtain⟨k,⟨c1,c2,c3,c,c4⟩,e⟩:=key _ hcap h1'' h2';obtain⟨u,r,lk⟩:=hl k y v c1 e (.inr (.inl c2));refine⟨u,r,.inr ⟨.inl c3,c,c4,?_⟩⟩;rcases lk with⟨z,_⟩|⟨_,c',e',o,ho,hd⟩
   ·have z':X.env.scope.names.lookup y=some .local:=z;rw[c2]at z';cases z'
   ·rw[lkc _ _ c4]at e';cases e';exact⟨o,hk _ _ ho,hd⟩
 ·obtain⟨v,o,ho,hd⟩:=I.cell y c (lkc _ _ e);exact⟨v,o,hk _ _ ho,hd⟩
 ·show(stC n caps σ).length=Nc.length;have pl:caps.length=capN.length:=Paired.length hcap;unfold stC;rw[ZY,List.length_replicate,ZN,hN,ZY,hn,pl]
end
theorem yy{X:Cx}{Nc capN tn:List Str}{scope:XA}{cl:List (Str×Addr)}{n:Nat}{caps:List Nat}{tg iter elt:ZC}{pos:Pos}{wi:TI}{g:TG}{te:TE}
  (hc:X.calm=true) (hi:WI X tg iter wi) (hg:∀s3 H3 fp,WG (cxC X Nc scope cl s3 H3 fp) tg g) (he:∀s3 H3 fp,WE (cxC X Nc scope cl s3 H3 fp) elt te)
  (hclos:closureFor scope X.env=pure cl) (hkind:scope.kind=.function) (hnl:∀x∈scope.names,x.2=.local->scope.names.lookup x.1=some .local) (hcell:∀x∈scope.names,x.2≠.cell)
  (hcl:zU X.env cl) (hhas:((relabel scope X.env).names.all fun p=>!(p.2 == .cell||p.2 == .free)||(cl.lookup p.1).isSome)=true)
  (hcap:Paired (Cap X scope cl) caps capN) (hN:Nc=tn++capN) (hn:tn.length=n)
  {use:Option (Z7->Sem Unit)} {pins:List (Addr×Obj)} {σ:L2.St} {H:Hp} {s:ZZ} {Q:VK} {Qf:Z7->ZZ->Prop} (I:Inv X pins σ H s) (h:C5 wi g te n caps σ H Q)
  (hend:∀(D C:Addr) (s6:ZZ) (H5:Hp) (m:Str->Option Z7),Inv X pins σ H5 s6->s6.heap.Ns C m->H5 C=none->C≠X.env.locals->X.s₀.heap.objs.size<=C->(∀x c,X.env.cells.lookup x=some c->c≠C)->(∀p∈X.pn++pins,p.1≠C)->Q (.ref D) H5->compPost (Zv X.prog X.w) X.A X.xe use Qf (.ref D) C (.ok .next) s6)
  (hs:∀x,foldedSetIterable iter X.env x=pure x) :
  wpAny (Zv X.prog X.w) X.A (comprehension (.ListComp elt [⟨tg,iter,[],0⟩] scope pos) scope X.env (firstIterPos [⟨tg,iter,[],0⟩] pos) (newList []) (firstAsync [⟨tg,iter,[],0⟩]) (firstIter [⟨tg,iter,[],0⟩] X.env) use) Qf X.xe s:=by
 refine wpAny_comprehension_free (use:=use) (g:=⟨tg,iter,[],0⟩) (gs:=[]) rfl hs hclos hkind hnl (thn (hi.h pins s σ H _ I h) fun v s1 h1=>thn h1 fun itv s2 h2=>?_);obtain⟨it,fp,tnn,J,H2,rfl,I2,T,st2,f2,hW⟩:=h2;have hD:=I2.fresh;obtain⟨W,⟨m0,w0⟩,turn⟩:=hW _ hD;refine wpAny_newObj_type (wpAny_newFunctionEnv hcell (by intro y hy;simp at hy) (fun h₁ hns₁ hsb₁=>?_) hkind);dsimp only at hns₁ hsb₁ ⊢;have I3:Inv X pins σ (upd H2 s2.heap.objs.size (.lst [])) { s2 with heap:=s2.heap.push { cls:=.type "list",dict:=none,data:=.seq ([]:List Z7).toArray },toks:=s2.toks }:=I2.lnew (its:=[]) .nil (X1 _);generalize hs3:({ s2 with heap:=s2.heap.push { cls:=.type "list",dict:=none,data:=.seq ([]:List Z7).toArray },toks:=s2.toks }:ZZ)=s3 at I3;have es3:s3.heap=s2.heap.push { cls:=.type "list",dict:=none,data:=.seq ([]:List Z7).toArray }:=by rw[<-hs3]
 generalize hDD:s2.heap.objs.size=D at *;have kept:∀b o,s3.heap.get? b=some o->h₁.get? b=some o:=fun b o e=>by
  have lt:=ZF e;rw[es3]at lt e;exact hsb₁.extBut b o (Zj lt) (ZK _ e)
 have old:∀b o,s2.heap.get? b=some o->s3.heap.get? b=some o:=fun b o e=>by rw[es3];exact ZK _ e
 have ltD:∀b∈fp,b<D:=fun b hb=>by
  obtain⟨o,e,_⟩:=T.obj 0 _ st2 b hb;rw[<-hDD];exact ZF e
 have fo:∀b∈fp,b<s3.heap.objs.size:=fun b hb=>by
  obtain⟨o,e,_⟩:=T.obj 0 _ st2 b hb;exact ZF (old _ _ e)
 have f3:∀b∈fp,zV X pins (upd H2 D (.lst [])) b:=fun b hb=>by
  refine⟨?_,(f2 b hb).2⟩;rw[bN (Zj (ltD b hb))];exact(f2 b hb).1
 rw[<-es3]at hns₁ hsb₁ ⊢;have Ic:=fun t'=>Inv.comp (h1:=h₁) (t':=t') (Nc:=Nc) (n:=n) I3 hc f3 fo hkind hcl hhas hcap tn hN hn hns₁ kept;have stat:∀{H':Hp},(∀b∈fp,H' b=none)->∀b∈fp,zV (cxC X Nc scope cl s3 (upd H2 D (.lst [])) fp) [] H' b:=fun hn' b hb=>by
  refine⟨hn' b hb,Zj (fo b hb),fun z=>?_,.inl hb,fun x c e=>(f2 b hb).2.2.2.2.1 x c (hcl.look e),fun p hp=>(by simp at hp)⟩;rcases Zx.mp (I3.stkSub b z)with q|q
  ·exact(f2 b hb).2.1 q
  ·exact(f2 b hb).2.2.1 q
 have loop:∀s4:ZZ,(∃t',s4={ s3 with heap:=h₁,toks:=t' })->codeAny (Zv X.prog X.w) X.A (.compLoop (.ListComp elt [⟨tg,iter,[],0⟩] scope pos) 0 (.ref it) (.ref D) (compEnvC scope cl s3.heap.objs.size X.env))
   (compPost (Zv X.prog X.w) X.A X.xe use Qf (.ref D) s3.heap.objs.size) s4:=by
  rintro s4 ⟨t',rfl⟩;refine vq (fun n' s'=>∃i σ' H',Inv (cxC X Nc scope cl s3 (upd H2 D (.lst [])) fp) [] σ' H' s'/\tnn i s'.heap/\(∀b∈fp,H' b=none)/\W i n' σ' H') ?_ m0
   ⟨0,_,_,Ic t',T.keep 0 _ _ st2 fun b hb o e=>kept _ _ (old _ _ e),fun b hb=>(f3 b hb).1,w0⟩
  rintro n' s5 ⟨i,σ5,H5,I5,st5,fr5,w5⟩;rcases turn i n' σ5 H5 w5 with⟨stop,qn⟩|⟨go,N,hN',step⟩
  ·refine thn (T.done (cxC X Nc scope cl s3 (upd H2 D (.lst [])) fp) rfl rfl rfl hc i [] s5 σ5 H5 (fun _ _=>False) I5 (stat fr5) st5 stop) fun r s6 ⟨hr,I6⟩=>?_;subst hr;obtain⟨m,hm,_⟩:=I6.loc;have I7:Inv X pins σ H5 s6:=Inv.call' (ch:=fp) I3 I6.os I6.base I6.hok I6.bare fun b hb=>⟨(f2 b hb).2.2.2.1,(f2 b hb).2.1,(f2 b hb).2.2.2.2.1,(f2 b hb).2.2.2.2.2⟩;exact hend D _ s6 H5 m I7 hm I6.free (Ne.symm (Zj I3.lt)) I3.sz (fun x c e=>by
     obtain⟨v',o,ho,_⟩:=I3.cell x c e;exact Zj (ZF ho)) (fun p hp=>Zj (ZF (I3.pin p hp).1)) qn
  ·refine thn (T.item (cxC X Nc scope cl s3 (upd H2 D (.lst [])) fp) rfl rfl rfl hc i [] s5 σ5 H5 (fun _ _=>False) I5 (stat fr5) st5 go) fun r s6 ⟨u,hr,h6⟩=>?_;subst hr;refine thn h6 fun _ s7 hz=>?_;obtain⟨x,H7,I7,r7,y7,st7,fr7⟩:=hz;have I7':=I7.pinned (stat fr7) (T.obj _ _ st7);refine thn ((hg s3 (upd H2 D (.lst [])) fp).h _ s7 σ5 H7 x u _ I7' r7 (step x H7 y7)) fun _ s8 hz=>?_;obtain⟨σ8,H8,I8,q8⟩:=hz;refine thn ((he s3 (upd H2 D (.lst [])) fp).h _ s8 σ8 H8 _ I8 q8) fun v9 s9 hz=>?_;obtain⟨x9,H9,I9,r9,ys,hy,hlt,q9⟩:=hz;refine thn (qd (X:=cxC X Nc scope cl s3 (upd H2 D (.lst [])) fp) _ s9 σ8 H9 (.ref D) [x9] (.ref D) [v9] (fun _ H'=>N σ8 H') I9 rfl (.cons r9 .nil) ⟨D,ys,x9,rfl,rfl,hy,hlt,q9⟩) fun _ s10 hz=>?_;obtain⟨_,H10,I10,_,q10⟩:=hz;obtain⟨m',hm,w10⟩:=hN' σ8 H10 q10;refine⟨m',hm,i+1,σ8,H10,I10.unpinned,T.keep _ _ _ st7 fun b hb o e=>(I10.pin (b,o) (Zh _ (Zh _ (gX hb e)))).1,fun b hb=>?_,w10⟩;obtain⟨o,e,d⟩:=T.obj _ _ st7 b hb;exact(I10.pin (b,o) (Zh _ (Zh _ (gX hb e)))).2.1
 have e4:∀t',({ s2 with heap:=h₁,toks:=t' }:ZZ)={ s3 with heap:=h₁,toks:=t' }:=fun t'=>by rw[<-hs3]
 refine codeAny_compStart_list (loop _ ⟨_,e4 _⟩) (T.self _ 0 _ _ _ (T.keep 0 _ _ st2 fun b hb o e=>kept _ _ (old _ _ e)) (loop _ ⟨_,e4 _⟩))
theorem CV{X:Cx}{Nc capN tn:List Str}{scope:XA}{cl:List (Str×Addr)}{n:Nat}{caps:List Nat}{tg iter elt:ZC}{pos:Pos}{wi:TI}{g:TG}{te:TE}
  (hc:X.calm=true) (hi:WI X tg iter wi) (hg:∀s3 H3 fp,WG (cxC X Nc scope cl s3 H3 fp) tg g) (he:∀s3 H3 fp,WE (cxC X Nc scope cl s3 H3 fp) elt te)
  (hclos:closureFor scope X.env=pure cl) (hkind:scope.kind=.function) (hnl:∀x∈scope.names,x.2=.local->scope.names.lookup x.1=some .local) (hcell:∀x∈scope.names,x.2≠.cell)
  (hcl:zU X.env cl) (hhas:((relabel scope X.env).names.all fun p=>!(p.2 == .cell||p.2 == .free)||(cl.lookup p.1).isSome)=true)
  (hcap:Paired (Cap X scope cl) caps capN) (hN:Nc=tn++capN) (hn:tn.length=n)
  (hs:∀x,foldedSetIterable iter X.env x=pure x:=by intro _;rfl) :
  WE X (.ListComp elt [⟨tg,iter,[],0⟩] scope pos) (C5 wi g te n caps):=by
 constructor;intro pins s σ H Q I h;rw[eval_ListComp];refine yy hc hi hg he hclos hkind hnl hcell hcl hhas hcap hN hn I h (fun D C s6 H5 m I7 hm fr nl sz cn pn qn=>⟨m,hm,fun h' hs'=>?_⟩) hs;exact⟨.ref D,H5,I7.turned (t':=s6.toks) (it:=C) (fun b o hb e=>hs'.extBut b o hb e) fr nl (.inr sz) cn pn,rfl,qn⟩
section
variable{X:Cx}
theorem Aj:∀{bs:List Bool} {us:List Z7} {i:Nat} {v:Z7},cU (bs.map V.bl) us->us[i]?=some v->∃b,bs[i]?=some b/\v=.bool b
 |[],_,_,_,r,e=>by cases r;simp at e
 |b::bs,_,0,_,.cons r _,e=>by
  have r':_=Value.bool b:=r;simp at e;subst e;exact⟨b,by simp,r'⟩
 |b::bs,_,i+1,v,.cons _ t,e=>by
  obtain⟨b',e1,e2⟩:=Aj (i:=i) (v:=v) t (by simpa using e);exact⟨b',by simpa using e1,e2⟩
theorem EK(bs:List Bool):(List.range bs.length).all (fun i=>(bs[i]?).getD true)=bs.all id:=by
 rw[Bool.eq_iff_iff,List.all_eq_true,List.all_eq_true];constructor
 ·intro h b hb;obtain⟨i,hi,e⟩:=List.mem_iff_getElem.mp hb;have:=h i (List.mem_range.mpr hi);rw[ZR hi,XH,e]at this;exact this
 ·intro h i hi;have hi':=List.mem_range.mp hi;have:=h _ (List.getElem_mem hi');rw[ZR hi',XH];exact this
theorem HV{h:Heap}{b:Addr}{o:Obj}(e:h.get? b=some o):¬b∈[h.objs.size]:=fun z=>by
 have z':b=h.objs.size:=by simpa using z
 exact absurd (ZF e) (by rw[z'];exact XF _)
theorem yA(hc:X.calm=true):gU X (.builtin "all") (fun xs H Q=>∃(p:Addr) (bs:List Bool),xs=[.ref p]/\SqL X.K H p (bs.map V.bl)/\Q (.bl (bs.all id)) H):=by
 intro pins s σ H xs us Q I r h;obtain⟨p,bs,rfl,hq,q⟩:=h;obtain⟨u,rfl,rx⟩:=oj r;cases rx;obtain⟨its,rv,pl,hz⟩:=I.list hq;have hlen:=rv.length;rw[ZN]at hlen;refine call_all_walk (wpAny_pyIter_list pl.isList ?_);have lt:p<s.heap.objs.size:=by obtain⟨o,e,_⟩:=pl.isList;exact ZF e
 refine⟨s.heap.objs.size,_,_,_,_,_,fun i=>(bs[i]?).getD true,rfl,Walks.list (show X.A.in1.handled=none from I.ok.hd hc) s.heap.objs.size p (Zj lt) its.toArray,⟨⟨_,Zy _ rfl,rfl,rfl⟩,pl.isList.at fun o e=>ZK _ e⟩,?_,fun h' tk hk=>?_⟩
 ·intro i v s' Q' E' hP hQ;have hP':its.toArray[i]?=some v:=hP;obtain⟨b,e1,e2⟩:=Aj rv (by simpa using hP');subst e2;dsimp only at hQ;rw[e1,XH]at hQ;exact wpAny_truthy_bool hQ
 ·have e:(List.range its.toArray.size).all (fun i=>(bs[i]?).getD true)=bs.all id:=by
   rw[ZI,<-hlen];exact EK bs
  rw[e];exact⟨.bl (bs.all id),H,I.kept fun b o e=>hk b o (HV e) (ZK _ e),rfl,q⟩
end
open PySem.AutoSeq1 (wpAny_loadPart')
theorem EE{prog:ZS}{w:Zg}{A:Za}{E:Z7->ZZ->Prop}{s:ZZ}{t b:Addr}{vs ws:List Z7}{Q:Z7->ZZ->Prop}(ht:IsTup s.heap t vs.toArray)(hb:IsTup s.heap b ws.toArray)(hv:vs=[])
  (h1:Q (.ref b) s):wpAny (Zv prog w) A (binaryOp .Add (.ref t) (.ref b)) Q E s:=by
 obtain⟨⟨cls,dd,data,sl⟩,ho,hc,n,hd⟩:=id ht;obtain⟨⟨cls2,dd2,data2,sl2⟩,ho2,hc2,n2,hd2⟩:=id hb;simp only at hc hd hc2 hd2;subst hc hd hc2 hd2;exact concat_meets ⟨_,ho,rfl⟩ ⟨_,ho2,rfl⟩ noFill_tuple_add seq_tuple_add PySem.F.slot_tuple_add PySem.F.entry_tuple_add (PySem.F.args_tuple_add_2 _ _)
   (tuple_addW0 t b vs.toArray ws.toArray n n2 dd dd2 sl sl2 (by simp[hv])) ⟨ho,ho2,h1⟩
theorem oz:fillsNumberSlot (.type "tuple") "mul"=pure false:=
 PySem.fillsNumberSlot_seq (id:="tuple.__mul__") (r:=some (.builtin "tuple.__rmul__")) F.slot_tuple_mul.lookup (by decide +kernel) F.slot_tuple_rmul.lookup (by decide +kernel)
theorem uN:seqRepeat? (.type "tuple")=pure (some (.builtin "tuple.__mul__")):=by
 unfold seqRepeat?;rw[PySem.seqSlot_of (T:="tuple") (name:="__mul__") (id:="tuple.__mul__") F.slot_tuple_mul.lookup (by decide +kernel),PySem.seqSlot_of (T:="tuple") (name:="__rmul__") (id:="tuple.__rmul__") F.slot_tuple_rmul.lookup (by decide +kernel)];rfl
theorem rb(a:Int)(t:Tok)(l:Addr)(items:Array Z7)(n:Nat)(dd:Option Addr)(sl:Array (Option Z7)) :
  Meets (Builtin.«int.__rmul__» ⟨[.int a t,.ref l],[]⟩) (fun _ R s=>s.heap.get? l=some { cls:=.type "tuple",dict:=dd,data:=.seq items n,slots:=sl }/\R (.ok (.ret Value.notImplemented)) s):=
 .of_wp fun prog w A R s h=>by obtain⟨hp,g,d,tk,os⟩:=s;obtain⟨hl,h⟩:=h;wp_walk using wpAny_loadPart' hl;exact⟨_,rfl,h⟩
theorem vQ(l:Addr)(items:Array Z7)(n:Nat)(dd:Option Addr)(sl:Array (Option Z7))(t:Tok) :
  Meets (Builtin.«tuple.__mul__» ⟨[.ref l,.int 1 t],[]⟩) (fun _ R s=>s.heap.get? l=some { cls:=.type "tuple",dict:=dd,data:=.seq items n,slots:=sl }/\R (.ok (.ret (Value.ref l))) s):=
 .of_wp fun prog w A R s h=>by obtain⟨hp,g,d,tk,os⟩:=s;obtain⟨hl,h⟩:=h;have f1:=AutoSeq1.idx_int;wp_walk using wpAny_loadPart' hl;exact⟨_,rfl,h⟩
theorem vP(l:Addr)(items:Array Z7)(n:Nat)(dd:Option Addr)(sl:Array (Option Z7))(k:Int)(t:Tok)(hc0:¬(decide (k < -2^63)||decide (k≥2^63))=true)(hc1:¬(items.isEmpty||k == 1)=true)(hc2:¬(decide (k<=0)||items.isEmpty)=true)
  (hc3:¬((items.size:Int)*k>(2^63-1) / 8)) (hc4:¬Builtin.Tuple.tupleTooMany ((items.size:Int)*k)=true) (hz:(List.foldl (fun x1 x2=>x1++x2) #[] (ZU k.toNat items)).size<=ZP) :
  Meets (Builtin.«tuple.__mul__» ⟨[.ref l,.int k t],[]⟩) (fun _ R s=>s.heap.get? l=some { cls:=.type "tuple",dict:=dd,data:=.seq items n,slots:=sl }/\
   R (.ok (.ret (Value.ref s.heap.objs.size))) { s with heap:=s.heap.push { cls:=Value.type "tuple",data:=Data.seq (List.foldl (fun x1 x2=>x1++x2) #[] (ZU k.toNat items)) } }):=
 .of_wp fun prog w A R s h=>by
  obtain⟨hp,g,d,tk,os⟩:=s;obtain⟨hl,h⟩:=h;have f1:=AutoSeq1.idx_int;have g0:(decide (k < -2^63)||decide (k≥2^63))=false:=by simpa using hc0
  have g1:(items.isEmpty||k == 1)=false:=by simpa using hc1
  have g2:(decide (k<=0)||items.isEmpty)=false:=by simpa using hc2
  have g4:Builtin.Tuple.tupleTooMany ((items.size:Int)*k)=false:=by simpa using hc4
  wp_walk using wpAny_loadPart' hl
  refine PySem.W.KFB.if_not g0 ?_
  wp_walk using wpAny_loadPart' hl
  try (refine PySem.W.KFB.if_not g1 ?_;wp_walk using wpAny_loadPart' hl)
  try (refine PySem.W.KFB.if_not g2 ?_;wp_walk using wpAny_loadPart' hl)
  try (rw[if_neg hc3];wp_walk using wpAny_loadPart' hl)
  try (refine PySem.W.KFB.if_not g4 ?_;wp_walk using wpAny_loadPart' hl)
  try (refine wpAny_ite_false (decide_eq_false (Nat.not_lt.mpr hz)) ?_;wp_walk)
  exact⟨_,rfl,h⟩
structure Ru(H:Hp)(p xs:Addr):Prop where
 ex:∃(ns:List Int) (at' cur:Int),H p=some (.lst [.ref xs,.int at',.int cur])/\H xs=some (.lst (ns.map V.int))/\xs≠p/\0<=at'/\0<=cur
def E5(K:Z6):Sp:=fun vs H Q _=>∃(a:Addr) (ns:List Int),vs=[.ref a]/\SqL K H a (ns.map V.int)/\∀(q xs:Addr) (H':Hp),xn H H'->Ru H' q xs->H q=none->Q (.ref q) H'
theorem A5{m:Int}(h0:0<=m)(h:m<2^60):m.natAbs.log2<9000:=by
 have:=zl (n:=m.natAbs) (by omega);omega
end OG
namespace OP
open PySem PySem.Spec PyProof.Rows L2 OG
inductive U where
 |non|bl (b:Bool)|int (i:Int)|str (x:Str)|tup (us:List U)|ref (l:Nat)|kl (ns:List Int)
structure Cl where
 C:Addr
 ns:List Str
inductive O where
 |lst (us:List U)|dic (kvs:List (Key×U))|ins (c:Cl) (fs:List (Option U))|fdc (ep:Nat) (kvs:List (Key×U))|dit (kvs:List (List Key×U))|fdt (ep:Nat) (kvs:List (List Key×U))|dnt (kvs:List (List (List Int)×U))|fdn (ep:Nat) (kvs:List (List (List Int)×U))|cod (p:Addr) (pos:Pos) (q:Str)|exc (C:Addr)
abbrev Sto:=List O
abbrev Rho:=List (Option U)
def KL(K:Z6)(H:Hp)(a:Addr)(ns:List Int):Prop:=
 (∃o,H a=some (.frz o (.lst (ns.map V.int))))\/
  ∃(o:Obj) (its:Array Z7) (n:Nat),K.lookup a=some o/\o.cls=.type "list"/\o.dict=none/\o.data=.seq its n/\its.size<=ZP/\cU (ns.map V.int) its.toList
theorem KL.sq{K:Z6}{H:Hp}{a:Addr}{ns:List Int}(h:KL K H a ns):SqL K H a (ns.map V.int):=by
 rcases h with h|h
 ·exact .inl (.inr h)
 ·exact .inr h
mutual
def Is(K:Z6)(m:List Addr)(H:Hp):V->U->Prop
 |v,.non=>v=.non
 |v,.bl b=>v=.bl b
 |v,.int i=>v=.int i
 |v,.str x=>v=.str x
 |v,.tup us=>∃a xs,v=.ref a/\SqT K H a xs/\IsL K m H xs us
 |v,.ref l=>∃a,m[l]?=some a/\v=.ref a
 |v,.kl ns=>∃a,v=.ref a/\KL K H a ns
def IsL(K:Z6)(m:List Addr)(H:Hp):List V->List U->Prop
 |xs,[]=>xs=[]
 |xs,u::us=>∃x r,xs=x::r/\Is K m H x u/\IsL K m H r us
end
structure ES(K:Z6)(H H':Hp):Prop where
 t:∀a xs,SqT K H a xs->SqT K H' a xs
 l:∀a ns,KL K H a ns->KL K H' a ns
 c:∀a ob,H a=some (.frz ob (.own 0))->H' a=some (.frz ob (.own 0))
structure Ext(K:Z6)(m:List Addr)(H:Hp)(m':List Addr)(H':Hp):Prop where
 pre:∃t,m'=m++t
 keep:ES K H H'
section
variable{K:Z6}{m m' m'':List Addr}{H H' H'':Hp}{v x:V}{u:U}{xs ys:List V}{us ws:List U}{a q:Addr}{o:HO}
def Ext.refl:Ext K m H m H:=⟨⟨[],by simp⟩,fun _ _ h=>h,fun _ _ h=>h,fun _ _ h=>h⟩
theorem Ext.trans(a:Ext K m H m' H')(b:Ext K m' H' m'' H''):Ext K m H m'' H'':=by
 obtain⟨t,rfl⟩:=a.pre;obtain⟨t',rfl⟩:=b.pre;exact⟨⟨t++t',by simp⟩,fun c ys h=>b.keep.t c ys (a.keep.t c ys h),fun c ys h=>b.keep.l c ys (a.keep.l c ys h),fun c ob h=>b.keep.c c ob (a.keep.c c ob h)⟩
def Ext.of(k:ES K H H'):Ext K m H m H':=⟨⟨[],by simp⟩,k⟩
def Ext.new(k:ES K H H'):Ext K m H (m++[q]) H':=⟨⟨[q],rfl⟩,k⟩
theorem Ext.get{l:Nat}(e:Ext K m H m' H')(h:m[l]?=some a):m'[l]?=some a:=by
 obtain⟨t,rfl⟩:=e.pre;rw[Zq (Z9.mp h).1];exact h
mutual
theorem Is.mono(e:Ext K m H m' H'):∀{v:V} {u:U},Is K m H v u->Is K m' H' v u
 |v,.non,h=>by unfold Is at h ⊢;exact h
 |v,.bl b,h=>by unfold Is at h ⊢;exact h
 |v,.int i,h=>by unfold Is at h ⊢;exact h
 |v,.str x,h=>by unfold Is at h ⊢;exact h
 |v,.tup us,h=>by
  unfold Is at h ⊢;obtain⟨a,xs,e1,k,l⟩:=h;exact⟨a,xs,e1,e.keep.t _ _ k,IsL.mono e l⟩
 |v,.ref l,h=>by
  unfold Is at h ⊢;obtain⟨a,k,e1⟩:=h;exact⟨a,e.get k,e1⟩
 |v,.kl ns,h=>by
  unfold Is at h ⊢;obtain⟨a,e1,k⟩:=h;exact⟨a,e1,e.keep.l _ _ k⟩
theorem IsL.mono(e:Ext K m H m' H'):∀{xs:List V} {us:List U},IsL K m H xs us->IsL K m' H' xs us
 |xs,[],h=>by unfold IsL at h ⊢;exact h
 |xs,u::us,h=>by
  unfold IsL at h ⊢;obtain⟨x,r,e1,k,l⟩:=h;exact⟨x,r,e1,Is.mono e k,IsL.mono e l⟩
end
def Is.int_{i:Int}:Is K m H (.int i) (.int i):=by unfold Is;rfl
def Is.bl_{b:Bool}:Is K m H (.bl b) (.bl b):=by unfold Is;rfl
def Is.non_:Is K m H .non .non:=by unfold Is;rfl
def Is.str_{x:Str}:Is K m H (.str x) (.str x):=by unfold Is;rfl
def Is.of_int{i:Int}(h:Is K m H v (.int i)):v=.int i:=by unfold Is at h;exact h
def Is.of_bl{b:Bool}(h:Is K m H v (.bl b)):v=.bl b:=by unfold Is at h;exact h
def Is.of_non(h:Is K m H v .non):v=.non:=by unfold Is at h;exact h
def Is.of_str{x:Str}(h:Is K m H v (.str x)):v=.str x:=by unfold Is at h;exact h
def Is.of_tup(h:Is K m H v (.tup us)):∃a xs,v=.ref a/\SqT K H a xs/\IsL K m H xs us:=by unfold Is at h;exact h
def Is.of_ref{l:Nat}(h:Is K m H v (.ref l)):∃a,m[l]?=some a/\v=.ref a:=by unfold Is at h;exact h
def Is.of_kl{ns:List Int}(h:Is K m H v (.kl ns)):∃a,v=.ref a/\KL K H a ns:=by unfold Is at h;exact h
def Is.tup_(e:SqT K H a xs)(h:IsL K m H xs us):Is K m H (.ref a) (.tup us):=by unfold Is;exact⟨a,xs,rfl,e,h⟩
def Is.ref_{l:Nat}(e:m[l]?=some a):Is K m H (.ref a) (.ref l):=by unfold Is;exact⟨a,e,rfl⟩
def IsL.nil_:IsL K m H [] []:=by unfold IsL;rfl
def IsL.cons_(h:Is K m H x u)(t:IsL K m H xs us):IsL K m H (x::xs) (u::us):=by unfold IsL;exact⟨x,xs,rfl,h,t⟩
def IsL.of_nil(h:IsL K m H xs []):xs=[]:=by unfold IsL at h;exact h
def IsL.of_cons(h:IsL K m H xs (u::us)):∃x r,xs=x::r/\Is K m H x u/\IsL K m H r us:=by unfold IsL at h;exact h
theorem IsL.length:∀{xs:List V} {us:List U},IsL K m H xs us->xs.length=us.length
 |xs,[],h=>by rw[h.of_nil];rfl
 |xs,d::ds,h=>by
  obtain⟨x,r,rfl,_,t⟩:=h.of_cons;rw[ZT,ZT,IsL.length t]
theorem IsL.getD:∀{xs:List V} {us:List U} {i:Nat} {u:U},IsL K m H xs us->us[i]?=some u->∃x,xs[i]?=some x/\Is K m H x u
 |xs,[],i,x,h,e=>by simp at e
 |xs,d::ds,0,x,h,e=>by
  obtain⟨y,r,rfl,k,t⟩:=h.of_cons;simp at e;subst e;exact⟨y,by simp,k⟩
 |xs,d::ds,i+1,x,h,e=>by
  obtain⟨y,r,rfl,k,t⟩:=h.of_cons;obtain⟨d',e1,e2⟩:=IsL.getD (i:=i) (u:=x) t (by simpa using e);exact⟨d',by simpa using e1,e2⟩
theorem IsL.append:∀{xs:List V} {us:List U},IsL K m H xs us->IsL K m H ys ws->IsL K m H (xs++ys) (us++ws)
 |xs,[],h,k=>by rw[h.of_nil];exact k
 |xs,d::ds,h,k=>by
  obtain⟨y,r,rfl,z,t⟩:=h.of_cons;exact .cons_ z (IsL.append t k)
theorem IsL.set:∀{xs:List V} {us:List U} {j:Nat},IsL K m H xs us->Is K m H x u->IsL K m H (xs.set j x) (us.set j u)
 |xs,[],j,h,k=>by rw[h.of_nil];exact .nil_
 |xs,d::ds,0,h,k=>by
  obtain⟨y,r,rfl,z,t⟩:=h.of_cons;exact .cons_ k t
 |xs,d::ds,j+1,h,k=>by
  obtain⟨y,r,rfl,z,t⟩:=h.of_cons;exact .cons_ z (IsL.set t k)
theorem IsL.drop:∀{xs:List V} {us:List U} (n:Nat),IsL K m H xs us->IsL K m H (xs.drop n) (us.drop n)
 |xs,us,0,h=>h
 |xs,[],n+1,h=>by rw[h.of_nil];exact .nil_
 |xs,d::ds,n+1,h=>by
  obtain⟨y,r,rfl,z,t⟩:=h.of_cons;exact IsL.drop n t
theorem IsL.take:∀{xs:List V} {us:List U} (n:Nat),IsL K m H xs us->IsL K m H (xs.take n) (us.take n)
 |xs,us,0,h=>.nil_
 |xs,[],n+1,h=>by rw[h.of_nil];exact .nil_
 |xs,d::ds,n+1,h=>by
  obtain⟨y,r,rfl,z,t⟩:=h.of_cons;exact .cons_ z (IsL.take n t)
theorem IsL.rep:∀(n:Nat),IsL K m H xs us->IsL K m H (ZU n xs).flatten (ZU n us).flatten
 |0,h=>.nil_
 |n+1,h=>by
  rw[X3,X3,XR,XR];exact h.append (IsL.rep n h)
theorem yg(h:H a=some o)(nt:∀xs,o≠.tup xs)(nf:∀ob xs,o≠.frz ob (.tup xs))(nl:∀ob xs,o≠.frz ob (.lst xs))(nc:∀ob,o≠.frz ob (.own 0))(o':HO):ES K H (upd H a o'):=by
 refine⟨fun b xs q=>?_,fun b ns q=>?_,fun b ob q=>by rw[bN (fun z=>by subst z;rw[q]at h;cases h;exact nc _ rfl)];exact q⟩
 ·rcases q with(q|⟨ob,q⟩)|q
  ·have n:b≠a:=fun z=>by subst z;rw[q]at h;cases h;exact nt _ rfl
   exact .inl (.inl (by rw[bN n];exact q))
  ·have n:b≠a:=fun z=>by subst z;rw[q]at h;cases h;exact nf _ _ rfl
   exact .inl (.inr ⟨ob,by rw[bN n];exact q⟩)
  ·exact .inr q
 ·rcases q with⟨ob,q⟩|q
  ·have n:b≠a:=fun z=>by subst z;rw[q]at h;cases h;exact nl _ _ rfl
   exact .inl ⟨ob,by rw[bN n];exact q⟩
  ·exact .inr q
theorem fb(s:xn H H'):ES K H H':=by
 refine⟨fun b xs q=>?_,fun b ns q=>?_,fun b ob q=>s _ _ q⟩
 ·rcases q with(q|⟨ob,q⟩)|q
  ·exact .inl (.inl (s _ _ q))
  ·exact .inl (.inr ⟨ob,s _ _ q⟩)
  ·exact .inr q
 ·rcases q with⟨ob,q⟩|q
  ·exact .inl ⟨ob,s _ _ q⟩
  ·exact .inr q
def dc(h:H q=none)(o':HO):ES K H (upd H q o'):=fb (eQ h o')
end
abbrev NK:=List (List Int)
def hNK(ks:NK):Int:=reduceHash (Builtin.Tuple.tupleHashOf (ks.map fun k=>reduceHash (Builtin.Tuple.tupleHashOf (k.map hashInt))))
abbrev KN:List ((NK×Addr)×V)->List (NK×Addr×Z7)->Prop:=Paired fun p q=>p.1.1=q.1/\p.1.2=q.2.1/\eM p.2 q.2.2
def dNo(a:Addr)(kvs:List ((NK×Addr)×V)):HO:=.ext fun h=>kvs.length<=ZP/\(a == sysModules)=false/\∃xs,KN kvs xs/\
 ∃o es ep,h.get? a=some o/\o.ExactDict/\o.data=.dict es ep/\es.toList=(xs.map fun x=>(⟨hNK x.1,.ref x.2.1,x.2.2⟩:DictEntry))/\(xs.map (·.1)).Nodup
def Nl(K:Z6)(H:Hp)(b:Addr)(k:NK):Prop:=∃cs:List Addr,SqT K H b (cs.map V.ref)/\Paired (fun(l:List Int) c=>SqT K H c (l.map V.int)) k cs
theorem Nl.mono{K:Z6}{H H':Hp}{b:Addr}{k:NK}(e:ES K H H')(h:Nl K H b k):Nl K H' b k:=let ⟨cs,p,q⟩:=h;⟨cs,e.t _ _ p,Paired.mapP q fun _ _ z=>e.t _ _ z⟩
def nP(kvs:List ((NK×Addr)×V)):List (NK×V):=kvs.map fun p=>(p.1.1,p.2)
def IsP{κ:Type}(K:Z6)(m:List Addr)(H:Hp)(kvs:List (κ×V))(kus:List (κ×U)):Prop:=kvs.map (·.1)=kus.map (·.1)/\IsL K m H (kvs.map (·.2)) (kus.map (·.2))
def Rf(K:Z6)(m:List Addr)(H:Hp):Option V->Option U->Prop
 |some v,some u=>Is K m H v u
 |none,none=>True
 |_,_=>False
structure InF(K:Z6)(m:List Addr)(H:Hp)(c:Cl)(fs:List (Str×V))(fus:List (Option U)):Prop where
 nd:c.ns.Nodup
 few:c.ns.length<1000
 knd:(fs.map (·.1)).Nodup
 sub:∀x∈fs.map (·.1),x∈c.ns
 len:fus.length=c.ns.length
 at_:∀(i:Nat) (x:Str),c.ns[i]?=some x->Rf K m H (fs.lookup x) ((fus[i]?).join)
theorem Rf.mono{K:Z6}{m m':List Addr}{H H':Hp}{v:Option V}{u:Option U}(e:Ext K m H m' H')(h:Rf K m H v u):Rf K m' H' v u:=by
 cases v with
 |none=>cases u with
  |none=>trivial
  |some u=>exact h.elim
 |some v=>cases u with
  |none=>exact h.elim
  |some u=>exact Is.mono e h
theorem InF.mono{K:Z6}{m m':List Addr}{H H':Hp}{c:Cl}{fs:List (Str×V)}{fus:List (Option U)}(e:Ext K m H m' H')(h:InF K m H c fs fus):InF K m' H' c fs fus:=⟨h.nd,h.few,h.knd,h.sub,h.len,fun i x q=>(h.at_ i x q).mono e⟩
def EM(H:Hp)(pos:Pos)(q:Str)(ps:Array Z7):Prop:=TriplesOk ps.toList/\(codeAmong pos ps.toList=none\/∃c ob vs t,codeAmong pos ps.toList=some (.ref c)/\H c=some (.frz ob (.own 0))/\ob.data=.fields vs/\vs[1]?=some (.str q t))
theorem EM.mono{K:Z6}{H H':Hp}{pos:Pos}{q:Str}{ps:Array Z7}(e:ES K H H')(h:EM H pos q ps):EM H' pos q ps:=⟨h.1,h.2.imp id fun⟨c,ob,vs,t,h1,h2,h3⟩=>⟨c,ob,vs,t,h1,e.c _ _ h2,h3⟩⟩
def wX(a C:Addr):HO:=.ext fun h=>∃o,h.get? a=some o/\o.cls=.ref C/\o.dict=none/\∃vs,o.data=.fields vs
def Ob(K:Z6)(m:List Addr)(H:Hp)(a:Addr):O->Prop
 |.lst us=>∃xs,H a=some (.lst xs)/\IsL K m H xs us
 |.dic kus=>∃kvs,H a=some (.dK kvs)/\IsP K m H kvs kus
 |.ins c fus=>∃dx fs,H a=some (.ins c.C dx fs)/\InF K m H c fs fus
 |.fdc ep kus=>∃ob es kvs,H a=some (.frz ob (.dK kvs))/\ob.data=.dict es ep/\IsP K m H kvs kus
 |.dit kus=>∃kvs,H a=some (.dT kvs)/\IsP K m H kvs kus
 |.fdt ep kus=>∃ob es kvs,H a=some (.frz ob (.dT kvs))/\ob.data=.dict es ep/\IsP K m H kvs kus
 |.dnt kus=>∃kvs,H a=some (dNo a kvs)/\(∀p∈kvs,Nl K H p.1.2 p.1.1)/\IsP K m H (nP kvs) kus
 |.fdn ep kus=>∃ob es kvs,H a=some (.frz ob (dNo a kvs))/\ob.data=.dict es ep/\(∀p∈kvs,Nl K H p.1.2 p.1.1)/\IsP K m H (nP kvs) kus
 |.cod p pos q=>a=p/\∃ps,H a=some (.tbl ps)/\EM H pos q ps
 |.exc C=>H a=some (wX a C)
structure Sr(K:Z6)(m:List Addr)(S:Sto)(H:Hp):Prop where
 len:m.length=S.length
 nd:m.Nodup
 ob:∀(l:Nat) (a:Addr) (o:O),m[l]?=some a->S[l]?=some o->Ob K m H a o
structure Lr(K:Z6)(m:List Addr)(H:Hp)(ρ:Rho)(σ:L2.St):Prop where
 len:ρ.length=σ.length
 at_:∀(i:Nat) (u:U),ρ[i]?=some (some u)->∃v,σ[i]?=some (some v)/\Is K m H v u
section
variable{κ:Type}{K:Z6}{m m':List Addr}{H H':Hp}{S:Sto}{ρ:Rho}{σ:L2.St}{a q:Addr}{l:Nat}{o:O}{ho:HO}{us:List U}{v:V}{u:U}{kvs:List (κ×V)}{kus:List (κ×U)}
def IsP.mono(e:Ext K m H m' H')(h:IsP K m H kvs kus):IsP K m' H' kvs kus:=⟨h.1,h.2.mono e⟩
def IsP.length(h:IsP K m H kvs kus):kvs.length=kus.length:=by have:=h.2.length;simpa using this
def IsP.nil_:IsP (κ:=κ) K m H [] []:=⟨rfl,.nil_⟩
theorem IsP.cons_{k:κ}(h:Is K m H v u)(t:IsP K m H kvs kus):IsP K m H ((k,v)::kvs) ((k,u)::kus):=⟨by simp[t.1],.cons_ h t.2⟩
theorem IsP.ind{P:List (κ×V)->List (κ×U)->Prop}(h0:P [] [])(h1:∀k v u kvs kus,Is K m H v u->IsP K m H kvs kus->P kvs kus->P ((k,v)::kvs) ((k,u)::kus)):∀{kvs:List (κ×V)} {kus:List (κ×U)},IsP K m H kvs kus->P kvs kus
 |[],[],_=>h0
 |[],p::r,h=>by have:=h.length;simp at this
 |p::r,[],h=>by have:=h.length;simp at this
 |(k,v)::r,(k',u)::r',h=>by
  obtain⟨e,i⟩:=h;simp only[ZG,List.cons.injEq]at e;obtain⟨e1,e2⟩:=e;subst e1;obtain⟨x,t,e3,iu,it⟩:=i.of_cons;cases e3;exact h1 k v u r r' iu ⟨e2,it⟩ (IsP.ind h0 h1 (⟨e2,it⟩:IsP K m H r r'))
theorem Ob.mono(e:Ext K m H m' H')(h1:H' a=H a)(h:Ob K m H a o):Ob K m' H' a o:=by
 cases o with
 |lst us=>obtain⟨xs,k,i⟩:=h;exact⟨xs,h1.trans k,i.mono e⟩
 |dic kus=>obtain⟨xs,k,i⟩:=h;exact⟨xs,h1.trans k,i.mono e⟩
 |ins C fus=>obtain⟨dx,fs,k,i⟩:=h;exact⟨dx,fs,h1.trans k,i.mono e⟩
 |fdc ep kus=>obtain⟨ob,es,kvs,k,d,i⟩:=h;exact⟨ob,es,kvs,h1.trans k,d,i.mono e⟩
 |dit kus=>obtain⟨xs,k,i⟩:=h;exact⟨xs,h1.trans k,i.mono e⟩
 |fdt ep kus=>obtain⟨ob,es,kvs,k,d,i⟩:=h;exact⟨ob,es,kvs,h1.trans k,d,i.mono e⟩
 |dnt kus=>obtain⟨kvs,k,y,i⟩:=h;exact⟨kvs,h1.trans k,fun p hp=>(y p hp).mono e.keep,i.mono e⟩
 |fdn ep kus=>obtain⟨ob,es,kvs,k,d,y,i⟩:=h;exact⟨ob,es,kvs,h1.trans k,d,fun p hp=>(y p hp).mono e.keep,i.mono e⟩
 |cod p pos q=>obtain⟨z,ps,k,i⟩:=h;exact⟨z,ps,h1.trans k,i.mono e.keep⟩
 |exc C=>exact h1.trans h
theorem Ob.some(h:Ob K m H a o):∃ho,H a=some ho/\(∀xs,ho≠.tup xs)/\(∀ob xs,ho≠.frz ob (.tup xs))/\(∀ob xs,ho≠.frz ob (.lst xs))/\(∀ob,ho≠.frz ob (.own 0)):=by
 cases o with
 |lst us=>obtain⟨xs,k,i⟩:=h;exact⟨_,k,by simp,by simp,by simp,by simp⟩
 |dic kus=>obtain⟨xs,k,i⟩:=h;exact⟨_,k,by simp,by simp,by simp,by simp⟩
 |ins C fus=>obtain⟨dx,fs,k,i⟩:=h;exact⟨_,k,by simp,by simp,by simp,by simp⟩
 |fdc ep kus=>obtain⟨ob,es,kvs,k,d,i⟩:=h;exact⟨_,k,by simp,by simp,by simp,by simp⟩
 |dit kus=>obtain⟨xs,k,i⟩:=h;exact⟨_,k,by simp,by simp,by simp,by simp⟩
 |fdt ep kus=>obtain⟨ob,es,kvs,k,d,i⟩:=h;exact⟨_,k,by simp,by simp,by simp,by simp⟩
 |dnt kus=>obtain⟨kvs,k,y,i⟩:=h;exact⟨_,k,by simp[dNo],by simp[dNo],by simp[dNo],by simp[dNo]⟩
 |fdn ep kus=>obtain⟨ob,es,kvs,k,d,y,i⟩:=h;exact⟨_,k,by simp,by simp[dNo],by simp[dNo],by simp[dNo]⟩
 |cod p pos q=>obtain⟨z,ps,k,i⟩:=h;exact⟨_,k,by simp,by simp,by simp,by simp⟩
 |exc C=>exact⟨_,h,by simp[wX],by simp[wX],by simp[wX],by simp[wX]⟩
theorem Lr.mono(e:Ext K m H m' H')(h:Lr K m H ρ σ):Lr K m' H' ρ σ:=⟨h.len,fun i u e1=>let ⟨v,e2,e3⟩:=h.at_ i u e1;⟨v,e2,e3.mono e⟩⟩
theorem Lr.set(h:Lr K m H ρ σ)(i:Nat)(hv:Is K m H v u):Lr K m H (ρ.set i (some u)) (σ.set i (some v)):=by
 refine⟨by simp[h.len],fun j w e=>?_⟩;by_cases c:i=j
 ·subst c;rw[List.getElem?_set_self' ]at e;rw[List.getElem?_set_self'];have hl:=h.len;cases e1:ρ[i]? with
  |none=>rw[e1]at e;simp at e
  |some z=>
   rw[e1]at e;simp at e;subst e;have:i < σ.length:=by rw[<-hl];exact(Z9.mp e1).1
   rw[ZR this];exact⟨v,rfl,hv⟩
 ·rw[ZH c]at e;rw[ZH c];exact h.at_ j w e
theorem Sr.get(r:Sr K m S H)(h:S[l]?=some o):∃a,m[l]?=some a/\Ob K m H a o:=by
 have hl:l<m.length:=by rw[r.len];exact(Z9.mp h).1
 exact⟨_,ZR hl,r.ob _ _ _ (ZR hl) h⟩
theorem Sr.at_(r:Sr K m S H)(h:m[l]?=some a):∃o,S[l]?=some o/\Ob K m H a o:=by
 have hl:l<S.length:=by rw[<-r.len];exact(Z9.mp h).1
 exact⟨_,ZR hl,r.ob _ _ _ h (ZR hl)⟩
theorem Sr.same(r:Sr K m S H)(s:xn H H'):Sr K m S H':=⟨r.len,r.nd,fun l a o h1 h2=>by
 have q:=r.ob l a o h1 h2;obtain⟨ho,e,_⟩:=q.some;exact q.mono (.of (fb s)) (by rw[s _ _ e,e])⟩
theorem Sr.new(r:Sr K m S H)(h:H q=none)(n:Ob K (m++[q]) (upd H q ho) q o):Sr K (m++[q]) (S++[o]) (upd H q ho):=by
 have hq:q∉m:=fun z=>by
  obtain⟨l,e⟩:=List.getElem?_of_mem z;obtain⟨o,_,k⟩:=r.at_ e;obtain⟨ho,e2,_⟩:=k.some;rw[h]at e2;cases e2
 refine⟨by simp[r.len],?_,fun l a o' h1 h2=>?_⟩
 ·rw[List.nodup_append];exact⟨r.nd,by simp,fun x hx y hy z=>by simp at hy;subst hy;subst z;exact hq hx⟩
 ·by_cases c:l<m.length
  ·rw[Zq c]at h1;rw[Zq (by rw[<-r.len];exact c)]at h2;have q':=r.ob l a o' h1 h2;obtain⟨ho',e,_⟩:=q'.some;exact q'.mono (.new (dc h _)) (by rw[bN (dG e h)])
  ·have e:l=m.length:=by
    have:=(Z9.mp h1).1;simp at this;omega
   subst e;rw[Zb (ZD _)]at h1;rw[Zb (by rw[r.len];exact ZD _)]at h2;simp[r.len]at h1 h2;subst h1;subst h2;exact n
theorem Sr.put(r:Sr K m S H)(h:m[l]?=some a)(n:Ob K m (upd H a ho) a o):Sr K m (S.set l o) (upd H a ho):=by
 obtain⟨o0,h0,k0⟩:=r.at_ h;obtain⟨ho',e,nt,nf,nl,nc⟩:=k0.some;refine⟨by simp[r.len],r.nd,fun l' a' o' h1 h2=>?_⟩;by_cases c:l=l'
 ·subst c;rw[h]at h1;cases h1;rw[Zr (Z9.mp h0).1]at h2;cases h2;exact n
 ·rw[ZH c]at h2;have na:a'≠a:=fun z=>by
   subst z;obtain⟨p1,e1⟩:=Z9.mp h;obtain⟨p2,e2⟩:=Z9.mp h1;exact c ((List.getElem_inj r.nd).mp (e1.trans e2.symm))
  exact(r.ob l' a' o' h1 h2).mono (.of (yg e nt nf nl nc _)) (by rw[bN na])
theorem Sr.keep(r:Sr K m S H)(h:m[l]?=some a)(ho:HO):ES K H (upd H a ho):=by
 obtain⟨o0,h0,k0⟩:=r.at_ h;obtain⟨ho',e,nt,nf,nl,nc⟩:=k0.some;exact yg e nt nf nl nc _
end
def mE(K:Z6)(m:List Addr)(H:Hp)(Q:VK)(u:U)(S':Sto):Prop:=∀m' v H',Ext K m H m' H'->Sr K m' S' H'->Is K m' H' v u->Q v H'
abbrev CE:=Rho->Sto->Option (U×Sto)
abbrev CT:=Rho->Sto->Option (Bool×Sto)
abbrev CA:=Rho->Sto->Option (List U×Sto)
inductive Out where
 |nx|rt (u:U)|bk|ct
abbrev CS:=Rho->Sto->Option (Out×Rho×Sto)
def EO(K:Z6)(m:List Addr)(H:Hp)(Q:Bool->Hp->Prop)(b:Bool)(S':Sto):Prop:=∀m' H',Ext K m H m' H'->Sr K m' S' H'->Q b H'
def QC(K:Z6)(m:List Addr)(H:Hp)(Q:List V->Hp->Prop)(us:List U)(S':Sto):Prop:=∀m' vs H',Ext K m H m' H'->Sr K m' S' H'->IsL K m' H' vs us->Q vs H'
def kC(K:Z6)(m:List Addr)(H:Hp)(Q:L2.St->Hp->Prop)(ρ':Rho)(S':Sto):Prop:=∀m' σ' H',Ext K m H m' H'->Sr K m' S' H'->Lr K m' H' ρ' σ'->Q σ' H'
def zN(K:Z6)(m:List Addr)(H:Hp)(D:Co):Out->Rho->Sto->Prop
 |.nx,ρ',S'=>kC K m H D.nx ρ' S'
 |.bk,ρ',S'=>kC K m H D.bk ρ' S'
 |.ct,ρ',S'=>kC K m H D.ct ρ' S'
 |.rt u,_,S'=>mE K m H D.rt u S'
theorem qC{α β γ δ ε:Type}{A B C D:α->β->γ->δ->ε->Prop}{p:Prop}(h:∃a b c d e,A a b c d e/\B a b c d e/\C a b c d e/\D a b c d e)(f:∀a b c d e,A a b c d e->B a b c d e->C a b c d e->D a b c d e->p):p:=by
 obtain⟨a,b,c,d,e,h1,h2,h3,h4⟩:=h;exact f a b c d e h1 h2 h3 h4
theorem wY{α β γ δ ε ζ:Type}{A B C D:α->β->γ->δ->ε->ζ->Prop}{p:Prop}(h:∃a b c d e g,A a b c d e g/\B a b c d e g/\C a b c d e g/\D a b c d e g)(f:∀a b c d e g,A a b c d e g->B a b c d e g->C a b c d e g->D a b c d e g->p):p:=by
 obtain⟨a,b,c,d,e,g,h1,h2,h3,h4⟩:=h;exact f a b c d e g h1 h2 h3 h4
theorem Rp{α β γ δ ε ζ:Type}{A B C D E:α->β->γ->δ->ε->ζ->Prop}{p:Prop}(h:∃a b c d e g,A a b c d e g/\B a b c d e g/\C a b c d e g/\D a b c d e g/\E a b c d e g)(f:∀a b c d e g,A a b c d e g->B a b c d e g->C a b c d e g->D a b c d e g->E a b c d e g->p):p:=by
 obtain⟨a,b,c,d,e,g,h1,h2,h3,h4,h5⟩:=h;exact f a b c d e g h1 h2 h3 h4 h5
def tE(K:Z6)(c:CE):TE:=fun σ H Q=>∃m ρ S u S',Sr K m S H/\Lr K m H ρ σ/\c ρ S=some (u,S')/\mE K m H Q u S'
def tT(K:Z6)(c:CT):TT:=fun σ H Q=>∃m ρ S u S',Sr K m S H/\Lr K m H ρ σ/\c ρ S=some (u,S')/\EO K m H Q u S'
def tA(K:Z6)(c:CA):TA:=fun σ H Q=>∃m ρ S u S',Sr K m S H/\Lr K m H ρ σ/\c ρ S=some (u,S')/\QC K m H Q u S'
def tS(K:Z6)(c:CS):TS:=fun D σ H=>∃m ρ S o ρ' S',Sr K m S H/\Lr K m H ρ σ/\c ρ S=some (o,ρ',S')/\zN K m H D o ρ' S'
abbrev QE(X:Cx)(e:ZC)(c:CE):Prop:=WE X e (tE X.K c)
abbrev QT(X:Cx)(e:ZC)(c:CT):Prop:=WT X e (tT X.K c)
abbrev QW(X:Cx)(e:ZC)(c:CT):Prop:=WW X e (tT X.K c)
abbrev QS(X:Cx)(e:Zw)(c:CS):Prop:=WS X e (tS X.K c)
abbrev QSs(X:Cx)(e:List Zw)(c:CS):Prop:=WSs X e (tS X.K c)
structure QA(X:Cx)(es:List ZC)(c:CA):Prop where
 h:WA X es (tA X.K c)
 len:∀ρ S us S',c ρ S=some (us,S')->us.length=es.length
section
variable{X:Cx}{e:ZC}{es:List ZC}{st:Zw}{sts:List Zw}
theorem _root_.OG.WE.imp{t t':TE}(h:WE X e t)(i:∀σ H Q,t' σ H Q->t σ H Q):WE X e t':=⟨fun pins s σ H Q I k=>h.h pins s σ H Q I (i σ H Q k)⟩
theorem _root_.OG.WT.imp{t t':TT}(h:WT X e t)(i:∀σ H Q,t' σ H Q->t σ H Q):WT X e t':=⟨fun pins s σ H Q I k=>h.h pins s σ H Q I (i σ H Q k)⟩
theorem _root_.OG.WW.imp{t t':TT}(h:WW X e t)(i:∀σ H Q,t' σ H Q->t σ H Q):WW X e t':=⟨fun wh pins s σ H Q I k=>h.h wh pins s σ H Q I (i σ H Q k)⟩
theorem _root_.OG.WA.imp{t t':TA}(h:WA X es t)(i:∀σ H Q,t' σ H Q->t σ H Q):WA X es t':=⟨fun pos pins s σ H Q I k=>h.h pos pins s σ H Q I (i σ H Q k)⟩
theorem _root_.OG.WS.imp{t t':TS}(h:WS X st t)(i:∀D σ H,t' D σ H->t D σ H):WS X st t':=⟨fun pins s σ H D I k=>h.h pins s σ H D I (i D σ H k)⟩
theorem _root_.OG.WSs.imp{t t':TS}(h:WSs X sts t)(i:∀D σ H,t' D σ H->t D σ H):WSs X sts t':=⟨fun pins s σ H D I k=>h.h pins s σ H D I (i D σ H k)⟩
theorem _root_.OG.WI.imp{tg:ZC}{t t':TI}(h:WI X tg e t)(i:∀σ H R,t' σ H R->t σ H R):WI X tg e t':=⟨fun pins s σ H R I k=>h.h pins s σ H R I (i σ H R k)⟩
theorem _root_.OG.WG.imp{t t':TG}(h:WG X e t)(i:∀v σ H Q,t' v σ H Q->t v σ H Q):WG X e t':=⟨fun pins s σ H v u Q I r k=>h.h pins s σ H v u Q I r (i v σ H Q k)⟩
theorem _root_.OG.WGs.imp{t t':TGs}(h:WGs X es t)(i:∀v σ H Q,t' v σ H Q->t v σ H Q):WGs X es t':=⟨fun pins s σ H v u Q I r k=>h.h pins s σ H v u Q I r (i v σ H Q k)⟩
theorem _root_.OG.WE.or{t t':TE}(h:WE X e t)(h':WE X e t'):WE X e (fun σ H Q=>t σ H Q\/t' σ H Q):=⟨fun pins s σ H Q I k=>k.elim (h.h pins s σ H Q I) (h'.h pins s σ H Q I)⟩
theorem _root_.OG.WS.or{t t':TS}(h:WS X st t)(h':WS X st t'):WS X st (fun D σ H=>t D σ H\/t' D σ H):=⟨fun pins s σ H D I k=>k.elim (h.h pins s σ H D I) (h'.h pins s σ H D I)⟩
theorem _root_.OG.WI.or{tg:ZC}{t t':TI}(h:WI X tg e t)(h':WI X tg e t'):WI X tg e (fun σ H D=>t σ H D\/t' σ H D):=⟨fun pins s σ H D I k=>k.elim (h.h pins s σ H D I) (h'.h pins s σ H D I)⟩
end
section
variable{K:Z6}{m m':List Addr}{H H':Hp}{Q:VK}{R:L2.St->Hp->Prop}{D:Co}{u:U}{o:Out}{S':Sto}{ρ':Rho}
def mE.mono(e:Ext K m H m' H')(p:mE K m H Q u S'):mE K m' H' Q u S':=fun m2 v H2 e2 r i=>p m2 v H2 (e.trans e2) r i
theorem EO.mono{Q:Bool->Hp->Prop}{b:Bool}(e:Ext K m H m' H')(p:EO K m H Q b S'):EO K m' H' Q b S':=fun m2 H2 e2 r=>p m2 H2 (e.trans e2) r
theorem kC.mono(e:Ext K m H m' H')(p:kC K m H R ρ' S'):kC K m' H' R ρ' S':=fun m2 v H2 e2 r i=>p m2 v H2 (e.trans e2) r i
theorem zN.mono(e:Ext K m H m' H')(p:zN K m H D o ρ' S'):zN K m' H' D o ρ' S':=by
 cases o with
 |nx=>exact kC.mono e p
 |rt u=>exact mE.mono e p
 |bk=>exact kC.mono e p
 |ct=>exact kC.mono e p
end
def LIM:Nat:=100000
def lim{n:Nat}(h:n<=LIM):n<=ZP:=Zl h (by unfold LIM ZP;decide)
def NA{n:Nat}(h:n<LIM):n<ZP:=Zz h (by unfold LIM ZP;decide)
def ao(i:Nat):CE:=fun ρ S=>match ρ[i]? with
 |some (some u)=>some (u,S)
 |_=>none
def cC(u:U):CE:=fun _ S=>some (u,S)
section
variable{X:Cx}{e a b c:ZC}{ca cb cc:CE}{pos:Pos}
theorem ah{i:Nat}(h:WE X e (Nw i)):QE X e (ao i):=h.imp fun σ H Q hz=>qC hz fun m ρ S u S' sr lr hc post=>by
 unfold ao at hc;split at hc
 ·rename_i u' e;cases hc;obtain⟨v,e1,e2⟩:=lr.at_ i u e;exact⟨v,e1,post m v H .refl sr e2⟩
 ·cases hc
theorem q_c{v:V}{u:U}(h:WE X e (tC v))(hi:∀m H,Is X.K m H v u):QE X e (cC u):=h.imp fun σ H Q hz=>qC hz fun m ρ S u' S' sr lr hc post=>by
 cases hc;exact post m v H .refl sr (hi m H)
def ax{i:Int}(h:WE X e (tC (.int i))):QE X e (cC (.int i)):=q_c h fun _ _=>.int_
def tq{i:Bool}(h:WE X e (tC (.bl i))):QE X e (cC (.bl i)):=q_c h fun _ _=>.bl_
def aS{i:Str}(h:WE X e (tC (.str i))):QE X e (cC (.str i)):=q_c h fun _ _=>.str_
def gz(h:WE X e (tC .non)):QE X e (cC .non):=q_c h fun _ _=>.non_
def cOp(f:U->U->Sto->Option (U×Sto))(ca cb:CE):CE:=fun ρ S=>(ca ρ S).bind fun p=>(cb ρ p.2).bind fun q=>f p.1 q.1 q.2
def OpP(K:Z6)(r:R2)(f:U->U->Sto->Option (U×Sto)):Prop:=
 ∀m S H x y v w u S' Q,Sr K m S H->Is K m H v x->Is K m H w y->f x y S=some (u,S')->mE K m H Q u S'->r v w H Q
theorem uS{K:Z6}{r:R2}{f:U->U->Sto->Option (U×Sto)}(hp:OpP K r f):∀σ H Q,tE K (cOp f ca cb) σ H Q->tOp r (tE K ca) (tE K cb) σ H Q:=by
 rintro σ H Q ⟨m,ρ,S,u,S',sr,lr,hc,post⟩;obtain⟨⟨x,S1⟩,h1,h⟩:=Z0.mp hc;obtain⟨⟨y,S2⟩,h2,h3⟩:=Z0.mp h;exact⟨m,ρ,S,x,S1,sr,lr,h1,fun m1 v1 H1 e1 sr1 i1=>⟨m1,ρ,S1,y,S2,sr1,lr.mono e1,h2,fun m2 v2 H2 e2 sr2 i2=>hp m2 S2 H2 x y v1 v2 u S' Q sr2 (i1.mono e2) i2 h3 (post.mono (e1.trans e2))⟩⟩
theorem cS{op:Operator}{r:R2}{f:U->U->Sto->Option (U×Sto)}(ho:OpR X (binaryOp op) r)(hp:OpP X.K r f)(ha:QE X a ca)(hb:QE X b cb):QE X (.BinOp a op b pos) (cOp f ca cb):=(J6 ho ha hb).imp (uS hp)
theorem gJ{op:CmpOp}{r:R2}{f:U->U->Sto->Option (U×Sto)}(ho:OpR X (compareOp op) r)(hp:OpP X.K r f)(ha:QE X a ca)(hb:QE X b cb)(hm:behindInMarks op b=false):QE X (.Compare a [op] [b] pos) (cOp f ca cb):=(xF ho ha hb hm).imp (uS hp)
def aL(c:CE):CT:=fun ρ S=>(c ρ S).bind fun p=>match p.1 with
 |.bl b=>some (b,p.2)
 |_=>none
theorem xK{K:Z6}{c:CE}{t:TE}(h:∀σ H Q,tE K c σ H Q->t σ H Q):∀σ H Q,tT K (aL c) σ H Q->t σ H fun x H'=>∃k,x=.bl k/\Q k H':=by
 rintro σ H Q ⟨m,ρ,S,u,S',sr,lr,hc,post⟩;obtain⟨⟨x,S1⟩,h1,h2⟩:=Z0.mp hc;refine h σ H _ ⟨m,ρ,S,x,S1,sr,lr,h1,fun m1 v1 H1 e1 sr1 i1=>?_⟩;cases x<;>simp at h2;obtain⟨rfl,rfl⟩:=h2;exact⟨_,i1.of_bl,post m1 H1 e1 sr1⟩
theorem aP{op:CmpOp}{r:R2}{f:U->U->Sto->Option (U×Sto)}(ho:OpR X (compareOp op) r)(hp:OpP X.K r f)(ha:QE X a ca)(hb:QE X b cb)(hm:behindInMarks op b=false):QT X (.Compare a [op] [b] pos) (aL (cOp f ca cb)):=(CH ho ha hb hm).imp (xK (uS hp))
theorem gI(h:QE X e ca)(he:∀whole,isTrue e X.env whole=(do let v <-whole;standAt e.pos;holding [v] (truthy v)):=by intro _;rfl):QT X e (aL ca):=(Gb h he).imp (xK fun _ _ _ z=>z)
variable{ta tb:CT}{rest:List ZC}
def rD(ta tb:CT):CT:=fun ρ S=>(ta ρ S).bind fun p=>if p.1=true then tb ρ p.2 else some (false,p.2)
def cOr(ta tb:CT):CT:=fun ρ S=>(ta ρ S).bind fun p=>if p.1=true then some (true,p.2)else tb ρ p.2
def xi(ta:CT):CT:=fun ρ S=>(ta ρ S).bind fun p=>some (!p.1,p.2)
def AN(h:QW X e ta):QT X e ta:=WW.pt h
def qb(ha:QT X a ta):QW X (.BoolOp .And [a] pos) ta:=CF ha
def Dr(ha:QT X a ta):QW X (.BoolOp .Or [a] pos) ta:=F9 ha
theorem qX(ha:QT X a ta)(hb:QW X (.BoolOp .And (b::rest) pos) tb):QW X (.BoolOp .And (a::b::rest) pos) (rD ta tb):=(Ga ha hb).imp fun σ H Q hz=>qC hz fun m ρ S u S' sr lr hc post=>by
 obtain⟨⟨x,S1⟩,h1,h2⟩:=Z0.mp hc;refine⟨m,ρ,S,x,S1,sr,lr,h1,fun m1 H1 e1 sr1=>?_⟩;cases x with
 |true=>exact Fv ⟨m1,ρ,S1,u,S',sr1,lr.mono e1,h2,post.mono e1⟩
 |false=>cases h2;exact Fx (post m1 H1 e1 sr1)
theorem K5(ha:QT X a ta)(hb:QW X (.BoolOp .Or (b::rest) pos) tb):QW X (.BoolOp .Or (a::b::rest) pos) (cOr ta tb):=(J4 ha hb).imp fun σ H Q hz=>qC hz fun m ρ S u S' sr lr hc post=>by
 obtain⟨⟨x,S1⟩,h1,h2⟩:=Z0.mp hc;refine⟨m,ρ,S,x,S1,sr,lr,h1,fun m1 H1 e1 sr1=>?_⟩;cases x with
 |true=>cases h2;exact Fv (post m1 H1 e1 sr1)
 |false=>exact Fx ⟨m1,ρ,S1,u,S',sr1,lr.mono e1,h2,post.mono e1⟩
theorem jd(ha:QT X a ta):QT X (.UnaryOp .Not a pos) (xi ta):=(Gd ha).imp fun σ H Q hz=>qC hz fun m ρ S u S' sr lr hc post=>by
 obtain⟨⟨x,S1⟩,h1,h2⟩:=Z0.mp hc;cases h2;exact⟨m,ρ,S,x,_,sr,lr,h1,fun m1 H1 e1 sr1=>post m1 H1 e1 sr1⟩
def lP(ca cb:CE):CE:=fun ρ S=>(ca ρ S).bind fun p=>match p.1 with
 |.bl true=>cb ρ p.2
 |.bl false=>some (.bl false,p.2)
 |_=>none
def Rr(ca cb:CE):CE:=fun ρ S=>(ca ρ S).bind fun p=>match p.1 with
 |.bl false=>cb ρ p.2
 |.bl true=>some (.bl true,p.2)
 |_=>none
def EG(ca:CE):CE:=fun ρ S=>(ca ρ S).bind fun p=>match p.1 with
 |.bl b=>some (.bl (!b),p.2)
 |_=>none
def qW{op}(h:QE X a ca):QE X (.BoolOp op [a] pos) ca:=Gm h
theorem jY(ha:QE X a ca)(hb:QE X (.BoolOp .And (b::rest) pos) cb):QE X (.BoolOp .And (a::b::rest) pos) (lP ca cb):=(Gr ha hb).imp fun σ H Q hz=>qC hz fun m ρ S u S' sr lr hc post=>by
 obtain⟨⟨x,S1⟩,h1,h2⟩:=Z0.mp hc;refine⟨m,ρ,S,x,S1,sr,lr,h1,fun m1 v1 H1 e1 sr1 i1=>?_⟩;cases x with
 |bl k=>
  refine⟨k,i1.of_bl,?_⟩;cases k with
  |true=>exact Fv ⟨m1,ρ,S1,u,S',sr1,lr.mono e1,h2,post.mono e1⟩
  |false=>cases h2;exact Fx (post m1 _ H1 e1 sr1 .bl_)
 |_=>simp at h2
theorem K6(ha:QE X a ca):QE X (.UnaryOp .Not a pos) (EG ca):=(Gn ha).imp fun σ H Q hz=>qC hz fun m ρ S u S' sr lr hc post=>by
 obtain⟨⟨x,S1⟩,h1,h2⟩:=Z0.mp hc;refine⟨m,ρ,S,x,S1,sr,lr,h1,fun m1 v1 H1 e1 sr1 i1=>?_⟩;cases x with
 |bl k=>cases h2;exact⟨k,i1.of_bl,post m1 _ H1 e1 sr1 .bl_⟩
 |_=>simp at h2
def cIf(t:CT)(ca cb:CE):CE:=fun ρ S=>(t ρ S).bind fun p=>if p.1=true then ca ρ p.2 else cb ρ p.2
theorem Hh(hc:QT X c ta)(ha:QE X a ca)(hb:QE X b cb):QE X (.IfExp c a b pos) (cIf ta ca cb):=(Aa hc ha hb).imp fun σ H Q hz=>qC hz fun m ρ S u S' sr lr hc post=>by
 obtain⟨⟨x,S1⟩,h1,h2⟩:=Z0.mp hc;refine⟨m,ρ,S,x,S1,sr,lr,h1,fun m1 H1 e1 sr1=>?_⟩;cases x with
 |true=>exact Fv ⟨m1,ρ,S1,u,S',sr1,lr.mono e1,h2,post.mono e1⟩
 |false=>exact Fx ⟨m1,ρ,S1,u,S',sr1,lr.mono e1,h2,post.mono e1⟩
def j9(f f':U->U->Sto->Option (U×Sto))(ca cb cc:CE):CE:=fun ρ S=>(ca ρ S).bind fun p=>(cb ρ p.2).bind fun q=>(f p.1 q.1 q.2).bind fun r=>match r.1 with
 |.bl true=>(cc ρ r.2).bind fun z=>f' q.1 z.1 z.2
 |.bl false=>some (.bl false,r.2)
 |_=>none
theorem BR{K:Z6}{r r':R2}{f f':U->U->Sto->Option (U×Sto)}(hp:OpP K r f)(hp':OpP K r' f'):∀σ H Q,tE K (j9 f f' ca cb cc) σ H Q->Aq r r' (tE K ca) (tE K cb) (tE K cc) σ H Q:=by
 rintro σ H Q ⟨m,ρ,S,u,S',sr,lr,hc,post⟩;obtain⟨⟨x,S1⟩,h1,h⟩:=Z0.mp hc;obtain⟨⟨y,S2⟩,h2,h⟩:=Z0.mp h;obtain⟨⟨z,S3⟩,h3,h4⟩:=Z0.mp h;refine⟨m,ρ,S,x,S1,sr,lr,h1,fun m1 v1 H1 e1 sr1 i1=>⟨m1,ρ,S1,y,S2,sr1,lr.mono e1,h2,fun m2 v2 H2 e2 sr2 i2=>hp m2 S2 H2 x y v1 v2 z S3 _ sr2 (i1.mono e2) i2 h3 fun m3 v3 H3 e3 sr3 i3=>?_⟩⟩;have e03:=(e1.trans e2).trans e3;cases z with
 |bl k=>
  refine⟨k,i3.of_bl,?_⟩;cases k with
  |true=>
   obtain⟨⟨w,S4⟩,h5,h6⟩:=Z0.mp h4;exact Fv ⟨m3,ρ,S3,w,S4,sr3,lr.mono e03,h5,fun m4 v4 H4 e4 sr4 i4=>hp' m4 S4 H4 y w v2 v4 u S' Q sr4 (i2.mono (e3.trans e4)) i4 h6 (post.mono (e03.trans e4))⟩
  |false=>cases h4;exact Fx (post m3 _ H3 e03 sr3 .bl_)
 |_=>simp at h4
theorem vZ{op op':CmpOp}{r r':R2}{f f':U->U->Sto->Option (U×Sto)}(ho:OpR X (compareOp op) r)(hp:OpP X.K r f)(ho':OpR X (compareOp op') r')(hp':OpP X.K r' f')(ha:QE X a ca)(hb:QE X b cb)(hc:QE X c cc)
  (hm:lastMarks [op,op'] [b,c]=false:=by with_unfolding_all rfl):QE X (.Compare a [op,op'] [b,c] pos) (j9 f f' ca cb cc):=(Ad ho ho' ha hb hc hm).imp (BR hp hp')
variable{es:List ZC}{cr:CA}
def aD:CA:=fun _ S=>some ([],S)
def ag(ca:CE)(cr:CA):CA:=fun ρ S=>(ca ρ S).bind fun p=>(cr ρ p.2).bind fun q=>some (p.1::q.1,q.2)
theorem av:QA X [] aD:=⟨jE.imp fun σ H Q hz=>qC hz fun m ρ S u S' sr lr hc post=>by cases hc;exact post m [] H .refl sr .nil_,fun ρ S us S' h=>by cases h;rfl⟩
theorem ae(ha:QE X e ca)(hr:QA X es cr)(hs:ZX (e::es) X.env=(false,eval e X.env)::ZX es X.env:=by rfl):QA X (e::es) (ag ca cr):=⟨(cZ ha hr.h hs).imp fun σ H Q hz=>qC hz fun m ρ S u S' sr lr hc post=>by
 obtain⟨⟨x,S1⟩,h1,h⟩:=Z0.mp hc;obtain⟨⟨y,S2⟩,h2,h3⟩:=Z0.mp h;cases h3;exact⟨m,ρ,S,x,S1,sr,lr,h1,fun m1 v1 H1 e1 sr1 i1=>⟨m1,ρ,S1,y,S2,sr1,lr.mono e1,h2,fun m2 v2 H2 e2 sr2 i2=>post m2 _ H2 (e1.trans e2) sr2 (.cons_ (i1.mono e2) i2)⟩⟩,
 fun ρ S us S' h=>by
 obtain⟨⟨x,S1⟩,h1,h⟩:=Z0.mp h;obtain⟨⟨y,S2⟩,h2,h3⟩:=Z0.mp h;cases h3;simp[hr.len ρ S1 y S2 h2]⟩
def jw(cr:CA):CE:=fun ρ S=>(cr ρ S).bind fun p=>some (.tup p.1,p.2)
def kr(cr:CA):CE:=fun ρ S=>(cr ρ S).bind fun p=>some (.ref p.2.length,p.2++[.lst p.1])
def gM{m:List Addr}{S:Sto}{q:Addr}(h:m.length=S.length):(m++[q])[S.length]?=some q:=by rw[Zb (by omega)];simp[h]
theorem tx{K:Z6}{m:List Addr}{H:Hp}{S:Sto}{us:List U}{xs:List V}{Q:VK}{p:Addr}(sr:Sr K m S H)(i:IsL K m H xs us)(post:mE K m H Q (.tup us) S)(hp:H p=none):Q (.ref p) (upd H p (.tup xs)):=
 post m _ _ (.of (dc hp _)) (sr.same (eQ hp _)) (.tup_ (SqT.of bx) (i.mono (.of (dc hp _))))
theorem gK{K:Z6}{m:List Addr}{H:Hp}{S:Sto}{us:List U}{xs:List V}{Q:VK}{p:Addr}(sr:Sr K m S H)(i:IsL K m H xs us)(post:mE K m H Q (.ref S.length) (S++[.lst us]))(hp:H p=none):Q (.ref p) (upd H p (.lst xs)):=
 post (m++[p]) _ _ (.new (dc hp _)) (sr.new hp ⟨xs,bx,i.mono (.new (dc hp _))⟩) (.ref_ (gM sr.len))
theorem dW{x1}(h:QA X es cr)(hl:es.length<=1000:=by exact Nat.le_of_ble_eq_true rfl):QE X (.Tuple es x1 pos) (jw cr):=(Gk h.h).imp fun σ H Q hz=>qC hz fun m ρ S u S' sr lr hc post=>by
 obtain⟨⟨us,S1⟩,h1,h2⟩:=Z0.mp hc;cases h2;refine⟨m,ρ,S,us,_,sr,lr,h1,fun m1 v1 H1 e1 sr1 i1=>⟨uH ?_,fun p hp=>tx sr1 i1 (post.mono e1) hp⟩⟩;rw[i1.length,h.len _ _ _ _ h1];exact hl
theorem je(h:QA X es cr)(hl:es.length<=1000:=by exact Nat.le_of_ble_eq_true rfl):QE X (.List es pos) (kr cr):=(z9 h.h).imp fun σ H Q hz=>qC hz fun m ρ S u S' sr lr hc post=>by
 obtain⟨⟨us,S1⟩,h1,h2⟩:=Z0.mp hc;cases h2;refine⟨m,ρ,S,us,_,sr,lr,h1,fun m1 v1 H1 e1 sr1 i1=>⟨uH ?_,fun p hp=>gK sr1 i1 (post.mono e1) hp⟩⟩;rw[i1.length,h.len _ _ _ _ h1];exact hl
def cCB(f:List U->Sto->Option (U×Sto))(cr:CA):CE:=fun ρ S=>(cr ρ S).bind fun p=>f p.1 p.2
def oM(K:Z6)(r:List V->Hp->VK->Prop)(f:List U->Sto->Option (U×Sto)):Prop:=
 ∀m S H us vs u S' Q,Sr K m S H->IsL K m H vs us->f us S=some (u,S')->mE K m H Q u S'->r vs H Q
theorem FJ{K:Z6}{r:List V->Hp->VK->Prop}{f:List U->Sto->Option (U×Sto)}(hp:oM K r f):∀σ H Q,tE K (cCB f cr) σ H Q->tCB r (tA K cr) σ H Q:=by
 rintro σ H Q ⟨m,ρ,S,u,S',sr,lr,hc,post⟩;obtain⟨⟨us,S1⟩,h1,h2⟩:=Z0.mp hc;exact⟨m,ρ,S,us,S1,sr,lr,h1,fun m1 v1 H1 e1 sr1 i1=>hp m1 S1 H1 us v1 u S' Q sr1 i1 h2 (post.mono e1)⟩
theorem bp{id:String}{x:Str}{p:Pos}{r:List V->Hp->VK->Prop}{f:List U->Sto->Option (U×Sto)}(hc:gU X (.builtin id) r)(hp:oM X.K r f)(hg:Gl X x)(hm:X.mg x=none)(hv:Zc x=some (.builtin id))(ha:QA X (e::es) cr)(hn:x≠"__name__":=by decide)(hdb:(x == ("__debug__":Str))=false:=by decide)(he:ZX (e::es) X.env=(false,eval e X.env)::ZX es X.env:=by rfl)(hpl:(Zf pos (ZX es X.env)).any (·.1)=false:=by rfl) :
  QE X (.Call (.Name x p) (e::es) [] pos) (cCB f cr):=(lX hc hg hm hv ha.h hn hdb he hpl).imp (FJ hp)
theorem cG{id:String}{x:Str}{p:Pos}{r:List V->Hp->VK->Prop}{f:List U->Sto->Option (U×Sto)}(hc:gU X (.type id) r)(hp:oM X.K r f)(hg:Gl X x)(hm:X.mg x=none)(hv:Zc x=some (.type id))(ha:QA X (e::es) cr)(hn:x≠"__name__":=by decide)(hdb:(x == ("__debug__":Str))=false:=by decide)(he:ZX (e::es) X.env=(false,eval e X.env)::ZX es X.env:=by rfl)(hpl:(Zf pos (ZX es X.env)).any (·.1)=false:=by rfl) :
  QE X (.Call (.Name x p) (e::es) [] pos) (cCB f cr):=(rJ hc hg hm hv ha.h hn hdb he hpl).imp (FJ hp)
end
def Aw(K:Z6)(f:List U->Sto->Option (U×Sto)):Sp:=fun vs H Q _=>∃m us S u S',IsL K m H vs us/\Sr K m S H/\f us S=some (u,S')/\mE K m H Q u S'
abbrev Fn:=List U->Sto->Option (U×Sto)
abbrev b8(P:ZS)(w:Zg)(K:Z6)(mg:Str->Option Z7)(base:Heap)(x:Str)(k:Nat)(ps:List Str)(f:Fn):Prop:=Has P w K mg base x k ps (Aw K f)
def rL(n:Nat)(us:List U):Rho:=us.map some++ZU (n-us.length) none
def fnU(n k:Nat)(c:CS):Fn:=fun us S=>if us.length=k then(c (rL n us) S).bind fun r=>match r.1 with
 |.rt u=>some (u,r.2.2)
 |.nx=>some (.non,r.2.2)
 |_=>none else none
section
variable{P:ZS}{w:Zg}{K:Z6}{mg:Str->Option Z7}{base:Heap}{x:Str}{st:Zw}{ps N:List Str}{k:Nat}{c:CS}{f:Fn}
theorem yc{m:List Addr}{H:Hp}{vs:List V}{us:List U}(i:IsL K m H vs us):Lr K m H (rL N.length us) (L2.kO N vs):=by
 have hl:=i.length;refine⟨by simp[rL,L2.kO,hl],fun j u e=>?_⟩;unfold rL at e;unfold L2.kO;by_cases c:j<us.length
 ·rw[Zq (by simpa using c),Zk]at e;rw[Zq (by simpa [hl] using c),Zk];rw[ZR c]at e;simp at e;obtain⟨v,e1,e2⟩:=i.getD (ZR c);rw[e1];subst e;exact⟨v,rfl,e2⟩
 ·rw[Zb (by simpa using c),X4]at e;split at e<;>cases e
theorem Bq{X:Cx}{body:List Zw}{Q:VK}{E:XK}{vs:List V}{H:Hp}(hK:X.K=K)(h:Aw K (fnU N.length ps.length c) vs H Q E):tS X.K c { nx:=fun _ H'=>Q .non H',rt:=Q } (L2.kO N vs) H:=by
 subst hK;obtain⟨m,us,S,u,S',i,sr,hf,post⟩:=h;unfold fnU at hf;split at hf
 ·obtain⟨⟨o,ρ',S2⟩,h1,h2⟩:=Z0.mp hf;refine⟨m,_,S,o,ρ',S2,sr,yc i,h1,?_⟩;cases o with
  |rt v=>cases h2;exact post
  |nx=>cases h2;exact fun m1 σ1 H1 e1 sr1 _=>post m1 _ H1 e1 sr1 .non_
  |bk=>simp at h2
  |ct=>simp at h2
 ·cases hf
theorem xO{vs:List V}{H:Hp}{Q:VK}{E:XK}{n k:Nat}(h:Aw K (fnU n k c) vs H Q E):vs.length=k:=by
 obtain⟨m,us,S,u,S',i,sr,hf,post⟩:=h;unfold fnU at hf;split at hf
 ·rename_i e;rw[i.length,e]
 ·cases hf
theorem _root_.OG.Def.pure(d:Def K mg x st ps)(S:aG N ps (ay st))
  (hb:∀(f:Addr) (cdv:Z7) (A:Za) (outer:List Env) (s:ZZ) (H:Hp) (E:XK),gS k (A.deeper (envOfC x (ay st) s.heap.objs.size f cdv))->
   WSs (w9 CX0 P w K mg base N x (ay st) f cdv A outer s H E).nox (dX st) (tS K c)):b8 P w K mg base x (k+1) ps (fnU N.length ps.length c):=
 d.has S (fun vs H Q E h=>xO h) fun f cdv A outer s H vs Q E hr h=>⟨_,hb f cdv A outer s H E hr,Bq (X:=(w9 CX0 P w K mg base N x (ay st) f cdv A outer s H E).nox) (body:=[]) (ps:=ps) rfl h⟩
theorem _root_.OG.Def.no(d:Def K mg x st ps):b8 P w K mg base x k ps (fun _ _=>none):=d.none fun vs H Q E h=>by
 obtain⟨m,us,S,u,S',i,sr,hf,post⟩:=h;cases hf
theorem aI{X:Cx}{e:ZC}{es:List ZC}{cr:CA}{p pos:Pos}(F:Has X.prog X.w X.K X.mg X.base x k ps (Aw X.K f))(hr:gS k X.A)(hg:Gl X x)(ha:QA X (e::es) cr)
  (hdb:(x == ("__debug__":Str))=false:=by decide) (he:ZX (e::es) X.env=(false,eval e X.env)::ZX es X.env:=by rfl) (hpl:(Zf pos (ZX es X.env)).any (·.1)=false:=by rfl) :
  QE X (.Call (.Name x p) (e::es) [] pos) (cCB f cr):=(Ab F hr hg ha.h hdb he hpl).imp fun σ H Q hz=>qC hz fun m ρ S u S' sr lr hc post=>by
 obtain⟨⟨us,S1⟩,h1,h2⟩:=Z0.mp hc;exact⟨m,ρ,S,us,S1,sr,lr,h1,fun m1 v1 H1 e1 sr1 i1=>⟨m1,us,S1,u,S',by simpa using i1,sr1,h2,post.mono e1⟩⟩
end
section
variable{X:Cx}{e a c:ZC}{ca cb:CE}{pos:Pos}{st:Zw}{sts:List Zw}{c1 c2:CS}
def bB:CS:=fun ρ S=>some (.nx,ρ,S)
def aV(c1 c2:CS):CS:=fun ρ S=>(c1 ρ S).bind fun r=>match r.1 with
 |.nx=>c2 r.2.1 r.2.2
 |o=>some (o,r.2.1,r.2.2)
theorem a8:QSs X [] bB:=CJ.imp fun D σ H hz=>wY hz fun m ρ S o ρ' S' sr lr hc post=>by cases hc;exact post m σ H .refl sr lr
theorem aq(h1:QS X st c1)(h2:QSs X sts c2):QSs X (st::sts) (aV c1 c2):=(lW h1 h2).imp fun D σ H hz=>wY hz fun m ρ S o ρ' S' sr lr hc post=>by
 obtain⟨⟨o1,ρ1,S1⟩,h1,h2⟩:=Z0.mp hc;refine⟨m,ρ,S,o1,ρ1,S1,sr,lr,h1,?_⟩;cases o1 with
 |nx=>exact fun m1 σ1 H1 e1 sr1 lr1=>⟨m1,ρ1,S1,o,ρ',S',sr1,lr1,h2,post.mono e1⟩
 |rt u=>cases h2;exact post
 |bk=>cases h2;exact post
 |ct=>cases h2;exact post
def aB(h1:QS X st c1):QSs X [st] c1:=xA h1
def mD:CS:=fun _ _=>none
def jo:QS X st mD:=z4.imp fun D σ H hz=>wY hz fun m ρ S o ρ' S' sr lr hc post=>by cases hc
def cP(ca:CE):CS:=fun ρ S=>(ca ρ S).bind fun p=>some (.nx,ρ,p.2)
theorem bo(he:QE X e ca)(hs:X7 e none pos.line X.env=pure false:=by rfl):QS X (.Expr e pos) (cP ca):=(xB he hs).imp fun D σ H hz=>wY hz fun m ρ S o ρ' S' sr lr hc post=>by
 obtain⟨⟨u,S1⟩,h1,h2⟩:=Z0.mp hc;cases h2;exact⟨m,ρ,S,u,_,sr,lr,h1,fun m1 v1 H1 e1 sr1 i1=>post m1 σ H1 e1 sr1 (lr.mono e1)⟩
def cT(ca:CE):CS:=fun ρ S=>(ca ρ S).bind fun p=>some (.rt p.1,ρ,p.2)
theorem aJ(he:QE X e ca):QS X (.Return (some e) pos) (cT ca):=(vN he).imp fun D σ H hz=>wY hz fun m ρ S o ρ' S' sr lr hc post=>by
 obtain⟨⟨u,S1⟩,h1,h2⟩:=Z0.mp hc;cases h2;exact⟨m,ρ,S,u,_,sr,lr,h1,post⟩
def dC(t:CT)(c1 c2:CS):CS:=fun ρ S=>(t ρ S).bind fun p=>if p.1=true then c1 ρ p.2 else c2 ρ p.2
theorem bD{t:CT}{s1 s2:List Zw}(hc:QT X c t)(h1:QSs X s1 c1)(h2:QSs X s2 c2):QS X (.If c s1 s2 pos) (dC t c1 c2):=(EZ hc h1 h2).imp fun D σ H hz=>wY hz fun m ρ S o ρ' S' sr lr hc post=>by
 obtain⟨⟨x,S1⟩,h1,h2⟩:=Z0.mp hc;refine⟨m,ρ,S,x,S1,sr,lr,h1,fun m1 H1 e1 sr1=>?_⟩;cases x with
 |true=>exact Fv ⟨m1,ρ,S1,o,ρ',S',sr1,lr.mono e1,h2,post.mono e1⟩
 |false=>exact Fx ⟨m1,ρ,S1,o,ρ',S',sr1,lr.mono e1,h2,post.mono e1⟩
abbrev CG:=U->Rho->Sto->Option (Rho×Sto)
def tG(K:Z6)(g:CG):TG:=fun v σ H Q=>∃m ρ S u ρ' S',Sr K m S H/\Lr K m H ρ σ/\Is K m H v u/\g u ρ S=some (ρ',S')/\kC K m H Q ρ' S'
abbrev QG(X:Cx)(e:ZC)(g:CG):Prop:=WG X e (tG X.K g)
def gNm(i:Nat):CG:=fun u ρ S=>some (ρ.set i (some u),S)
theorem dU{i:Nat}(h:WG X e (zB i)):QG X e (gNm i):=h.imp fun v σ H Q hz=>Rp hz fun m ρ S u ρ' S' sr lr iu hc post=>by
 cases hc;exact post m _ H .refl sr (lr.set i iu)
def jB:List Nat->List U->Rho->Option Rho
 |[],[],ρ=>some ρ
 |i::is,u::us,ρ=>jB is us (ρ.set i (some u))
 |_,_,_=>none
def tGs(K:Z6)(is:List Nat):TGs:=fun vs σ H Q=>∃m ρ S us ρ',Sr K m S H/\Lr K m H ρ σ/\IsL K m H vs us/\jB is us ρ=some ρ'/\kC K m H Q ρ' S
abbrev QGs(X:Cx)(es:List ZC)(is:List Nat):Prop:=WGs X es (tGs X.K is)
theorem tj:QGs X [] []:=CO.imp fun v σ H Q ⟨m,ρ,S,us,ρ',sr,lr,iu,hc,post⟩=>by
 cases us with
 |nil=>cases hc;exact⟨iu.of_nil,post m σ H .refl sr lr⟩
 |cons a r=>simp[jB]at hc
theorem iH{i:Nat}{is:List Nat}{es:List ZC}(h:WG X e (zB i))(h2:QGs X es is)(hs:(assignEach (e::es) X.env).map (·.2)=assign e X.env::(assignEach es X.env).map (·.2):=by rfl):QGs X (e::es) (i::is):=(z6 h h2 hs).imp fun v σ H Q ⟨m,ρ,S,us,ρ',sr,lr,iu,hc,post⟩=>by
 cases us with
 |nil=>simp[jB]at hc
 |cons u r=>
  obtain⟨x,xr,rfl,i1,i2⟩:=iu.of_cons;exact⟨x,xr,rfl,m,ρ.set i (some u),S,r,ρ',sr,lr.set i i1,i2,hc,post⟩
def gTp(is:List Nat):CG:=fun u ρ S=>match u with
 |.tup us=>(jB is us ρ).bind fun ρ'=>some (ρ',S)
 |_=>none
theorem rV:∀{is:List Nat} {us:List U} {ρ ρ':Rho},jB is us ρ=some ρ'->us.length=is.length
 |[],[],_,_,_=>rfl
 |[],_::_,_,_,h=>by simp[jB]at h
 |_::_,[],_,_,h=>by simp[jB]at h
 |i::is,u::us,ρ,ρ',h=>by
  have:=rV (is:=is) (us:=us) h;simp[this]
theorem xV{is:List Nat}{es:List ZC}{k:Nat}(hc:X.calm=true)(h:QGs X es is)(hn:(assignEach es X.env).length=is.length:=by rfl)(hst:(assignEach es X.env).findIdx? (·.1)=none:=by rfl):QG X (.Tuple es k pos) (gTp is):=(Gi hc h hn hst).imp fun v σ H Q hz=>Rp hz fun m ρ S u ρ' S' sr lr iu hc post=>by
 cases u with
 |tup us=>
  obtain⟨ρ2,h1,h2⟩:=Z0.mp hc;cases h2;obtain⟨a,xs,rfl,sq,il⟩:=iu.of_tup;refine⟨a,xs,rfl,sq,?_,m,ρ,S,us,ρ',sr,lr,il,h1,post⟩;rw[il.length];exact rV h1
 |_=>simp[gTp]at hc
def NI(ca:CE)(g:CG):CS:=fun ρ S=>(ca ρ S).bind fun p=>(g p.1 ρ p.2).bind fun q=>some (.nx,q.1,q.2)
theorem IV{K:Z6}{g:CG}:∀D σ H,tS K (NI ca g) D σ H->Kx (tE K ca) (tG K g) D σ H:=by
 rintro D σ H ⟨m,ρ,S,o,ρ',S',sr,lr,hc,post⟩;obtain⟨⟨u,S1⟩,h1,h2⟩:=Z0.mp hc;obtain⟨⟨ρ2,S2⟩,h3,h4⟩:=Z0.mp h2;cases h4;exact⟨m,ρ,S,u,S1,sr,lr,h1,fun m1 v1 H1 e1 sr1 i1=>⟨m1,ρ,S1,u,_,_,sr1,lr.mono e1,i1,h3,kC.mono e1 post⟩⟩
theorem K3{tg:ZC}{g:CG}(he:QE X e ca)(hg:QG X tg g)(hs:swapsWithSole [tg] e pos.line X.env=pure false:=by rfl)(hw:swappedStores [tg] e X.env=pure none:=by rfl)
  (h1:(assignEach [tg] X.env).map (·.2)=[assign tg X.env]:=by rfl):QS X (.Assign [tg] e pos) (NI ca g):=(z5 he hg hs hw h1).imp IV
def b5(i:Nat)(ca:CE):CS:=fun ρ S=>(ca ρ S).bind fun p=>some (.nx,ρ.set i (some p.1),p.2)
theorem aN{i:Nat}{x:Str}{pos':Pos}(hN:X.N.Nodup)(hi:X.N[i]?=some x)(hx:Loc X.env.scope x)(he:QE X e ca)(hs:X7 e (some (.Name x pos')) pos.line X.env=pure false:=by rfl)(hf:X.fn x=true\/X.env.scope.names.lookup x=some .local:=by first|exact .inl rfl|exact .inr rfl|assumption) :
  QS X (.Assign [.Name x pos'] e pos) (b5 i ca):=(vM hN hi hx he hs hf).imp fun D σ H hz=>wY hz fun m ρ S o ρ' S' sr lr hc post=>by
 obtain⟨⟨u,S1⟩,h1,h2⟩:=Z0.mp hc;cases h2;exact⟨m,ρ,S,u,_,sr,lr,h1,fun m1 v1 H1 e1 sr1 i1=>post m1 _ H1 e1 sr1 ((lr.mono e1).set i i1)⟩
abbrev CI:=Rho->Sto->Option (List U×(Sto->Prop)×Sto)
def FO(K:Z6)(J:It)(m:List Addr)(H:Hp)(us:List U)(ok:Sto->Prop):Prop:=∀m2 S2 H2 i,Ext K m H m2 H2->Sr K m2 S2 H2->ok S2->
 (∀u,us[i]?=some u->J.go i H2/\∀x H3,J.yld i H2 x H3->Ext K m2 H2 m2 H3/\Sr K m2 S2 H3/\Is K m2 H3 x u)/\(us.length<=i->J.stop i H2)
def tI(K:Z6)(ci:CI):TI:=fun σ H R=>∃m ρ S us ok S',Sr K m S H/\Lr K m H ρ σ/\ci ρ S=some (us,ok,S')/\∀m' H' J,Ext K m H m' H'->Sr K m' S' H'->FO K J m' H' us ok->R J H'
abbrev QI(X:Cx)(tg iter:ZC)(ci:CI):Prop:=WI X tg iter (tI X.K ci)
open Classical in
def fv(ok:Sto->Prop)(g:CG)(cb:CS):List U->CS
 |[]=>fun ρ S=>if ok S then some (.nx,ρ,S)else none
 |u::us=>fun ρ S=>if ok S then(g u ρ S).bind fun p=>(cb p.1 p.2).bind fun r=>match r.1 with
  |.nx=>fv ok g cb us r.2.1 r.2.2
  |.ct=>fv ok g cb us r.2.1 r.2.2
  |.bk=>some (.nx,r.2.1,r.2.2)
  |.rt v=>some (.rt v,r.2.1,r.2.2)else none
def oX(ci:CI)(g:CG)(cb:CS):CS:=fun ρ S=>(ci ρ S).bind fun p=>fv p.2.1 g cb p.1 ρ p.2.2
theorem mC{α:Type}{us:List α}{i:Nat}{u:α}(h:us[i]?=some u):us.drop i=u::us.drop (i+1):=by
 obtain⟨hl,e⟩:=Z9.mp h;rw[List.drop_eq_getElem_cons hl,e]
theorem D6{K:Z6}{g:CG}{cb:CS}{J:It}{us:List U}{ok:Sto->Prop}{D:Co}{m1:List Addr}{H1:Hp}{ρ ρ':Rho}{σ:L2.St}{S1 S':Sto}{o:Out}(sr1:Sr K m1 S1 H1)(lr1:Lr K m1 H1 ρ σ)(ito:FO K J m1 H1 us ok)(h2:fv ok g cb us ρ S1=some (o,ρ',S'))(post:zN K m1 H1 D o ρ' S') :
  ∃W:Nat->Nat->L2.St->Hp->Prop,(∃n,W 0 n σ H1)/\∀i n σ H,W i n σ H->
   (J.stop i H/\D.nx σ H)\/(J.go i H/\∃N:L2.St->Hp->Prop,(∀σ' H',N σ' H'->∃n',n'<n/\W (i+1) n' σ' H')/\∀x H',J.yld i H x H'->tG K g x σ H' fun σ2 H2=>tS K cb { D with nx:=N,ct:=N,bk:=D.nx } σ2 H2):=by
 let W:Nat->Nat->L2.St->Hp->Prop:=fun i n σ2 H2=>n=us.length-i/\i<=us.length/\∃m2 ρ2 S2,Ext K m1 H1 m2 H2/\Sr K m2 S2 H2/\Lr K m2 H2 ρ2 σ2/\fv ok g cb (us.drop i) ρ2 S2=some (o,ρ',S')
 refine⟨W,⟨us.length,by simp,X1 _,m1,ρ,S1,.refl,sr1,lr1,by simpa using h2⟩,?_⟩;rintro i n σ2 H2 ⟨rfl,hi,m2,ρ2,S2,e2,sr2,lr2,hl⟩;by_cases hlt:i<us.length
 ·have hu:=ZR hlt;rw[mC hu]at hl;unfold fv at hl;split at hl
  ·rename_i hok;obtain⟨⟨ρ3,S3⟩,h3,hl⟩:=Z0.mp hl;obtain⟨⟨o4,ρ4,S4⟩,h4,hl⟩:=Z0.mp hl;obtain⟨hgo,hy⟩:=(ito m2 S2 H2 i e2 sr2 hok).1 _ hu;refine .inr ⟨hgo,W (i+1) (us.length-(i+1)),fun σ' H' w'=>⟨_,by omega,w'⟩,fun x H3 y=>?_⟩;obtain⟨e3,sr3,ix⟩:=hy x H3 y;refine⟨m2,ρ2,S2,_,ρ3,S3,sr3,lr2.mono e3,ix,h3,fun m4 σ4 H4 e4 sr4 lr4=>⟨m4,ρ3,S3,o4,ρ4,S4,sr4,lr4,h4,?_⟩⟩;have e14:=(e2.trans e3).trans e4;have nxt:fv ok g cb (us.drop (i+1)) ρ4 S4=some (o,ρ',S')->kC K m4 H4 (W (i+1) (us.length-(i+1))) ρ4 S4:=fun hn m5 σ5 H5 e5 sr5 lr5=>⟨rfl,hlt,m5,ρ4,S4,e14.trans e5,sr5,lr5,hn⟩;cases o4 with
   |nx=>exact nxt hl
   |ct=>exact nxt hl
   |bk=>cases hl;exact kC.mono e14 post
   |rt v=>cases hl;exact mE.mono e14 post
  ·cases hl
 ·have e:i=us.length:=by omega
  subst e;rw[List.drop_length]at hl;unfold fv at hl;split at hl
  ·rename_i hok;cases hl;exact .inl ⟨(ito m2 _ H2 _ e2 sr2 hok).2 (ZD _),post m2 σ2 H2 e2 sr2 lr2⟩
  ·cases hl
theorem IE{K:Z6}{ci:CI}{g:CG}{cb:CS}:∀D σ H,tS K (oX ci g cb) D σ H->O8 (tI K ci) (tG K g) (tS K cb) D σ H:=by
 rintro D σ H ⟨m,ρ,S,o,ρ',S',sr,lr,hc,post⟩;obtain⟨⟨us,ok,S1⟩,h1,h2⟩:=Z0.mp hc;exact⟨m,ρ,S,us,ok,S1,sr,lr,h1,fun m1 H1 J e1 sr1 ito=>D6 sr1 (lr.mono e1) ito h2 (zN.mono e1 post)⟩
theorem mq{tg iter:ZC}{body:List Zw}{ci:CI}{g:CG}{cb:CS}(hp:PassesOwn (Zv X.prog X.w) X.A X.env X.xe)(hc:X.calm=true)(hi:QI X tg iter ci)(hg:QG X tg g)(hb:QSs X body cb)(hs:∀x,foldedSetIterable iter X.env x=pure x:=by intro _;rfl):QS X (.For tg iter body [] pos) (oX ci g cb):=(Ge hp hc hi hg hb hs).imp IE
def d5(t:CT)(cb:CS):Nat->CS
 |0=>fun _ _=>none
 |n+1=>fun ρ S=>(t ρ S).bind fun p=>if p.1=true then(cb ρ p.2).bind fun r=>match r.1 with
  |.nx=>d5 t cb n r.2.1 r.2.2
  |.ct=>d5 t cb n r.2.1 r.2.2
  |.bk=>some (.nx,r.2.1,r.2.2)
  |.rt v=>some (.rt v,r.2.1,r.2.2)else some (.nx,ρ,p.2)
theorem Af{K:Z6}{t:CT}{cb:CS}{n:Nat}:∀D σ H,tS K (d5 t cb n) D σ H->An (tT K t) (tS K cb) D σ H:=by
 rintro D σ H ⟨m,ρ,S,o,ρ',S',sr,lr,hc,post⟩;let W:Nat->L2.St->Hp->Prop:=fun n σ2 H2=>∃m2 ρ2 S2,Ext K m H m2 H2/\Sr K m2 S2 H2/\Lr K m2 H2 ρ2 σ2/\d5 t cb n ρ2 S2=some (o,ρ',S')
 refine⟨W,⟨n,m,ρ,S,.refl,sr,lr,hc⟩,?_⟩;rintro k σ2 H2 ⟨m2,ρ2,S2,e2,sr2,lr2,hl⟩;cases k with
 |zero=>cases hl
 |succ k=>
  unfold d5 at hl;obtain⟨⟨x,S3⟩,h3,hl⟩:=Z0.mp hl;refine⟨m2,ρ2,S2,x,S3,sr2,lr2,h3,fun m3 H3 e3 sr3=>?_⟩;have e13:=e2.trans e3;cases x with
  |true=>
   rw[if_pos rfl]at hl;refine Fv ?_;obtain⟨⟨o4,ρ4,S4⟩,h4,hl⟩:=Z0.mp hl;refine⟨W k,fun σ' H' w'=>⟨k,Nat.lt_succ_self _,w'⟩,m3,ρ2,S3,o4,ρ4,S4,sr3,lr2.mono e3,h4,?_⟩;have nxt:d5 t cb k ρ4 S4=some (o,ρ',S')->kC K m3 H3 (W k) ρ4 S4:=fun hn m5 σ5 H5 e5 sr5 lr5=>⟨m5,ρ4,S4,e13.trans e5,sr5,lr5,hn⟩;cases o4 with
   |nx=>exact nxt hl
   |ct=>exact nxt hl
   |bk=>cases hl;exact kC.mono e13 post
   |rt v=>cases hl;exact mE.mono e13 post
  |false=>
   rw[if_neg ZL]at hl;refine Fx ?_;cases hl;exact post m3 σ2 H3 e13 sr3 (lr2.mono e3)
theorem tf{body:List Zw}{t:CT}{cb:CS}(n:Nat)(hp:PassesOwn (Zv X.prog X.w) X.A X.env X.xe)(hc:QT X c t)(hb:QSs X body cb):QS X (.While c body [] pos) (d5 t cb n):=(z3 hp hc hb).imp Af
def iTp(ca:CE):CI:=fun ρ S=>(ca ρ S).bind fun p=>match p.1 with
 |.tup us=>some (us,fun _=>True,p.2)
 |.ref l=>match p.2[l]? with
  |some (.lst us)=>some (us,fun S=>S[l]?=some (.lst us),p.2)
  |_=>none
 |_=>none
theorem MA{K:Z6}{m:List Addr}{H:Hp}{us:List U}{a:Addr}{xs:List V}(sq:SqT K H a xs)(il:IsL K m H xs us):FO K (Itt K a) m H us (fun _=>True):=by
 intro m2 S2 H2 i e2 sr2 _;have sq2:=e2.keep.t _ _ sq;have il2:=il.mono e2;refine⟨fun u hu=>?_,fun hi=>⟨xs,sq2,by rw[il2.length];exact hi⟩⟩;obtain⟨x,hx,ix⟩:=il2.getD hu;refine⟨⟨xs,x,sq2,hx⟩,fun y H3 hy=>?_⟩;obtain⟨rfl,hy⟩:=hy;have:=hy xs sq2;rw[hx]at this;cases this;exact⟨.refl,sr2,ix⟩
theorem MC{K:Z6}{m:List Addr}{H:Hp}{us:List U}{a:Addr}{l:Nat}(hl:m[l]?=some a):FO K (Itl K a) m H us (fun S=>S[l]?=some (.lst us)):=by
 intro m2 S2 H2 i e2 sr2 hok;obtain⟨a',ha',xs,hx,il⟩:=sr2.get hok;rw[e2.get hl]at ha';cases ha';refine⟨fun u hu=>?_,fun hi=>⟨xs,SqL.of hx,by rw[il.length];exact hi⟩⟩;obtain⟨x,hx',ix⟩:=il.getD hu;refine⟨⟨xs,x,SqL.of hx,hx'⟩,fun y H3 hy=>?_⟩;obtain⟨rfl,hy⟩:=hy;have:=hy xs (SqL.of hx);rw[hx']at this;cases this;exact⟨.refl,sr2,ix⟩
theorem jW{tg:ZC}(h:QE X e ca):QI X tg e (iTp ca):=((Gg h).or (CL h)).imp fun σ H R hz=>wY hz fun m ρ S us ok S' sr lr hc post=>by
 obtain⟨⟨u,S1⟩,h1,h2⟩:=Z0.mp hc;cases u with
 |tup ws=>
  cases h2;refine .inl ⟨m,ρ,S,.tup us,_,sr,lr,h1,fun m1 v1 H1 e1 sr1 i1=>?_⟩;obtain⟨a,xs,rfl,sq,il⟩:=i1.of_tup;exact⟨a,rfl,⟨xs,sq⟩,post m1 H1 _ e1 sr1 (MA sq il)⟩
 |ref l=>
  simp only at h2;split at h2
  ·rename_i us' hS;cases h2;refine .inr ⟨m,ρ,S,.ref l,_,sr,lr,h1,fun m1 v1 H1 e1 sr1 i1=>?_⟩;obtain⟨a,hl,rfl⟩:=i1.of_ref;obtain⟨a',ha',xs,hx,il⟩:=sr1.get hS;rw[hl]at ha';cases ha';exact⟨a,rfl,⟨xs,SqL.of hx⟩,post m1 H1 _ e1 sr1 (MC hl)⟩
  ·cases h2
 |_=>simp at h2
def hU(lo:Int)(n:Nat):List U:=(List.range n).map fun i=>.int (lo+(i:Nat))
theorem D9{K:Z6}{m:List Addr}{H:Hp}{lo:Int}{n:Nat}:FO K (Itr lo n) m H (hU lo n) (fun _=>True):=by
 intro m2 S2 H2 i e2 sr2 _;refine⟨fun u hu=>?_,fun hi=>by show n<=i;simpa [hU] using hi⟩;unfold hU at hu;rw[Zk]at hu;by_cases c:i<n
 ·rw[XG c]at hu;simp at hu;subst hu;refine⟨c,fun y H3 hy=>?_⟩;obtain⟨rfl,rfl⟩:=hy;exact⟨.refl,sr2,.int_⟩
 ·rw[Zm (by simpa using c)]at hu;cases hu
def fM(cr:CA):CI:=fun ρ S=>(cr ρ S).bind fun p=>match p.1 with
 |[.int j]=>if -(2^62)<=j/\j<2^62 then some (hU 0 j.toNat,fun _=>True,p.2)else none
 |_=>none
theorem jX{tg:ZC}{cr:CA}{p:Pos}(hg:Gl X "range")(hm:X.mg "range"=none)(ha:QA X [a] cr)(hs:ZX [a] X.env=[(false,eval a X.env)]:=by rfl):QI X tg (.Call (.Name "range" p) [a] [] pos) (fM cr):=(yS hg hm ha.h hs).imp fun σ H R hz=>wY hz fun m ρ S us ok S' sr lr hc post=>by
 obtain⟨⟨ws,S1⟩,h1,h2⟩:=Z0.mp hc;simp only at h2;split at h2
 ·rename_i j;split at h2
  ·rename_i hj;cases h2;refine⟨m,ρ,S,_,S',sr,lr,h1,fun m1 v1 H1 e1 sr1 i1=>?_⟩;obtain⟨x,r,rfl,ix,ir⟩:=i1.of_cons;rw[ir.of_nil,ix.of_int];exact⟨j,rfl,hj.1,hj.2,post m1 H1 _ e1 sr1 D9⟩
  ·cases h2
 ·cases h2
end
def fI(g:Int->Int->Option U):U->U->Sto->Option (U×Sto)
 |.int i,.int j,S=>(g i j).bind fun u=>some (u,S)
 |_,_,_=>none
section
variable{X:Cx}{K:Z6}
theorem Ny{C:Int->Int->Prop}{gV:Int->Int->V}{g:Int->Int->Option U}(h:∀i j u,g i j=some u->C i j/\∀m H,Is K m H (gV i j) u):OpP K (rI C gV) (fI g):=by
 intro m S H x y v w u S' Q sr ix iy hf post;cases x<;>cases y<;>simp only[fI]at hf<;>try cases hf
 rename_i i j;obtain⟨u1,h1,h2⟩:=Z0.mp hf;cases h2;obtain⟨hc,hi⟩:=h i j u h1;exact⟨i,j,ix.of_int,iy.of_int,hc,post m _ H .refl sr (hi m H)⟩
theorem AX{gV:Int->Int->V}{g:Int->Int->Option U}(h:∀i j u,g i j=some u->∀m H,Is K m H (gV i j) u):OpP K (rI0 gV) (fI g):=by
 intro m S H x y v w u S' Q sr ix iy hf post;cases x<;>cases y<;>simp only[fI]at hf<;>try cases hf
 rename_i i j;obtain⟨u1,h1,h2⟩:=Z0.mp hf;cases h2;exact⟨i,j,ix.of_int,iy.of_int,post m _ H .refl sr (h i j u h1 m H)⟩
def Dq(K:Z6):R2:=fun x y H Q=>∃a b xs ys,x=.ref a/\y=.ref b/\SqT K H a xs/\SqT K H b ys/\xs.length+ys.length<=ZP/\∀q H',xn H H'->SqT K H' q (xs++ys)->Q (.ref q) H'
theorem HM:OpR X (binaryOp .Add) (Dq X.K):=by
 intro pins s σ H x y v u Q I rx ry h;obtain⟨a,b,xs,ys,rfl,rfl,ha,hb,hz,q⟩:=h;by_cases e:xs=[]
 ·cases rx;cases ry;obtain⟨its,r1,p1,_⟩:=I.tuple ha;obtain⟨its2,r2,p2,_⟩:=I.tuple hb;refine EE p1 p2 (r1.nil_iff.mpr e) ⟨.ref b,H,I,rfl,q b H (.refl _) (by rw[e];exact hb)⟩
 ·refine HL pins s σ H _ _ v u Q I rx ry ⟨a,b,xs,ys,rfl,rfl,ha,hb,e,hz,fun z=>q a H (.refl _) (by rw[z,Zu];exact ha),fun _ p hp=>q p _ (eQ hp _) (SqT.of bx)⟩
def Br:U->U->Sto->Option (U×Sto)
 |.tup a,.tup b,S=>if a.length+b.length<=LIM then some (.tup (a++b),S)else none
 |_,_,_=>none
theorem DQ:OpP K (Dq K) Br:=by
 intro m S H x y v w u S' Q sr ix iy hf post;cases x<;>cases y<;>simp only[Br]at hf<;>try cases hf
 split at hf<;>try cases hf
 rename_i hl;obtain⟨a,xs,rfl,sa,la⟩:=ix.of_tup;obtain⟨b,ys,rfl,sb,lb⟩:=iy.of_tup;refine⟨a,b,xs,ys,rfl,rfl,sa,sb,lim (by rw[la.length,lb.length];exact hl),fun q H' s sq=>?_⟩;exact post m _ H' (.of (fb s)) (sr.same s) (.tup_ sq ((la.append lb).mono (.of (fb s))))
def tR:U->U->Sto->Option (U×Sto)
 |.ref l,.ref k,S=>match S[l]?,S[k]? with
  |some (.lst a),some (.lst b)=>if a.length+b.length<=LIM then some (.ref S.length,S++[.lst (a++b)])else none
  |_,_=>none
 |_,_,_=>none
theorem DT:OpP K Nx tR:=by
 intro m S H x y v w u S' Q sr ix iy hf post;cases x<;>cases y<;>simp only[tR]at hf<;>try cases hf
 rename_i l k;split at hf<;>try cases hf
 rename_i a b h1 h2;split at hf<;>try cases hf
 rename_i hl;obtain⟨p,hp,rfl⟩:=ix.of_ref;obtain⟨q,hq,rfl⟩:=iy.of_ref;obtain⟨p',hp',xs,hx,il⟩:=sr.get h1;obtain⟨q',hq',ys,hy,il'⟩:=sr.get h2;rw[hp]at hp';cases hp';rw[hq]at hq';cases hq';exact⟨p,q,xs,ys,rfl,rfl,hx,hy,lim (by rw[il.length,il'.length];exact hl),fun r hr=>gK sr (il.append il') post hr⟩
def Bs:U->U->Sto->Option (U×Sto)
 |.str a,.str b,S=>if a.length+b.length<=LIM then some (.str (a++b),S)else none
 |_,_,_=>none
theorem DR:OpP K (fun x y H Q=>∃i j,x=.str i/\y=.str j/\i.length+j.length<=ZP/\Q (.str (i++j)) H) Bs:=by
 intro m S H x y v w u S' Q sr ix iy hf post;cases x<;>cases y<;>simp only[Bs]at hf<;>try cases hf
 split at hf<;>try cases hf
 rename_i hl;exact⟨_,_,ix.of_str,iy.of_str,lim hl,post m _ H .refl sr .str_⟩
def cX:U->U->Sto->Option (U×Sto)
 |.int i,.int j,S=>some (.int (i+j),S)
 |.tup a,.tup b,S=>if a.length+b.length<=LIM then some (.tup (a++b),S)else none
 |.str a,.str b,S=>if a.length+b.length<=LIM then some (.str (a++b),S)else none
 |.ref l,.ref k,S=>tR (.ref l) (.ref k) S
 |_,_,_=>none
theorem bZ:OpR X (binaryOp .Add) (fun x y H Q=>rI0 (fun i j=>.int (i+j)) x y H Q\/(Nx x y H Q\/(Dq X.K x y H Q\/∃i j,x=.str i/\y=.str j/\i.length+j.length<=ZP/\Q (.str (i++j)) H))):=LZ.or (LY.or (HM.or zd))
theorem bY:OpP K (fun x y H Q=>rI0 (fun i j=>.int (i+j)) x y H Q\/(Nx x y H Q\/(Dq K x y H Q\/∃i j,x=.str i/\y=.str j/\i.length+j.length<=ZP/\Q (.str (i++j)) H))) cX:=by
 intro m S H x y v w u S' Q sr ix iy hf post;cases x<;>cases y<;>simp only[cX]at hf<;>try cases hf
 ·exact .inl ⟨_,_,ix.of_int,iy.of_int,post m _ H .refl sr .int_⟩
 ·exact .inr (.inr (.inr (DR m S H _ _ v w u S' Q sr ix iy hf post)))
 ·exact .inr (.inr (.inl (DQ m S H _ _ v w u S' Q sr ix iy hf post)))
 ·exact .inr (.inl (DT m S H _ _ v w u S' Q sr ix iy hf post))
def oG:=fI fun i j=>some (.int (i-j))
def mr:OpP K (rI0 fun i j=>.int (i-j)) oG:=AX fun i j u h m H=>by cases h;exact .int_
instance {i j:Int}:Decidable (Cp i j):=by unfold Cp;exact inferInstance
def qz:=fI fun i j=>if Cp i j then some (.int (i*j))else none
theorem uQ:OpP K (rI Cp fun i j=>.int (i*j)) qz:=Ny fun i j u h=>by
 split at h
 ·rename_i c;cases h;exact⟨c,fun m H=>.int_⟩
 ·cases h
instance {i j:Int}:Decidable (zT i j):=by unfold zT;exact inferInstance
def Em:=fI fun i j=>if zT i j then some (.int (i / j))else none
theorem HI:OpP K (rI zT fun i j=>.int (i / j)) Em:=Ny fun i j u h=>by
 split at h
 ·rename_i c;cases h;exact⟨c,fun m H=>.int_⟩
 ·cases h
def uq:=fI fun i j=>if 0<j then some (.int (i % j))else none
theorem uR:OpP K (rI (fun _ j=>0<j) fun i j=>.int (i % j)) uq:=Ny fun i j u h=>by
 split at h
 ·rename_i c;cases h;exact⟨c,fun m H=>.int_⟩
 ·cases h
instance {i j:Int}:Decidable (Jl i j):=by unfold Jl;exact inferInstance
def Je:=fI fun i j=>if Jl i j then some (.int (i^j.toNat))else none
theorem LG:OpP K (rI Jl fun i j=>.int (i^j.toNat)) Je:=Ny fun i j u h=>by
 split at h
 ·rename_i c;cases h;exact⟨c,fun m H=>.int_⟩
 ·cases h
def fLt:=fI fun i j=>some (.bl (decide (i<j)))
def fLe:=fI fun i j=>some (.bl (decide (i<=j)))
def fGt:=fI fun i j=>some (.bl (decide (j<i)))
def fGe:=fI fun i j=>some (.bl (decide (j<=i)))
def uo:OpP K (rI0 fun i j=>.bl (decide (i<j))) fLt:=AX fun i j u h m H=>by cases h;exact .bl_
def LK:OpP K (rI0 fun i j=>.bl (decide (i<=j))) fLe:=AX fun i j u h m H=>by cases h;exact .bl_
def Cr:OpP K (rI0 fun i j=>.bl (decide (j<i))) fGt:=AX fun i j u h m H=>by cases h;exact .bl_
def PN:OpP K (rI0 fun i j=>.bl (decide (j<=i))) fGe:=AX fun i j u h m H=>by cases h;exact .bl_
def eqS:U->U->Option Bool
 |.int i,.int j=>some (decide (i=j))
 |.bl i,.bl j=>some (decide (i=j))
 |.str i,.str j=>some (decide (i=j))
 |.non,.non=>some true
 |.non,.int _=>some false|.int _,.non=>some false
 |.non,.bl _=>some false|.bl _,.non=>some false
 |.non,.str _=>some false|.str _,.non=>some false
 |.int _,.str _=>some false|.str _,.int _=>some false
 |.bl _,.str _=>some false|.str _,.bl _=>some false
 |_,_=>none
def fEq:U->U->Sto->Option (U×Sto):=fun x y S=>(eqS x y).bind fun b=>some (.bl b,S)
def fNe:U->U->Sto->Option (U×Sto):=fun x y S=>(eqS x y).bind fun b=>some (.bl (!b),S)
theorem FD{m:List Addr}{H:Hp}{x y:U}{v w:V}{b:Bool}(ix:Is K m H v x)(iy:Is K m H w y)(h:eqS x y=some b):O9 v w=true/\decide (v=w)=b:=by
 cases x<;>cases y<;>simp only[eqS]at h<;>(first|cases h|skip);all_goals
  (first|(have e1:=ix.of_int)|(have e1:=ix.of_bl)|(have e1:=ix.of_str)|(have e1:=ix.of_non))
  (first|(have e2:=iy.of_int)|(have e2:=iy.of_bl)|(have e2:=iy.of_str)|(have e2:=iy.of_non))
  subst e1 e2;exact⟨rfl,by simp⟩
theorem iJ:OpP K rEq fEq:=by
 intro m S H x y v w u S' Q sr ix iy hf post;obtain⟨b,h1,h2⟩:=Z0.mp hf;cases h2;obtain⟨e1,e2⟩:=FD ix iy h1;exact⟨e1,by rw[e2];exact post m _ H .refl sr .bl_⟩
theorem LH:OpP K rNe fNe:=by
 intro m S H x y v w u S' Q sr ix iy hf post;obtain⟨b,h1,h2⟩:=Z0.mp hf;cases h2;obtain⟨e1,e2⟩:=FD ix iy h1;exact⟨e1,by rw[e2];exact post m _ H .refl sr .bl_⟩
def tK:U->Bool
 |.non=>true
 |_=>false
def MO:U->U->Sto->Option (U×Sto)
 |x,.non,S=>some (.bl (tK x),S)
 |_,_,_=>none
def ik:U->U->Sto->Option (U×Sto)
 |x,.non,S=>some (.bl (!tK x),S)
 |_,_,_=>none
theorem yk{m:List Addr}{H:Hp}{x:U}{v:V}(ix:Is K m H v x):decide (v=.non)=tK x:=by
 cases x with
 |non=>rw[ix.of_non];rfl
 |bl b=>rw[ix.of_bl];rfl
 |int i=>rw[ix.of_int];rfl
 |str i=>rw[ix.of_str];rfl
 |tup us=>obtain⟨a,xs,rfl,_⟩:=ix.of_tup;rfl
 |ref l=>obtain⟨a,_,rfl⟩:=ix.of_ref;rfl
 |kl ns=>obtain⟨a,rfl,_⟩:=ix.of_kl;rfl
theorem LM:OpP K (fun x y H Q=>y=.non/\Q (.bl (decide (x=.non))) H) MO:=by
 intro m S H x y v w u S' Q sr ix iy hf post;cases y<;>simp only[MO]at hf<;>cases hf;exact⟨iy.of_non,by rw[yk ix];exact post m _ H .refl sr .bl_⟩
theorem mv:OpP K (fun x y H Q=>y=.non/\Q (.bl (!decide (x=.non))) H) ik:=by
 intro m S H x y v w u S' Q sr ix iy hf post;cases y<;>simp only[ik]at hf<;>cases hf;exact⟨iy.of_non,by rw[yk ix];exact post m _ H .refl sr .bl_⟩
section
variable{κ:Type}[DecidableEq κ]
def gG{α:Type}(kvs:List (κ×α))(k:κ):Option α:=(kvs.find? fun kv=>decide (kv.1=k)).map (·.2)
def tu{α:Type}(kvs:List (κ×α))(k:κ)(v:α):List (κ×α):=
 if (kvs.any fun kv=>decide (kv.1=k))=true then kvs.map (fun kv=>if kv.1=k then(kv.1,v)else kv)else kvs++[(k,v)]
variable{m:List Addr}{H:Hp}{kvs:List (κ×V)}{kus:List (κ×U)}{k:κ}{v:V}{u:U}
theorem IsP.val(h:IsP K m H kvs kus):Rf K m H (l7 kvs k) (gG kus k):=by
 refine IsP.ind (P:=fun kvs kus=>Rf K m H (l7 kvs k) (gG kus k)) trivial (fun k' v u kvs kus i _ ih=>?_) h;by_cases e:k'=k
 ·subst e;simp[l7,gG,XZ,Rf,i]
 ·simp only[l7,gG,XZ,decide_eq_false e]at ih ⊢;exact ih
theorem IsP.any_(h:IsP K m H kvs kus):(kvs.any fun kv=>decide (kv.1=k))=(kus.any fun kv=>decide (kv.1=k)):=
 IsP.ind (P:=fun kvs kus=>(kvs.any fun kv=>decide (kv.1=k))=(kus.any fun kv=>decide (kv.1=k))) rfl (fun k' v u kvs kus i _ ih=>by simp only[List.any_cons,ih]) h
theorem IsP.append{kvs':List (κ×V)}{kus':List (κ×U)}(h:IsP K m H kvs kus)(h':IsP K m H kvs' kus'):IsP K m H (kvs++kvs') (kus++kus'):=⟨by simp[h.1,h'.1],by simpa using h.2.append h'.2⟩
theorem IsP.put(h:IsP K m H kvs kus)(i:Is K m H v u):IsP K m H (um kvs k v) (tu kus k u):=by
 unfold um tu;rw[h.any_];split
 ·refine IsP.ind (P:=fun kvs kus=>IsP K m H (kvs.map fun kv=>if kv.1=k then(kv.1,v)else kv) (kus.map fun kv=>if kv.1=k then(kv.1,u)else kv)) .nil_ (fun k' v' u' kvs kus i' _ ih=>?_) h;simp only[ZG];by_cases e:k'=k
  ·simp only[e,if_true];exact .cons_ i ih
  ·simp only[e,if_false];exact .cons_ i' ih
 ·exact h.append (.cons_ i .nil_)
end
def oR:U->Option Key
 |.int i=>some (.inl i)
 |.str x=>some (.inr x)
 |_=>none
theorem wI{m:List Addr}{H:Hp}{x:U}{v:V}{k:Key}(ix:Is K m H v x)(h:oR x=some k):v=kV k:=by
 cases x<;>simp only[oR]at h<;>cases h
 ·exact ix.of_int
 ·exact ix.of_str
def zC:U->Bool
 |.non=>true|.bl _=>true|.int _=>true|.str _=>true|_=>false
def eqF:U->U->Bool
 |.non,.non=>true
 |.bl a,.bl b=>a == b
 |.bl a,.int b=>(if a then 1 else 0) == b
 |.int a,.bl b=>a == (if b then 1 else 0)
 |.int a,.int b=>a == b
 |.str a,.str b=>a == b
 |_,_=>false
def inU(x:U)(us:List U):Bool:=us.any fun y=>eqF y x
theorem _root_.L2.DGet.kz{H:Hp}{a:Addr}{ob:Obj}{kvs:List (Key×V)}{k:Key}(e:H a=some (.frz ob (.dK kvs))):DGet H a (kV k) (l7 kvs k):=.inl ⟨kvs,k,.inr ⟨ob,e⟩,rfl,rfl⟩
def fIn(neg:Bool):U->U->Sto->Option (U×Sto):=fun x y S=>match y with
 |.tup us=>if zC x=true/\us.all zC=true then some (.bl (if neg then !inU x us else inU x us),S)else none
 |.ref l=>match S[l]? with
  |some (.lst us)=>if zC x=true/\us.all zC=true then some (.bl (if neg then !inU x us else inU x us),S)else none
  |some (.dic kus)=>(oR x).bind fun k=>some (.bl (if neg then !(gG kus k).isSome else(gG kus k).isSome),S)
  |some (.fdc ep kus)=>(oR x).bind fun k=>some (.bl (if neg then !(gG kus k).isSome else(gG kus k).isSome),S)
  |_=>none
 |_=>none
variable{e a b:ZC}{ca cb:CE}{pos:Pos}
def fIx:U->U->Sto->Option (U×Sto):=fun x y S=>match x with
 |.tup us=>match y with
  |.int i=>(atI us i).bind fun u=>some (u,S)
  |_=>none
 |.ref l=>match S[l]? with
  |some (.lst us)=>(match y with
   |.int i=>(atI us i).bind fun u=>some (u,S)
   |_=>none)
  |some (.dic kus)=>(oR y).bind fun k=>(gG kus k).bind fun u=>some (u,S)
  |some (.fdc ep kus)=>(oR y).bind fun k=>(gG kus k).bind fun u=>some (u,S)
  |_=>none
 |.kl ns=>match y with
  |.int i=>(atI (ns.map U.int) i).bind fun u=>some (u,S)
  |_=>none
 |_=>none
theorem ym{K:Z6}{m:List Addr}{H:Hp}:∀ns:List Int,IsL K m H (ns.map V.int) (ns.map U.int)
 |[]=>.nil_
 |n::ns=>.cons_ .int_ (ym ns)
theorem B3{m:List Addr}{H:Hp}{xs:List V}{us:List U}{i:Int}{u:U}(l:IsL K m H xs us)(h:atI us i=some u):∃v,atI xs i=some v/\Is K m H v u:=by
 unfold atI at h ⊢;rw[l.length];obtain⟨j,e1,e2⟩:=Z0.mp h;rw[e1];obtain⟨v,e3,e4⟩:=l.getD e2;exact⟨v,e3,e4⟩
theorem bO(hu:X.A.units+1<cLine)(ha:QE X a ca)(hb:QE X b cb)(hs:uf b)(hs2:NQ b):QE X (.Subscript a b pos) (cOp fIx ca cb):=
 ((E1 (Be.or Fu) ha hb hs).or (CU hu ha hb hs2)).imp fun σ H Q hz=>qC hz fun m ρ S u S' sr lr hc post=>by
 obtain⟨⟨x,S1⟩,h1,h⟩:=Z0.mp hc;obtain⟨⟨y,S2⟩,h3,h4⟩:=Z0.mp h;cases x with
 |tup us=>
  simp only[fIx]at h4;split at h4<;>try cases h4
  rename_i i;obtain⟨w,hw,h5⟩:=Z0.mp h4;cases h5;refine .inl ⟨m,ρ,S,_,S1,sr,lr,h1,fun m1 v1 H1 e1 sr1 i1=>⟨m1,ρ,S1,_,S',sr1,lr.mono e1,h3,fun m2 v2 H2 e2 sr2 i2=>.inr ?_⟩⟩;obtain⟨a,xs,rfl,sa,la⟩:=(i1.mono e2).of_tup;obtain⟨z,ez,iz⟩:=B3 la hw;exact⟨a,xs,i,z,rfl,i2.of_int,sa,ez,post m2 _ H2 (e1.trans e2) sr2 iz⟩
 |ref l=>
  simp only[fIx]at h4;split at h4<;>try cases h4
  ·rename_i us hS;split at h4<;>try cases h4
   rename_i i;obtain⟨w,hw,h5⟩:=Z0.mp h4;cases h5;refine .inl ⟨m,ρ,S,_,S1,sr,lr,h1,fun m1 v1 H1 e1 sr1 i1=>⟨m1,ρ,S1,_,S',sr1,lr.mono e1,h3,fun m2 v2 H2 e2 sr2 i2=>.inl ?_⟩⟩;obtain⟨a,ha,rfl⟩:=(i1.mono e2).of_ref;obtain⟨a',ha',xs,hx,la⟩:=sr2.get hS;rw[ha]at ha';cases ha';obtain⟨z,ez,iz⟩:=B3 la hw;exact⟨a,xs,i,z,rfl,i2.of_int,SqL.of hx,ez,post m2 _ H2 (e1.trans e2) sr2 iz⟩
  ·rename_i kus hS;obtain⟨k,hk,h5⟩:=Z0.mp h4;obtain⟨w,hw,h6⟩:=Z0.mp h5;cases h6;refine .inr ⟨m,ρ,S,_,S1,sr,lr,h1,fun m1 v1 H1 e1 sr1 i1=>⟨m1,ρ,S1,_,S',sr1,lr.mono e1,h3,fun m2 v2 H2 e2 sr2 i2=>?_⟩⟩;obtain⟨a,ha,rfl⟩:=(i1.mono e2).of_ref;obtain⟨a',ha',kvs,hx,ip⟩:=sr2.get hS;rw[ha]at ha';cases ha';have ek:=wI i2 hk;subst ek;have rf:=IsP.val (k:=k) ip;rw[hw]at rf;cases hv:l7 kvs k with
   |none=>rw[hv]at rf;exact rf.elim
   |some z=>
    rw[hv]at rf;exact⟨a,z,rfl,by have:=DGet.k (k:=k) hx;rw[hv]at this;exact this,post m2 _ H2 (e1.trans e2) sr2 rf⟩
  ·rename_i ep kus hS;obtain⟨k,hk,h5⟩:=Z0.mp h4;obtain⟨w,hw,h6⟩:=Z0.mp h5;cases h6;refine .inr ⟨m,ρ,S,_,S1,sr,lr,h1,fun m1 v1 H1 e1 sr1 i1=>⟨m1,ρ,S1,_,S',sr1,lr.mono e1,h3,fun m2 v2 H2 e2 sr2 i2=>?_⟩⟩;obtain⟨a,ha,rfl⟩:=(i1.mono e2).of_ref;obtain⟨a',ha',ob,es,kvs,hx,hd,ip⟩:=sr2.get hS;rw[ha]at ha';cases ha';have ek:=wI i2 hk;subst ek;have rf:=IsP.val (k:=k) ip;rw[hw]at rf;cases hv:l7 kvs k with
   |none=>rw[hv]at rf;exact rf.elim
   |some z=>
    rw[hv]at rf;exact⟨a,z,rfl,by have:=DGet.kz (k:=k) hx;rw[hv]at this;exact this,post m2 _ H2 (e1.trans e2) sr2 rf⟩
 |kl ns=>
  simp only[fIx]at h4;split at h4<;>try cases h4
  rename_i i;obtain⟨w,hw,h5⟩:=Z0.mp h4;cases h5;refine .inl ⟨m,ρ,S,_,S1,sr,lr,h1,fun m1 v1 H1 e1 sr1 i1=>⟨m1,ρ,S1,_,S',sr1,lr.mono e1,h3,fun m2 v2 H2 e2 sr2 i2=>.inl ?_⟩⟩;obtain⟨a,rfl,ka⟩:=(i1.mono e2).of_kl;obtain⟨z,ez,iz⟩:=B3 (ym (K:=X.K) (m:=m2) (H:=H2) ns) hw;exact⟨a,_,i,z,rfl,i2.of_int,ka.sq,ez,post m2 _ H2 (e1.trans e2) sr2 iz⟩
 |_=>simp[fIx]at h4
def qy:U->U->U->Sto->Option Sto:=fun o i v S=>match o with
 |.ref l=>match S[l]? with
  |some (.lst us)=>(match i with
   |.int k=>(ixN us.length k).bind fun j=>some (S.set l (.lst (us.set j v)))
   |_=>none)
  |some (.dic kus)=>(oR i).bind fun k=>if kus.length<LIM then some (S.set l (.dic (tu kus k v)))else none
  |_=>none
 |_=>none
def n6(co ci cv:CE):CS:=fun ρ S=>(cv ρ S).bind fun p=>(co ρ p.2).bind fun q=>(ci ρ q.2).bind fun r=>(qy q.1 r.1 p.1 r.2).bind fun S'=>some (.nx,ρ,S')
theorem ki{o i:ZC}{co ci cv:CE}{pos':Pos}(hu:X.A.units+1<cLine)(ho:QE X o co)(hi:QE X i ci)(hv:QE X e cv)
  (hs0:swapsWithSole [.Subscript o i pos'] e pos.line X.env=pure false:=by rfl) (hw:swappedStores [.Subscript o i pos'] e X.env=pure none:=by rfl)
  (h1:(assignEach [.Subscript o i pos'] X.env).map (·.2)=[assign (.Subscript o i pos') X.env]:=by rfl)
  (hs:X7 e (some (.Subscript o i pos')) pos.line X.env=pure false:=by rfl)
  (ha:∀v,assign (.Subscript o i pos') X.env v=(do
   let ov <-holding [v] (eval o X.env)
   let iv <-holding [v,ov] (eval i X.env)
   standAt pos'
   holding [v,ov,iv] (setItem ov iv v)
   release [v,ov,iv] []):=by intro _;rfl):QS X (.Assign [.Subscript o i pos'] e pos) (n6 co ci cv):=
 ((z5 hv (Gj ho hi Dd ha) hs0 hw h1).or (CK hu ho hi hv hs)).imp fun D σ H hz=>wY hz fun m ρ S o ρ' S' sr lr hc post=>by
 obtain⟨⟨v,S1⟩,h1,h⟩:=Z0.mp hc;obtain⟨⟨ou,S2⟩,h2,h⟩:=Z0.mp h;obtain⟨⟨iu,S3⟩,h3,h⟩:=Z0.mp h;obtain⟨S4,h4,h⟩:=Z0.mp h;cases h;cases ou with
 |ref l=>
  simp only[qy]at h4;split at h4<;>try cases h4
  ·rename_i us hS;split at h4<;>try cases h4
   rename_i k;obtain⟨j,hj,h5⟩:=Z0.mp h4;cases h5;refine .inl ⟨m,ρ,S,v,S1,sr,lr,h1,fun m1 v1 H1 e1 sr1 i1=>⟨m1,ρ,S1,_,S2,sr1,lr.mono e1,h2,fun m2 v2 H2 e2 sr2 i2=>⟨m2,ρ,S2,_,S3,sr2,lr.mono (e1.trans e2),h3,fun m3 v3 H3 e3 sr3 i3=>?_⟩⟩⟩;obtain⟨a,ha,rfl⟩:=(i2.mono e3).of_ref;obtain⟨a',ha',xs,hx,la⟩:=sr3.get hS;rw[ha]at ha';cases ha';have e13:=(e1.trans e2).trans e3;have ek:Ext X.K m3 H3 m3 (upd H3 a (.lst (xs.set j v1))):=.of (sr3.keep ha _);refine⟨a,xs,k,j,rfl,i3.of_int,hx,by rw[la.length];exact hj,post m3 σ _ (e13.trans ek) (sr3.put ha ⟨_,bx,((la.set (i1.mono (e2.trans e3)))).mono ek⟩) (lr.mono (e13.trans ek))⟩
  ·rename_i kus hS;obtain⟨k,hk,h5⟩:=Z0.mp h4;split at h5<;>try cases h5
   have hlen:kus.length<LIM:=by assumption
   refine .inr ⟨m,ρ,S,v,S1,sr,lr,h1,fun m1 v1 H1 e1 sr1 i1=>⟨m1,ρ,S1,_,S2,sr1,lr.mono e1,h2,fun m2 v2 H2 e2 sr2 i2=>⟨m2,ρ,S2,_,S3,sr2,lr.mono (e1.trans e2),h3,fun m3 v3 H3 e3 sr3 i3=>?_⟩⟩⟩;obtain⟨a,ha,rfl⟩:=(i2.mono e3).of_ref;obtain⟨a',ha',kvs,hx,ip⟩:=sr3.get hS;rw[ha]at ha';cases ha';have ek:=wI i3 hk;subst ek;have e13:=(e1.trans e2).trans e3;have ee:Ext X.K m3 H3 m3 (upd H3 a (.dK (um kvs k v1))):=.of (sr3.keep ha _);exact⟨a,_,rfl,Nr.k hx (NA (by rw[IsP.length ip];exact hlen)),post m3 σ _ (e13.trans ee) (sr3.put ha ⟨_,bx,(IsP.put ip (i1.mono (e2.trans e3))).mono ee⟩) (lr.mono (e13.trans ee))⟩
 |_=>simp[qy]at h4
end
theorem mx{α:Type}[DecidableEq α]:∀{l l':List α},l.Nodup->(∀x∈l,x∈l')->l.length<=l'.length
 |[],_,_,_=>X1 _
 |x::r,l',nd,s=>by
  obtain⟨h1,h2⟩:=List.nodup_cons.mp nd;have hx:=s x ZE;have:=mx (l:=r) (l':=l'.erase x) h2 fun y hy=>(List.mem_erase_of_ne (fun z=>h1 (by rw[<-z];exact hy))).mpr (s y (ZJ _ hy));rw[List.length_erase_of_mem hx]at this;have hp:=List.length_pos_of_mem hx;rw[ZT];omega
theorem hV(f:Str)(v:V):∀fs:List (Str×V),(qY f v fs).map (·.1)=if f∈fs.map (·.1)then fs.map (·.1)else fs.map (·.1)++[f]
 |[]=>by simp[qY]
 |(g,x)::r=>by
  unfold qY;by_cases e:g=f
  ·simp[e]
  ·have ih:=hV f v r;rw[if_neg e,ZG,ZG,ih];by_cases c:f∈r.map (·.1)
   ·rw[if_pos c,if_pos (ZJ _ c)]
   ·rw[if_neg c,if_neg (fun z=>by rcases Zx.mp z with z|z;exact e z.symm;exact c z)];rfl
section
variable{X:Cx}{K:Z6}{m:List Addr}{H:Hp}{c:Cl}{fs:List (Str×V)}{fus:List (Option U)}
theorem InF.room(h:InF K m H c fs fus):fs.length<1000:=by
 have:=mx h.knd h.sub;rw[ZN]at this;have:=h.few;omega
theorem qg{f:Str}:∀{fs:List (Str×V)},f∉fs.map (·.1)->fs.lookup f=none
 |[],_=>rfl
 |(g,x)::r,h=>by
  rw[List.lookup_cons];have h1:(f == g)=false:=by
   apply beq_eq_false_iff_ne.mpr;intro z;exact h (by rw[z];exact ZE)
  rw[h1];exact qg fun z=>h (ZJ _ z)
def InF.none_{f:Str}(h:InF K m H c fs fus)(hf:f∉c.ns):fs.lookup f=none:=qg fun z=>hf (h.sub f z)
theorem InF.put{f:Str}{i:Nat}{v:V}{u:U}(h:InF K m H c fs fus)(hi:c.ns[i]?=some f)(hv:Is K m H v u):InF K m H c (qY f v fs) (fus.set i (some u)):=by
 have hfm:f∈c.ns:=List.mem_of_getElem? hi;refine⟨h.nd,h.few,?_,fun x hx=>?_,by simp[h.len],fun j x hj=>?_⟩
 ·rw[hV];split
  ·exact h.knd
  ·rename_i hn;rw[List.nodup_append];exact⟨h.knd,by simp,fun a ha b hb z=>by simp at hb;subst hb;subst z;exact hn ha⟩
 ·rw[hV]at hx;split at hx
  ·exact h.sub x hx
  ·rcases X8.mp hx with z|z
   ·exact h.sub x z
   ·simp at z;subst z;exact hfm
 ·rw[lC];by_cases e:i=j
  ·subst e;rw[hi]at hj;cases hj;rw[if_pos rfl];have:i<fus.length:=by rw[h.len];exact(Z9.mp hi).1
   rw[Zr this];exact hv
  ·have ne:x≠f:=fun z=>by
    subst z;obtain⟨p1,e1⟩:=Z9.mp hi;obtain⟨p2,e2⟩:=Z9.mp hj;exact e ((List.getElem_inj h.nd).mp (e1.trans e2.symm))
   rw[if_neg ne,ZH e];exact h.at_ j x hj
theorem InF.new(nd:c.ns.Nodup)(few:c.ns.length<1000):InF K m H c [] (ZU c.ns.length none):=by
 refine⟨nd,few,by simp,fun x hx=>by simp at hx,by simp,fun i x hi=>?_⟩;rw[X4];split<;>exact trivial
open Classical in
def MP(c:Cl)(i:Nat)(x:U)(S:Sto):Option (U×Sto):=match x with
 |.ref l=>match S[l]? with
  |some (.ins c' fus)=>if c'=c then(fus[i]?).join.bind fun u=>some (u,S)else none
  |_=>none
 |_=>none
def gh(c:Cl)(i:Nat)(ca:CE):CE:=fun ρ S=>(ca ρ S).bind fun p=>MP c i p.1 p.2
open Classical in
def Bt(c:Cl)(i:Nat)(x v:U)(S:Sto):Option Sto:=match x with
 |.ref l=>match S[l]? with
  |some (.ins c' fus)=>if c'=c then some (S.set l (.ins c (fus.set i (some v))))else none
  |_=>none
 |_=>none
def fj(c:Cl)(i:Nat)(ca cv:CE):CS:=fun ρ S=>(cv ρ S).bind fun p=>(ca ρ p.2).bind fun q=>(Bt c i q.1 p.1 q.2).bind fun S'=>some (.nx,ρ,S')
variable{e:ZC}{ca cv:CE}{pos:Pos}{f:Str}{i:Nat}
theorem cq(hcl:Cls X.K c.C)(hna:kK X.K c.C f)(hi:c.ns[i]?=some f)(h:QE X e ca)(hb:attributeBase e f X.env (eval e X.env)=eval e X.env:=by rfl):QE X (.Attribute e f pos) (gh c i ca):=(Gq h hb).imp fun σ H Q hz=>qC hz fun m ρ S u S' sr lr hc post=>by
 obtain⟨⟨x,S1⟩,h1,h2⟩:=Z0.mp hc;refine⟨m,ρ,S,x,S1,sr,lr,h1,fun m1 v1 H1 e1 sr1 i1=>?_⟩;cases x with
 |ref l=>
  simp only[MP]at h2;split at h2<;>try cases h2
  rename_i c' fus hS;split at h2<;>try cases h2
  rename_i hc';subst hc';obtain⟨w,hw,h3⟩:=Z0.mp h2;cases h3;obtain⟨a,ha,rfl⟩:=i1.of_ref;obtain⟨a',ha',dx,fs,hx,inf⟩:=sr1.get hS;rw[ha]at ha';cases ha';have rf:=inf.at_ i f hi;rw[hw]at rf;cases hv:fs.lookup f with
  |none=>rw[hv]at rf;exact rf.elim
  |some z=>
   rw[hv]at rf;exact⟨a,_,dx,fs,z,rfl,hx,hcl,hna,hv,post m1 _ H1 e1 sr1 rf⟩
 |_=>simp[MP]at h2
theorem bP{o:ZC}{co:CE}{pos':Pos}(hcl:Cls X.K c.C)(hna:kK X.K c.C f)(hi:c.ns[i]?=some f)(ho:QE X o co)(hv:QE X e cv)(hs:X7 e (some (.Attribute o f pos')) pos.line X.env=pure false:=by rfl):QS X (.Assign [.Attribute o f pos'] e pos) (fj c i co cv):=(Gf ho hv hs).imp fun D σ H hz=>wY hz fun m ρ S o ρ' S' sr lr hc post=>by
 obtain⟨⟨v,S1⟩,h1,h⟩:=Z0.mp hc;obtain⟨⟨x,S2⟩,h2,h⟩:=Z0.mp h;obtain⟨S3,h3,h⟩:=Z0.mp h;cases h;refine⟨m,ρ,S,v,S1,sr,lr,h1,fun m1 v1 H1 e1 sr1 i1=>⟨m1,ρ,S1,x,S2,sr1,lr.mono e1,h2,fun m2 v2 H2 e2 sr2 i2=>?_⟩⟩;cases x with
 |ref l=>
  simp only[Bt]at h3;split at h3<;>try cases h3
  rename_i c' fus hS;split at h3<;>try cases h3
  have hc':c'=c:=by assumption
  subst hc';obtain⟨a,ha,rfl⟩:=i2.of_ref;obtain⟨a',ha',dx,fs,hx,inf⟩:=sr2.get hS;rw[ha]at ha';cases ha';have ee:Ext X.K m2 H2 m2 (upd H2 a (.ins c'.C dx (qY f v1 fs))):=.of (sr2.keep ha _);have e12:=e1.trans e2;exact⟨a,_,dx,fs,rfl,hx,hcl,hna,inf.room,post m2 σ _ (e12.trans ee) (sr2.put ha ⟨dx,_,bx,(inf.put hi (i1.mono e2)).mono ee⟩) (lr.mono (e12.trans ee))⟩
 |_=>simp[Bt]at h3
structure cH(P:ZS)(w:Zg)(K:Z6)(mg:Str->Option Z7)(base:Heap)(c:Cl)(mn:Str)(k:Nat)(ps:List Str)(f:Fn):Prop where
 ex:∃fa fd,Cw K c.C mn fa/\lU P w K mg base CX0 k fa fd ps (Aw K f)/\gW K fd ps []
theorem cH.mono{P:ZS}{w:Zg}{mg:Str->Option Z7}{base:Heap}{mn:Str}{j k:Nat}{ps:List Str}{f:Fn}(h:cH P w K mg base c mn j ps f)(l:j<=k):cH P w K mg base c mn k ps f:=by
 obtain⟨fa,fd,a,b,d⟩:=h.ex;exact⟨fa,fd,a,b.mono l,d⟩
open Classical in
def Bv(c:Cl)(f:Fn)(x:U)(S:Sto)(args:Sto->Option (List U×Sto)):Option (U×Sto):=match x with
 |.ref l=>match S[l]? with
  |some (.ins c' _)=>if c'=c then(args S).bind fun q=>f (.ref l::q.1) q.2 else none
  |_=>none
 |_=>none
def bH(c:Cl)(f:Fn)(ca:CE)(cr:CA):CE:=fun ρ S=>(ca ρ S).bind fun p=>Bv c f p.1 p.2 (cr ρ)
theorem x8{mn:Str}{g:Fn}{co:CE}{cr:CA}(hmn:mn∉c.ns):∀σ H Q,tE K (bH c g co cr) σ H Q->vR c.C mn (Aw K g) [] E0 (tE K co) (tA K cr) σ H Q:=by
 rintro σ H Q ⟨m,ρ,S,u,S',sr,lr,hc,post⟩;obtain⟨⟨x,S1⟩,h1,h2⟩:=Z0.mp hc;refine⟨m,ρ,S,x,S1,sr,lr,h1,fun m1 v1 H1 e1 sr1 i1=>?_⟩;cases x with
 |ref l=>
  simp only[Bv]at h2;split at h2<;>try cases h2
  rename_i c' fus hS;split at h2<;>try cases h2
  rename_i hc';subst hc';obtain⟨⟨us,S2⟩,h3,h4⟩:=Z0.mp h2;obtain⟨a,ha,rfl⟩:=i1.of_ref;obtain⟨a',ha',dx,fs,hx,inf⟩:=sr1.get hS;rw[ha]at ha';cases ha';refine⟨a,dx,fs,rfl,hx,inf.none_ hmn,m1,ρ,S1,us,S2,sr1,lr.mono e1,h3,fun m2 vs H2 e2 sr2 i2=>?_⟩;exact⟨m2,_,S2,u,S',.cons_ (i1.mono e2) (by simpa using i2),sr2,h4,post.mono (e1.trans e2)⟩
 |_=>simp[Bv]at h2
theorem b6{mn:Str}{g:Fn}{k:Nat}{ps:List Str}{o:ZC}{es:List ZC}{co:CE}{cr:CA}{apos:Pos}{pl:Sem Bool}(hcl:Cls X.K c.C)(F:cH X.prog X.w X.K X.mg X.base c mn k ps g)(hr:gS k X.A)(hmn:mn∉c.ns)(ho:QE X o co)(ha:QA X (e::es) cr)
  (hst:ZX (e::es) X.env=(false,eval e X.env)::ZX es X.env:=by rfl) (hpl:(Zf pos (ZX es X.env)).any (·.1)=false:=by rfl) (ht:eval (.Call (.Attribute o mn apos) (e::es) [] pos) X.env=(do
   let ov <-eval o X.env
   standAt apos.atName
   let (f,first) <-holding [ov] (getMethod ov mn pl)
   callWith pos f first (Zf pos (ZX (e::es) X.env)) (backToKw pos (keywordEach [] X.env))):=by rfl):QE X (.Call (.Attribute o mn apos) (e::es) [] pos) (bH c g co cr):=by
 obtain⟨fa,fd,hm,F,hb⟩:=F.ex;exact(xE ho hcl hm F hr hb .nil AW ha.h hst hpl ht).imp (x8 hmn)
theorem c8{mn:Str}{g:Fn}{k:Nat}{ps:List Str}{o:ZC}{co:CE}{apos:Pos}{pl:Sem Bool}(hcl:Cls X.K c.C)(F:cH X.prog X.w X.K X.mg X.base c mn k ps g)(hr:gS k X.A)(hmn:mn∉c.ns)(ho:QE X o co)
  (ht:eval (.Call (.Attribute o mn apos) [] [] pos) X.env=(do
   let ov <-eval o X.env
   standAt apos.atName
   let (f,first) <-holding [ov] (getMethod ov mn pl)
   callWith pos f first (Zf pos (ZX [] X.env)) (backToKw pos (keywordEach [] X.env))):=by rfl):QE X (.Call (.Attribute o mn apos) [] [] pos) (bH c g co aD):=by
 obtain⟨fa,fd,hm,F,hb⟩:=F.ex;refine(z7 ho hcl hm F hr hb .nil AW ht).imp fun σ H Q h=>?_;obtain⟨m,ρ,S,u,S',sr,lr,hc,k⟩:=x8 hmn σ H Q h;refine⟨m,ρ,S,u,S',sr,lr,hc,fun m1 v1 H1 e1 sr1 i1=>?_⟩;obtain⟨a,dx,fs,h1,h2,h3,m2,ρ2,S2,us,S3,sr2,lr2,h4,h5⟩:=k m1 v1 H1 e1 sr1 i1;cases h4;exact⟨a,dx,fs,h1,h2,h3,h5 m2 [] H1 .refl sr2 .nil_⟩
structure CMk(P:ZS)(w:Zg)(K:Z6)(mg:Str->Option Z7)(base:Heap)(c:Cl)(x:Str)(k:Nat)(ps:List Str)(f:Fn):Prop where
 ex:∃fa fd,Mk K c.C fa/\lU P w K mg base CX0 k fa fd ps (Aw K f)/\gW K fd ps []/\mg x=some (.ref c.C)
 nd:c.ns.Nodup
 few:c.ns.length<1000
theorem CMk.mono{P:ZS}{w:Zg}{mg:Str->Option Z7}{base:Heap}{x:Str}{j k:Nat}{ps:List Str}{f:Fn}(h:CMk P w K mg base c x j ps f)(l:j<=k):CMk P w K mg base c x k ps f:=by
 obtain⟨fa,fd,a,b,d⟩:=h.ex;exact⟨⟨fa,fd,a,b.mono l,d⟩,h.nd,h.few⟩
def rA(c:Cl)(f:Fn):Fn:=fun us S=>(f (.ref S.length::us) (S++[.ins c (ZU c.ns.length none)])).bind fun p=>match p.1 with
 |.non=>some (.ref S.length,p.2)
 |_=>none
theorem ya{g:Fn}{cr:CA}(nd:c.ns.Nodup)(few:c.ns.length<1000):∀σ H Q,tE K (cCB (rA c g) cr) σ H Q->Ap c.C (Aw K g) [] E0 (tA K cr) σ H Q:=by
 rintro σ H Q ⟨m,ρ,S,u,S',sr,lr,hc,post⟩;obtain⟨⟨us,S1⟩,h1,h2⟩:=Z0.mp hc;obtain⟨⟨w,S2⟩,h3,h4⟩:=Z0.mp h2;refine⟨m,ρ,S,us,S1,sr,lr,h1,fun m1 vs H1 e1 sr1 i1 x dx hx hdx ne=>?_⟩;cases w with
 |non=>
  cases h4;have s1:xn H1 (upd H1 dx (.own x)):=eQ hdx _;have hx2:(upd H1 dx (.own x)) x=none:=by rw[bN (Ne.symm ne)];exact hx
  have ee:Ext K m1 H1 (m1++[x]) (upd (upd H1 dx (.own x)) x (.ins c.C dx [])):=.new ⟨fun b xs q=>(dc hx2 _).t b xs ((fb s1).t b xs q),fun b xs q=>(dc hx2 _).l b xs ((fb s1).l b xs q),fun b xs q=>(dc (K:=K) hx2 _).c b xs ((fb (K:=K) s1).c b xs q)⟩;refine⟨m1++[x],.ref S1.length::us,S1++[.ins c (ZU c.ns.length none)],.non,S2,.cons_ (.ref_ (gM sr1.len)) (by simpa using i1.mono ee),(sr1.same s1).new (o:=.ins c (ZU c.ns.length none)) hx2 ⟨dx,[],bx,InF.new nd few⟩,h3,fun m2 v2 H2 e2 sr2 i2=>⟨i2.of_non,?_⟩⟩;exact post m2 _ H2 ((e1.trans ee).trans e2) sr2 (.ref_ (e2.get (gM sr1.len)))
 |_=>simp at h4
theorem Fe{x:Str}{g:Fn}{k:Nat}{ps:List Str}{es:List ZC}{cr:CA}{p:Pos}(M:CMk X.prog X.w X.K X.mg X.base c x k ps g)(hr:gS (k+1) X.A)(hg:Gl X x)(ha:QA X (e::es) cr)
  (hdb:(x == ("__debug__":Str))=false:=by decide) (he:ZX (e::es) X.env=(false,eval e X.env)::ZX es X.env:=by rfl) (hpl:(Zf pos (ZX es X.env)).any (·.1)=false:=by rfl):QE X (.Call (.Name x p) (e::es) [] pos) (cCB (rA c g) cr):=by
 obtain⟨fa,fd,hm,F,hb,hx⟩:=M.ex;exact(CP hm F hr hg hx hb .nil AW ha.h hdb he hpl).imp (ya M.nd M.few)
theorem Hg{x:Str}{g:Fn}{k:Nat}{ps:List Str}{p:Pos}(M:CMk X.prog X.w X.K X.mg X.base c x k ps g)(hr:gS (k+1) X.A)(hg:Gl X x)
  (hdb:(x == ("__debug__":Str))=false:=by decide):QE X (.Call (.Name x p) [] [] pos) (cCB (rA c g) aD):=by
 obtain⟨fa,fd,hm,F,hb,hx⟩:=M.ex;refine(z8 hm F hr hg hx hb .nil AW hdb).imp fun σ H Q h=>?_;obtain⟨m,ρ,S,us,S',sr,lr,hc,k⟩:=ya M.nd M.few σ H Q h;cases hc;exact k m [] H .refl sr .nil_
def IP:CE:=fun _ S=>some (.ref S.length,S++[.dic []])
theorem K9:QE X (.Dict [] [] pos) IP:=Ac.imp fun σ H Q hz=>qC hz fun m ρ S u S' sr lr hc post=>by
 cases hc;exact fun p hp=>post (m++[p]) _ _ (.new (dc hp _)) (sr.new hp ⟨[],bx,.nil_⟩) (.ref_ (gM sr.len))
def M7(cd ck cx:CE):CE:=fun ρ S=>(cd ρ S).bind fun p=>match p.1 with
 |.ref l=>match p.2[l]? with
  |some (.dic _)=>(ck ρ p.2).bind fun q=>(cx ρ q.2).bind fun r=>match r.2[l]? with
   |some (.dic kus)=>(oR q.1).bind fun k=>some ((gG kus k).getD r.1,r.2)
   |_=>none
  |_=>none
 |_=>none
end
def vF(n:Nat)(caps:List Nat)(ρ:Rho):Rho:=ZU n none++caps.map fun i=>(ρ[i]?).getD none
open Classical in
def j1(ok:Sto->Prop)(g:CG)(ce:CE)(l:Nat):List U->Rho->Sto->Option Sto
 |[],_,S=>if ok S then some S else none
 |u::us,ρ,S=>if ok S then(g u ρ S).bind fun p=>(ce p.1 p.2).bind fun r=>match r.2[l]? with
  |some (.lst ys)=>if ys.length<LIM then j1 ok g ce l us p.1 (r.2.set l (.lst (ys++[r.1])))else none
  |_=>none else none
def gE(ci:CI)(g:CG)(ce:CE)(n:Nat)(caps:List Nat):CE:=fun ρ S=>(ci ρ S).bind fun p=>(j1 p.2.1 g ce p.2.2.length p.1 (vF n caps ρ) (p.2.2++[.lst []])).bind fun S'=>some (.ref p.2.2.length,S')
section
variable{X:Cx}{K:Z6}
theorem A3{m:List Addr}{H:Hp}{ρ:Rho}{σ:L2.St}{n:Nat}{caps:List Nat}(lr:Lr K m H ρ σ):Lr K m H (vF n caps ρ) (OG.stC n caps σ):=by
 refine⟨by simp[vF,OG.stC],fun j u e=>?_⟩;unfold vF at e;unfold OG.stC;by_cases c:j<n
 ·rw[Zq (by simpa using c),X4]at e;split at e<;>cases e
 ·rw[Zb (by simp;omega),Zk]at e ⊢;simp only[List.length_replicate]at e ⊢;cases q:caps[j-n]? with
  |none=>rw[q]at e;simp at e
  |some i=>
   rw[q]at e;simp only[XQ,Option.some.injEq]at e ⊢;have e2:ρ[i]?=some (some u):=by
    cases z:ρ[i]? with
    |none=>rw[z]at e;simp at e
    |some y=>rw[z]at e;simp at e;rw[e]
   obtain⟨v,h1,h2⟩:=lr.at_ i u e2;exact⟨v,by rw[h1];rfl,h2⟩
theorem BO{g:CG}{ce:CE}{n:Nat}{caps:List Nat}{J:It}{us:List U}{ok:Sto->Prop}{Q:VK}{m1:List Addr}{H1:Hp}{S1 S':Sto}{ρ:Rho}{σ:L2.St}{l:Addr}(sr1:Sr K m1 S1 H1)(lr:Lr K m1 H1 ρ σ)(ito:FO K J m1 H1 us ok)(hl:H1 l=none)(h2:j1 ok g ce S1.length us (vF n caps ρ) (S1++[.lst []])=some S')
  (post:∀m2 H2,Ext K (m1++[l]) (upd H1 l (.lst [])) m2 H2->Sr K m2 S' H2->Q (.ref l) H2) :
  ∃W:Nat->Nat->L2.St->Hp->Prop,(∃m,W 0 m (OG.stC n caps σ) (upd H1 l (.lst [])))/\
 ∀i m σ' H2,W i m σ' H2->(J.stop i H2/\Q (.ref l) H2)\/(J.go i H2/\∃N:L2.St->Hp->Prop,(∀σ'' H',N σ'' H'->∃m',m'<m/\W (i+1) m' σ'' H')/\
  ∀x H3,J.yld i H2 x H3->tG K g x σ' H3 fun σ2 H4=>tE K ce σ2 H4 fun v H5=>∃ys,H5 l=some (.lst ys)/\ys.length<ZP/\N σ2 (upd H5 l (.lst (ys++[v])))):=by
 have ee:Ext K m1 H1 (m1++[l]) (upd H1 l (.lst [])):=.new (dc hl _);let W:Nat->Nat->L2.St->Hp->Prop:=fun i k σ2 H2=>k=us.length-i/\i<=us.length/\∃m2 ρ2 S2,Ext K (m1++[l]) (upd H1 l (.lst [])) m2 H2/\Sr K m2 S2 H2/\Lr K m2 H2 ρ2 σ2/\j1 ok g ce S1.length (us.drop i) ρ2 S2=some S'
 refine⟨W,⟨us.length,by simp,X1 _,m1++[l],vF n caps ρ,S1++[.lst []],.refl,sr1.new (o:=.lst []) hl ⟨[],bx,.nil_⟩,A3 (lr.mono ee),by simpa using h2⟩,?_⟩;rintro i k σ2 H2 ⟨rfl,hi,m2,ρ2,S2,e2,sr2,lr2,hl2⟩;by_cases hlt:i<us.length
 ·have hu:=ZR hlt;rw[mC hu]at hl2;unfold j1 at hl2;split at hl2
  ·rename_i hok;obtain⟨⟨ρ3,S3⟩,h3,hl2⟩:=Z0.mp hl2;obtain⟨⟨u4,S4⟩,h4,hl2⟩:=Z0.mp hl2;simp only at hl2;split at hl2<;>try cases hl2
   rename_i ys hys;split at hl2<;>try cases hl2
   rename_i hlen;obtain⟨hgo,hy⟩:=(ito m2 S2 H2 i (ee.trans e2) sr2 hok).1 _ hu;refine .inr ⟨hgo,W (i+1) (us.length-(i+1)),fun σ' H' w'=>⟨_,by omega,w'⟩,fun x H3 y=>?_⟩;obtain⟨e3,sr3,ix⟩:=hy x H3 y;refine⟨m2,ρ2,S2,_,ρ3,S3,sr3,lr2.mono e3,ix,h3,fun m4 σ4 H4 e4 sr4 lr4=>⟨m4,ρ3,S3,u4,S4,sr4,lr4,h4,fun m5 v5 H5 e5 sr5 i5=>?_⟩⟩;obtain⟨a',ha',xs,hx,il⟩:=sr5.get hys;have ha:m5[S1.length]?=some l:=(((e2.trans e3).trans e4).trans e5).get (gM sr1.len);rw[ha]at ha';cases ha';have eu:Ext K m5 H5 m5 (upd H5 l (.lst (xs++[v5]))):=.of (sr5.keep ha _);refine⟨xs,hx,NA (by rw[il.length];exact hlen),rfl,hlt,m5,ρ3,_,((((e2.trans e3).trans e4).trans e5).trans eu),sr5.put (o:=.lst (ys++[u4])) ha ⟨_,bx,(il.append (.cons_ i5 .nil_)).mono eu⟩,(lr4.mono (e5.trans eu)),hl2⟩
  ·cases hl2
 ·have e:i=us.length:=by omega
  subst e;rw[List.drop_length]at hl2;unfold j1 at hl2;split at hl2
  ·rename_i hok;cases hl2;exact .inl ⟨(ito m2 _ H2 _ (ee.trans e2) sr2 hok).2 (ZD _),post m2 H2 e2 sr2⟩
  ·cases hl2
theorem yx{ci:CI}{g:CG}{ce:CE}{n:Nat}{caps:List Nat}:∀σ H Q,tE K (gE ci g ce n caps) σ H Q->C5 (tI K ci) (tG K g) (tE K ce) n caps σ H Q:=by
 rintro σ H Q ⟨m,ρ,S,u,S',sr,lr,hc,post⟩;obtain⟨⟨us,ok,S1⟩,h1,h2⟩:=Z0.mp hc;obtain⟨S2,h2,h3⟩:=Z0.mp h2;cases h3;refine⟨m,ρ,S,us,ok,S1,sr,lr,h1,fun m1 H1 J e1 sr1 ito l hl=>?_⟩;have ee:Ext K m1 H1 (m1++[l]) (upd H1 l (.lst [])):=.new (dc hl _);exact BO sr1 (lr.mono e1) ito hl h2 fun m2 H2 e2 sr2=>post m2 _ H2 ((e1.trans ee).trans e2) sr2 (.ref_ (e2.get (gM sr1.len)))
theorem p9{Nc capN tn:List Str}{scope:XA}{cl:List (Str×Addr)}{n:Nat}{caps:List Nat}{tg iter elt:ZC}{pos:Pos}{ci:CI}{g:CG}{ce:CE}
  (hc:X.calm=true) (hi:QI X tg iter ci) (hg:∀s3 H3 fp,WG (cxC X Nc scope cl s3 H3 fp) tg (tG X.K g)) (he:∀s3 H3 fp,WE (cxC X Nc scope cl s3 H3 fp) elt (tE X.K ce))
  (hclos:closureFor scope X.env=pure cl) (hkind:scope.kind=.function) (hnl:∀x∈scope.names,x.2=.local->scope.names.lookup x.1=some .local) (hcell:∀x∈scope.names,x.2≠.cell)
  (hcl:zU X.env cl) (hhas:((relabel scope X.env).names.all fun p=>!(p.2 == .cell||p.2 == .free)||(cl.lookup p.1).isSome)=true)
  (hcap:Paired (Cap X scope cl) caps capN) (hN:Nc=tn++capN) (hn:tn.length=n)
  (hs:∀x,foldedSetIterable iter X.env x=pure x:=by intro _;rfl) :
  QE X (.ListComp elt [⟨tg,iter,[],0⟩] scope pos) (gE ci g ce n caps):=(CV hc hi hg he hclos hkind hnl hcell hcl hhas hcap hN hn hs).imp yx
def fx:Fn
 |[.tup us],S=>some (.int us.length,S)
 |[.ref l],S=>match S[l]? with
  |some (.lst us)=>some (.int us.length,S)
  |some (.dic us)=>some (.int us.length,S)
  |_=>none
 |[.kl ns],S=>some (.int ns.length,S)
 |_,_=>none
abbrev Q4(K:Z6):List V->Hp->VK->Prop:=fun xs H Q=>(∃p ys,xs=[.ref p]/\(SqL K H p ys\/SqT K H p ys)/\Q (.int ys.length) H)\/∃a kvs,xs=[V.ref a]/\H a=some (.dK kvs)/\Q (.int kvs.length) H
def eZ:gU X (.builtin "len") (Q4 X.K):=vt.or BU
theorem IsL.one{m:List Addr}{H:Hp}{vs:List V}{u:U}(h:IsL K m H vs [u]):∃v,vs=[v]/\Is K m H v u:=by
 obtain⟨x,r,rfl,i,t⟩:=h.of_cons;rw[t.of_nil];exact⟨x,rfl,i⟩
theorem IsL.two{m:List Addr}{H:Hp}{vs:List V}{u w:U}(h:IsL K m H vs [u,w]):∃v x,vs=[v,x]/\Is K m H v u/\Is K m H x w:=by
 obtain⟨x,r,rfl,i,t⟩:=h.of_cons;obtain⟨y,rfl,j⟩:=t.one;exact⟨x,y,rfl,i,j⟩
theorem eY:oM K (Q4 K) fx:=by
 intro m S H us vs u S' Q sr i hf post;match us,hf with
 |[.tup ws],hf=>
  cases hf;obtain⟨v,rfl,iv⟩:=i.one;obtain⟨a,xs,rfl,sa,la⟩:=iv.of_tup;exact .inl ⟨a,xs,rfl,.inr sa,by rw[la.length];exact post m _ H .refl sr .int_⟩
 |[.ref l],hf=>
  obtain⟨v,rfl,iv⟩:=i.one;obtain⟨a,ha,rfl⟩:=iv.of_ref;simp only[fx]at hf;split at hf<;>try cases hf
  ·rename_i ws hS;obtain⟨a',ha',xs,hx,la⟩:=sr.get hS;rw[ha]at ha';cases ha';exact .inl ⟨a,xs,rfl,.inl (SqL.of hx),by rw[la.length];exact post m _ H .refl sr .int_⟩
  ·rename_i ws hS;obtain⟨a',ha',xs,hx,la⟩:=sr.get hS;rw[ha]at ha';cases ha';exact .inr ⟨a,xs,rfl,hx,by rw[IsP.length la];exact post m _ H .refl sr .int_⟩
 |[.kl ns],hf=>
  cases hf;obtain⟨v,rfl,iv⟩:=i.one;obtain⟨a,rfl,ka⟩:=iv.of_kl;exact .inl ⟨a,_,rfl,.inl ka.sq,by rw[ZN];exact post m _ H .refl sr .int_⟩
def vm:Fn
 |[.tup us],S=>some (.ref S.length,S++[.lst us])
 |[.ref l],S=>match S[l]? with
  |some (.lst us)=>some (.ref S.length,S++[.lst us])
  |_=>none
 |_,_=>none
theorem Ff:oM K (fun xs H Q=>∃p ys,xs=[.ref p]/\(SqL K H p ys\/SqT K H p ys)/\∀l,H l=none->Q (.ref l) (upd H l (.lst ys))) vm:=by
 intro m S H us vs u S' Q sr i hf post;match us,hf with
 |[.tup ws],hf=>
  cases hf;obtain⟨v,rfl,iv⟩:=i.one;obtain⟨a,xs,rfl,sa,la⟩:=iv.of_tup;exact⟨a,xs,rfl,.inr sa,fun l hl=>gK sr la post hl⟩
 |[.ref l],hf=>
  obtain⟨v,rfl,iv⟩:=i.one;obtain⟨a,ha,rfl⟩:=iv.of_ref;simp only[vm]at hf;split at hf<;>try cases hf
  rename_i ws hS;obtain⟨a',ha',xs,hx,la⟩:=sr.get hS;rw[ha]at ha';cases ha';exact⟨a,xs,rfl,.inl (SqL.of hx),fun l hl=>gK sr la post hl⟩
def iN:Fn
 |[.tup us],S=>some (.tup us,S)
 |[.ref l],S=>match S[l]? with
  |some (.lst us)=>some (.tup us,S)
  |_=>none
 |_,_=>none
theorem lB:oM K (fun xs H Q=>∃p ys,xs=[.ref p]/\((SqL K H p ys/\∀l,H l=none->Q (.ref l) (upd H l (.tup ys)))\/(SqT K H p ys/\Q (.ref p) H))) iN:=by
 intro m S H us vs u S' Q sr i hf post;match us,hf with
 |[.tup ws],hf=>
  cases hf;obtain⟨v,rfl,iv⟩:=i.one;obtain⟨a,xs,rfl,sa,la⟩:=iv.of_tup;exact⟨a,xs,rfl,.inr ⟨sa,post m _ H .refl sr iv⟩⟩
 |[.ref l],hf=>
  obtain⟨v,rfl,iv⟩:=i.one;obtain⟨a,ha,rfl⟩:=iv.of_ref;simp only[iN]at hf;split at hf<;>try cases hf
  rename_i ws hS;obtain⟨a',ha',xs,hx,la⟩:=sr.get hS;rw[ha]at ha';cases ha';exact⟨a,xs,rfl,.inl ⟨SqL.of hx,fun l hl=>tx sr la post hl⟩⟩
def Sj:Fn
 |[.int i],S=>some (.int i,S)
 |[.bl b],S=>some (.int (if b then 1 else 0),S)
 |_,_=>none
def qU:Fn
 |[.int i],S=>if i.natAbs.log2<1920 then some (.str (toString i),S)else none
 |_,_=>none
theorem uP:oM K (fun xs H Q=>∃i,xs=[.int i]/\i.natAbs.log2<1920/\Q (.str (toString i)) H) qU:=by
 intro m S H us vs u S' Q sr i hf post;match us,hf with
 |[.int j],hf=>
  simp only[qU]at hf;split at hf<;>try cases hf
  rename_i hl;obtain⟨v,rfl,iv⟩:=i.one;exact⟨j,by rw[iv.of_int],hl,post m _ H .refl sr .str_⟩
def Ql:Fn
 |[.int i,.int j],S=>some (.int (if j<i then j else i),S)
 |_,_=>none
theorem PJ:oM K (fun xs H Q=>∃i j,xs=[.int i,.int j]/\Q (.int (if j<i then j else i)) H) Ql:=by
 intro m S H us vs u S' Q sr i hf post;match us,hf with
 |[.int j,.int k],hf=>
  cases hf;obtain⟨v,w,rfl,iv,iw⟩:=i.two;exact⟨j,k,by rw[iv.of_int,iw.of_int],post m _ H .refl sr .int_⟩
def Ea:List U->Option (List Int)
 |[]=>some []
 |.int i::r=>(Ea r).map (i::·)
 |_=>none
def Cv:List U->Option (List Bool)
 |[]=>some []
 |.bl i::r=>(Cv r).map (i::·)
 |_=>none
theorem yn:∀{us:List U} {ns:List Int},Ea us=some ns->us=ns.map U.int
 |[],ns,h=>by cases h;rfl
 |u::r,ns,h=>by
  cases u<;>simp only[Ea]at h<;>try cases h
  obtain⟨ms,e,h⟩:=X2.mp h;subst h;rw[yn e];rfl
theorem B0:∀{us:List U} {ns:List Bool},Cv us=some ns->us=ns.map U.bl
 |[],ns,h=>by cases h;rfl
 |u::r,ns,h=>by
  cases u<;>simp only[Cv]at h<;>try cases h
  obtain⟨ms,e,h⟩:=X2.mp h;subst h;rw[B0 e];rfl
theorem t6:∀(ns:List Bool),Cv (ns.map U.bl)=some ns
 |[]=>rfl
 |n::r=>by simp[Cv,t6 r]
theorem IsL.ints{m:List Addr}{H:Hp}:∀{xs:List V} {ns:List Int},IsL K m H xs (ns.map U.int)->xs=ns.map V.int
 |xs,[],h=>h.of_nil
 |xs,n::ns,h=>by
  obtain⟨x,r,rfl,i,t⟩:=h.of_cons;rw[IsL.ints t,i.of_int];rfl
theorem IsL.bls{m:List Addr}{H:Hp}:∀{xs:List V} {ns:List Bool},IsL K m H xs (ns.map U.bl)->xs=ns.map V.bl
 |xs,[],h=>h.of_nil
 |xs,n::ns,h=>by
  obtain⟨x,r,rfl,i,t⟩:=h.of_cons;rw[IsL.bls t,i.of_bl];rfl
theorem oS{m:List Addr}{H:Hp}:∀(ns:List Int),IsL K m H (ns.map V.int) (ns.map U.int)
 |[]=>.nil_
 |n::ns=>.cons_ .int_ (oS ns)
def FC:Fn
 |[.ref l],S=>match S[l]? with
  |some (.lst us)=>(Cv us).bind fun bs=>some (.bl (bs.all id),S)
  |_=>none
 |_,_=>none
theorem LR:oM K (fun xs H Q=>∃(p:Addr) (bs:List Bool),xs=[.ref p]/\SqL K H p (bs.map V.bl)/\Q (.bl (bs.all id)) H) FC:=by
 intro m S H us vs u S' Q sr i hf post;match us,hf with
 |[.ref l],hf=>
  obtain⟨v,rfl,iv⟩:=i.one;obtain⟨a,ha,rfl⟩:=iv.of_ref;simp only[FC]at hf;split at hf<;>try cases hf
  rename_i ws hS;obtain⟨bs,hb,h⟩:=Z0.mp hf;cases h;obtain⟨a',ha',xs,hx,la⟩:=sr.get hS;rw[ha]at ha';cases ha';rw[B0 hb]at la;rw[la.bls]at hx;exact⟨a,bs,rfl,SqL.of hx,post m _ H .refl sr .bl_⟩
inductive Ty where
 |non|bool|int|str|tuple|list|dict
def Ty.nm:Ty->String
 |.non=>"NoneType"|.bool=>"bool"|.int=>"int"|.str=>"str"|.tuple=>"tuple"|.list=>"list"|.dict=>"dict"
def tyU:U->Sto->Option Ty
 |.non,_=>some .non|.bl _,_=>some .bool|.int _,_=>some .int|.str _,_=>some .str|.tup _,_=>some .tuple
 |.ref l,S=>match S[l]? with
  |some (.lst _)=>some .list
  |some (.dic _)=>some .dict
  |_=>none
 |.kl _,_=>none
def Kz:Ty->Ty->Bool
 |.non,.non=>true|.bool,.bool=>true|.bool,.int=>true|.int,.int=>true|.str,.str=>true|.tuple,.tuple=>true|.list,.list=>true|.dict,.dict=>true
 |_,_=>false
theorem qj(a b:Ty)(hb:b≠.non):PySem.W.kitOne K (.type a.nm) (.type b.nm)=some (Kz a b):=by
 cases b<;>first|exact absurd rfl hb|(cases a<;>rfl)
abbrev Sh(K:Z6):List V->Hp->VK->Prop:=fun xs H Q=>(∃(x:V) (T:String) (t:Z7) (k:Bool),xs=[x,.ty T]/\yF K H x t/\PySem.W.kitOne K t (.type T)=some k/\Q (.bl k) H)\/
 ∃(a:Addr) (ys:List V) (T:String) (k:Bool),xs=[.ref a,.ty T]/\SqT K H a ys/\PySem.W.kitOne K (.type "tuple") (.type T)=some k/\Q (.bl k) H
theorem PU:gU X (.builtin "isinstance") (Sh X.K):=by
 refine xh.or ?_;rintro pins s σ H xs us Q I r ⟨a,ys,T,k,rfl,sq,e,q⟩;obtain⟨u,w',rfl,ru,rw'⟩:=yU r;cases rw';cases ru;obtain⟨its,rv,ht,hz⟩:=I.tuple sq;obtain⟨o,h1,h2,_⟩:=ht;exact PySem.W.kia_one PySem.W.kitx_tuple I.kIn ⟨o,h1,h2⟩ e (fun z=>nomatch z) fun tk=>⟨.bl k,H,I.tok tk,rfl,q⟩
def Cu(T:Ty)(ca:CE):CE:=fun ρ S=>(ca ρ S).bind fun p=>(tyU p.1 p.2).bind fun t=>some (.bl (Kz t T),p.2)
theorem AO{T:Ty}{e eT:ZC}{ca:CE}{p pos:Pos}(hT0:T≠.non)(he:QE X e ca)(hT:WE X eT (tC (.ty T.nm)))(hg:Gl X "isinstance")(hm:X.mg "isinstance"=none)
  (h1:ZX [e,eT] X.env=(false,eval e X.env)::ZX [eT] X.env:=by rfl) (h2:ZX [eT] X.env=(false,eval eT X.env)::ZX [] X.env:=by rfl) (hpl:(Zf pos (ZX [eT] X.env)).any (·.1)=false:=by rfl) :
  QE X (.Call (.Name "isinstance" p) [e,eT] [] pos) (Cu T ca):=(lX PU hg hm OG.ib (cZ he (cZ hT jE h2) h1) (by decide) (by decide) h1 hpl).imp fun σ H Q hz=>qC hz fun m ρ S u S' sr lr hc post=>by
 obtain⟨⟨x,S1⟩,h1,h2⟩:=Z0.mp hc;obtain⟨t,ht,h3⟩:=Z0.mp h2;cases h3;refine⟨m,ρ,S,x,_,sr,lr,h1,fun m1 v1 H1 e1 sr1 i1=>?_⟩;have fin:=post m1 _ H1 e1 sr1 (Is.bl_ (b:=Kz t T));cases x with
 |non=>cases ht;rw[i1.of_non];exact .inl ⟨_,_,_,_,rfl,.non,qj .non T hT0,fin⟩
 |bl b=>cases ht;rw[i1.of_bl];exact .inl ⟨_,_,_,_,rfl,.bl b,qj .bool T hT0,fin⟩
 |int i=>cases ht;rw[i1.of_int];exact .inl ⟨_,_,_,_,rfl,.int i,qj .int T hT0,fin⟩
 |str i=>cases ht;rw[i1.of_str];exact .inl ⟨_,_,_,_,rfl,.str i,qj .str T hT0,fin⟩
 |tup us=>
  cases ht;obtain⟨a,xs,rfl,sa,la⟩:=i1.of_tup;exact .inr ⟨a,xs,_,_,rfl,sa,qj .tuple T hT0,fin⟩
 |ref l=>
  obtain⟨a,ha,rfl⟩:=i1.of_ref;simp only[tyU]at ht;split at ht<;>try cases ht
  ·rename_i ws hS;obtain⟨a',ha',xs,hx,la⟩:=sr1.get hS;rw[ha]at ha';cases ha';exact .inl ⟨_,_,_,_,rfl,.lst hx,qj .list T hT0,fin⟩
  ·rename_i ws hS;obtain⟨a',ha',xs,hx,la⟩:=sr1.get hS;rw[ha]at ha';cases ha';exact .inl ⟨_,_,_,_,rfl,.dK hx,qj .dict T hT0,fin⟩
 |kl ns=>cases ht
def cBM(f:U->List U->Sto->Option (U×Sto))(co:CE)(cr:CA):CE:=fun ρ S=>(co ρ S).bind fun p=>match p.1 with
 |.ref l=>match p.2[l]? with
  |some (.lst _)=>(cr ρ p.2).bind fun q=>f p.1 q.1 q.2
  |_=>none
 |_=>none
def MtP(K:Z6)(r:V->List V->Hp->VK->Prop)(f:U->List U->Sto->Option (U×Sto)):Prop:=
 ∀m S H x v us vs u S' Q,Sr K m S H->Is K m H v x->IsL K m H vs us->f x us S=some (u,S')->mE K m H Q u S'->r v vs H Q
theorem BZ{r:V->List V->Hp->VK->Prop}{f:U->List U->Sto->Option (U×Sto)}{co:CE}{cr:CA}(hp:MtP K r f):∀σ H Q,tE K (cBM f co cr) σ H Q->tBM K "list" r (tE K co) (tA K cr) σ H Q:=by
 rintro σ H Q ⟨m,ρ,S,u,S',sr,lr,hc,post⟩;obtain⟨⟨x,S1⟩,h1,h2⟩:=Z0.mp hc;refine⟨m,ρ,S,x,S1,sr,lr,h1,fun m1 v1 H1 e1 sr1 i1=>?_⟩;cases x with
 |ref l=>
  simp only at h2;split at h2<;>try cases h2
  rename_i ws hS;obtain⟨⟨us,S2⟩,h3,h4⟩:=Z0.mp h2;obtain⟨a,ha,rfl⟩:=id i1.of_ref;obtain⟨a',ha',xs,hx,la⟩:=sr1.get hS;rw[ha]at ha';cases ha';exact⟨.inl ⟨rfl,xs,SqL.of hx⟩,m1,ρ,S1,us,S2,sr1,lr.mono e1,h3,fun m2 vs H2 e2 sr2 i2=>hp m2 S2 H2 _ _ us vs u S' Q sr2 (i1.mono e2) i2 h4 (post.mono (e1.trans e2))⟩
 |_=>simp at h2
def cN:U->List U->Sto->Option (U×Sto)
 |.ref l,[u],S=>match S[l]? with
  |some (.lst us)=>if us.length<LIM then some (.non,S.set l (.lst (us++[u])))else none
  |_=>none
 |_,_,_=>none
theorem DU:MtP K AL cN:=by
 intro m S H x v us vs u S' Q sr ix i hf post;match x,us,hf with
 |.ref l,[w],hf=>
  simp only[cN]at hf;split at hf<;>try cases hf
  rename_i ws hS;split at hf<;>try cases hf
  rename_i hl;obtain⟨a,ha,rfl⟩:=ix.of_ref;obtain⟨a',ha',xs,hx,la⟩:=sr.get hS;rw[ha]at ha';cases ha';obtain⟨y,rfl,iy⟩:=i.one;have eu:Ext K m H m (upd H a (.lst (xs++[y]))):=.of (sr.keep ha _);exact⟨a,xs,y,rfl,rfl,hx,NA (by rw[la.length];exact hl),post m _ _ eu (sr.put ha ⟨_,bx,(la.append (.cons_ iy .nil_)).mono eu⟩) .non_⟩
variable{e:ZC}{es:List ZC}{co:CE}{cr:CA}{o:ZC}{apos cpos:Pos}
theorem iI (ho : QE X o co) (ha : QA X (e :: es) cr) (hbase : attributeBase o "append" X.env (eval o X.env) = eval o X.env := by rfl) (hfew : ((Zf cpos (ZX (e :: es) X.env)).all (fun x => !x.1) && (backToKw cpos (keywordEach [] X.env)).all (fun x => x.1.isSome)
   && decide ((e::es).length+([]:List Keyword).length+(if ([]:List Keyword).isEmpty then 0 else 1)<30))=true:=by rfl) (hline:(apos.endLine == cpos.line)=true:=by rfl) (hs:ZX (e::es) X.env=(false,eval e X.env)::ZX es X.env:=by rfl) (hplain:(Zf cpos (ZX es X.env)).any (·.1)=false:=by rfl) :
  QE X (.Call (.Attribute o "append" apos) (e::es) [] cpos) (cBM cN co cr):=(uw PySem.F.plainAttrs_list PySem.F.slot_list_append PySem.F.type_list_append qd ho ha.h hbase hfew hline hs hplain).imp (BZ DU)
end
structure TC(K:Z6)(c:Cl)(NS:List Str):Prop where
 cl:Cls K c.C
 ns:c.ns=NS
 nas:∀f∈NS,kK K c.C f
section
variable{K:Z6}{c:Cl}{NS:List Str}
def TC.ix(T:TC K c NS){i:Nat}{f:Str}(h:NS[i]?=some f):c.ns[i]?=some f:=by rw[T.ns];exact h
def TC.na(T:TC K c NS)(i:Nat){f:Str}(h:NS[i]?=some f):kK K c.C f:=T.nas f (List.mem_of_getElem? h)
def TC.nm(T:TC K c NS){f:Str}(h:f∉NS):f∉c.ns:=by rw[T.ns];exact h
end
theorem _root_.L2.Fun.pure{P:ZS}{w:Zg}{K:Z6}{mg:Str->Option Z7}{base:Heap}{x qual:Str}{st:Zw}{f:Addr}{fd:X5}{N ps:List Str}{k:Nat}{c:CS}(F:Fun K x qual st f fd)(S:aG N ps (ay st))
  (hb:∀(cdv:Z7) (A:Za) (outer:List Env) (s:ZZ) (H:Hp) (E:XK),gS k (A.deeper (envOfC qual (ay st) s.heap.objs.size f cdv))->
   WSs (w9 CX0 P w K mg base N qual (ay st) f cdv A outer s H E).nox (dX st) (tS K c)):lU P w K mg base CX0 (k+1) f fd ps (Aw K (fnU N.length ps.length c)):=
 Fun.okW F S (fun vs H Q E h=>xO h) fun cdv A outer s H vs Q E hr h=>⟨_,hb cdv A outer s H E hr,Bq (X:=(w9 CX0 P w K mg base N qual (ay st) f cdv A outer s H E).nox) (body:=[]) (ps:=ps) rfl h⟩
def SI:Bool->Heap->Addr->Addr->Nat->Prop
 |true,h,it,a,i=>h.IsListIter it a i
 |false,h,it,a,i=>h.IsTupleIter it a i
def SA:Bool->Heap->Addr->Array Z7->Prop
 |true,h,a,xs=>h.IsList a xs
 |false,h,a,xs=>h.IsTuple a xs
theorem SI.at_{b:Bool}{h h':Heap}{it a:Addr}{i:Nat}(x:SI b h it a i)(k:∀o,h.get? it=some o->h'.get? it=some o):SI b h' it a i:=by
 cases b with
 |true=>obtain⟨o,e,r⟩:=x;exact⟨o,k o e,r⟩
 |false=>obtain⟨o,e,r⟩:=x;exact⟨o,k o e,r⟩
theorem SA.at_{b:Bool}{h h':Heap}{a:Addr}{xs:Array Z7}(x:SA b h a xs)(k:∀o,h.get? a=some o->h'.get? a=some o):SA b h' a xs:=by
 cases b with
 |true=>obtain⟨o,e,r⟩:=x;exact⟨o,k o e,r⟩
 |false=>obtain⟨o,e,r⟩:=x;exact⟨o,k o e,r⟩
theorem SI.obj{b:Bool}{h:Heap}{it a:Addr}{i:Nat}(x:SI b h it a i):∃o,h.get? it=some o/\∀v,o.data≠.cell v:=by
 cases b with
 |true=>obtain⟨o,e,c,d⟩:=x;exact⟨o,e,fun v z=>by rw[d]at z;cases z⟩
 |false=>obtain⟨o,e,c,d⟩:=x;exact⟨o,e,fun v z=>by rw[d]at z;cases z⟩
theorem SA.lt{b:Bool}{h:Heap}{a:Addr}{xs:Array Z7}(x:SA b h a xs):a<h.objs.size:=by
 cases b with
 |true=>obtain⟨o,e,_⟩:=x;exact ZF e
 |false=>obtain⟨o,e,_⟩:=x;exact ZF e
section
variable{prog:ZS}{w:Zg}{A:Za}{E:Z7->ZZ->Prop}{s:ZZ}
theorem C3{I t:Addr}{j:Nat}{ys:Array Z7}{y:Z7}{Q:Z7->ZZ->Prop}(hI:s.heap.IsTupleIter I t j)(hT:s.heap.IsTuple t ys)(hy:ys[j]?=some y)
  (k:∀h',h'.IsTupleIter I t (j+1)->Heap.SameBut I s.heap h'->Q y { s with heap:=h' }):wpAny (Zv prog w) A (Builtin.SmallTypes.nextOf (.ref I)) Q E s:=by
 obtain⟨oi,gi,ci,di⟩:=id hI;obtain⟨ot,gt,_,nt,dt⟩:=hT;unfold Builtin.SmallTypes.nextOf;refine ZQ (wpAny_callSpecial?_slot (name:=Str.ofString "__next__") hI.typeIs PySem.F.slot_tuple_iterator_next (wpAny_call_entry PySem.F.slot_tuple_iterator_next hI.typeIs PySem.F.entry_tuple_iterator_next ?_ (PySem.F.args_tuple_iterator_next_1 _)));show wpAny _ _ (field (.ref I) 0 >>= _) _ _ s;refine ZQ (XJ gi di (x:=.ref t) rfl ?_);show wpAny _ _ (ite ((Value.ref t == Value.none)=true) _ _) _ _ s;rw[if_neg (by exact ZL)];show wpAny _ _ (field (.ref I) 1 >>= _) _ _ s;refine ZQ (XJ gi di (x:=.int j 0) rfl ?_);show wpAny _ _ (seqItems? (.ref t) >>= _) _ _ s;refine ZQ (wpAny_seqItems gt dt ?_);simp only[hy,Int.toNat_natCast];refine ZQ (wpAny_setField gi di (by simp) (ZO ⟨y,rfl,ZO (k _ ⟨_,Heap.get?_update_self _ gi (Obj.isFreed_of_fields (Obj.data_mapFields di _)),(Obj.cls_mapFields ..).trans ci,?_⟩ (Heap.SameBut.update ..))⟩));rw[Obj.data_mapFields di];simp[rawInt]
theorem uC{I t:Addr}{j:Nat}{ys:Array Z7}{Q:Z7->ZZ->Prop}(hh:A.handled=none)(hI:s.heap.IsTupleIter I t j)(hT:s.heap.IsTuple t ys)(hy:ys[j]?=none)
  (k:∀h' e,Heap.ExtBut I s.heap h'->(∃o,h'.get? e=some o/\o.cls=.type "StopIteration")->E (.ref e) { s with heap:=h' }):wpAny (Zv prog w) A (Builtin.SmallTypes.nextOf (.ref I)) Q E s:=by
 obtain⟨oi,gi,ci,di⟩:=id hI;obtain⟨ot,gt,_,nt,dt⟩:=hT;unfold Builtin.SmallTypes.nextOf;refine ZQ (wpAny_callSpecial?_slot (name:=Str.ofString "__next__") hI.typeIs PySem.F.slot_tuple_iterator_next (wpAny_call_entry PySem.F.slot_tuple_iterator_next hI.typeIs PySem.F.entry_tuple_iterator_next ?_ (PySem.F.args_tuple_iterator_next_1 _)));show wpAny _ _ (field (.ref I) 0 >>= _) _ _ s;refine ZQ (XJ gi di (x:=.ref t) rfl ?_);show wpAny _ _ (ite ((Value.ref t == Value.none)=true) _ _) _ _ s;rw[if_neg (by exact ZL)];show wpAny _ _ (field (.ref I) 1 >>= _) _ _ s;refine ZQ (XJ gi di (x:=.int j 0) rfl ?_);show wpAny _ _ (seqItems? (.ref t) >>= _) _ _ s;refine ZQ (wpAny_seqItems gt dt ?_);simp only[hy,Int.toNat_natCast];refine ZQ (wpAny_rule (ZQ (wpAny_setField gi di (by simp) ?_)));show wpAny _ _ (newExc (.type "StopIteration") [] >>= _) _ _ _;simp only[newExc,newTuple];refine ZQ ?_;refine ZQ (wpAny_newObj_type ?_ (by(size_fits)));refine ZQ (m:=firstArgMember _ _) (wpAny_of_eq (a:=Value.none) (by simp only[firstArgMember]<;>rfl) ?_);refine wpAny_newObj_type ?_ (by(size_fits));simp only[raiseNew];refine ZQ (wpAny_handled ?_);rw[show A.in1.handled=none from hh];exact ZQ (ZO (wpAny_throw (k _ _ (((Heap.SameBut.update ..).extBut.push _).push _) ⟨_,Zy _ rfl,rfl⟩)))
theorem GK{b:Bool}{I t:Addr}{j:Nat}{ys:Array Z7}{y:Z7}{Q:Z7->ZZ->Prop}(hI:SI b s.heap I t j)(hT:SA b s.heap t ys)(hy:ys[j]?=some y)
  (k:∀h',SI b h' I t (j+1)->Heap.SameBut I s.heap h'->Q y { s with heap:=h' }):wpAny (Zv prog w) A (Builtin.SmallTypes.nextOf (.ref I)) Q E s:=by
 cases b with
 |true=>exact wpAny_nextOf_list_item hI hT hy k
 |false=>exact C3 hI hT hy k
theorem o9{b:Bool}{I t:Addr}{j:Nat}{ys:Array Z7}{Q:Z7->ZZ->Prop}(hh:A.handled=none)(hI:SI b s.heap I t j)(hT:SA b s.heap t ys)(hy:ys[j]?=none)
  (k:∀h' e,Heap.ExtBut I s.heap h'->(∃o,h'.get? e=some o/\o.cls=.type "StopIteration")->E (.ref e) { s with heap:=h' }):wpAny (Zv prog w) A (Builtin.SmallTypes.nextOf (.ref I)) Q E s:=by
 cases b with
 |true=>exact wpAny_nextOf_list_end hh hI hT hy k
 |false=>exact uC hh hI hT hy k
def itO(b:Bool)(a:Addr):Obj:={ cls:=.type (if b then "list_iterator" else "tuple_iterator"),data:=.fields #[.ref a,.int 0 0] }
theorem MD{b:Bool}{a i:Addr}{h:Heap}(e:h.get? i=some (itO b a)):SI b h i a 0:=by
 cases b with
 |true=>exact⟨_,e,rfl,rfl⟩
 |false=>exact⟨_,e,rfl,rfl⟩
end
def Sq(K:Z6):Bool->Hp->Addr->List V->Prop
 |true,H,a,xs=>SqL K H a xs
 |false,H,a,xs=>SqT K H a xs
section
variable{X:Cx}{pins:List (Addr×Obj)}{σ:L2.St}{H:Hp}{s:ZZ}{h':Heap}
theorem _root_.L2.Inv.turnedL{t':Nat}{ch:List Addr}(I:Inv X pins σ H s)(k:∀b o,b∉ch->s.heap.get? b=some o->h'.get? b=some o)(hf:∀b∈ch,zV X pins H b):Inv X pins σ H { s with heap:=h',toks:=t' }:=by
 have nit:∀b u,H b=some u->b∉ch:=fun b u e z=>by rw[(hf b z).1]at e;cases e
 refine I.step (g':=s.gens) (d':=s.drawn) (ch:=ch) (fun b hb=>⟨(hf b hb).2.2.2.1,(hf b hb).2.1,(hf b hb).2.2.2.2.1,(hf b hb).2.2.2.2.2⟩) (fun b o _ _ hc e _=>k b o hc e) (fun b o _ _ hc e _=>⟨o.slots,k b o hc e⟩) (fun _ _ _ _ n=>n)
  (fun b o hc e=>⟨o,k b o hc e⟩) (fun _ _ e=>e) (fun _ _ _ e=>e) (fun b ps e=>⟨#[],by rw[e];simp⟩) (fun m hm=>?_) (fun b u e=>?_) I.bare
 ·obtain⟨o,es,ep,ho,r⟩:=hm;exact⟨o,es,ep,k _ o (fun z=>(hf _ z).2.1 rfl) ho,r⟩
 ·refine(I.hok b u e).stay (fun c v hc q=>k c v ?_ q) (fun _ q=>q) fun _ _ q=>q;rcases hc with z|z
  ·rw[z];exact nit b u e
  ·exact nit c _ z
theorem _root_.L2.Inv.sq{b:Bool}{a:Addr}{xs:List V}(I:Inv X pins σ H s)(h:Sq X.K b H a xs):∃its:List Z7,cU xs its/\SA b s.heap a its.toArray:=by
 cases b with
 |true=>obtain⟨its,r,p,_⟩:=I.list h;exact⟨its,r,p.isList⟩
 |false=>obtain⟨its,r,p,_⟩:=I.tuple h;exact⟨its,r,p⟩
theorem _root_.L2.Inv.sq_inj{b:Bool}{a:Addr}{xs ys:List V}(I:Inv X pins σ H s)(h:Sq X.K b H a xs)(h2:Sq X.K b H a ys):xs=ys:=by
 cases b with
 |true=>exact I.list_inj h h2
 |false=>exact I.tuple_inj h h2
end
theorem Dw{h:Heap}{ob o:Obj}{e:Addr}(q:(h.push ob).get? e=some o)(ne:e≠h.objs.size):h.get? e=some o:=(Heap.get?_push_ne h e ob ne).symm.trans q
theorem DP{P:ZS}{w:Zg}{H:Hp}{h:Heap}{a:Addr}{x y:V}{u v:Z7}(e:h.get? a=some { cls:=.type "tuple",data:=.seq #[u,v] })(rx:eM x u)(ry:eM y v):d6 P w H h a (.tup [x,y]):=
 ⟨by show 2<=ZP;decide,[u,v],.cons rx (.cons ry .nil),⟨_,e,⟨rfl,rfl⟩,_,rfl⟩⟩
def GO:U->Sto->Option (List U×(Sto->Prop))
 |.tup us,_=>some (us,fun _=>True)
 |.ref l,S=>match S[l]? with
  |some (.lst us)=>some (us,fun S=>S[l]?=some (.lst us))
  |_=>none
 |_,_=>none
theorem KC{K:Z6}{m:List Addr}{S:Sto}{H:Hp}{u:U}{v:V}{us:List U}{ok:Sto->Prop}(sr:Sr K m S H)(iu:Is K m H v u)(h:GO u S=some (us,ok)) :
  ∃b a,v=.ref a/\(∃xs,Sq K b H a xs)/\∀m2 S2 H2,Ext K m H m2 H2->Sr K m2 S2 H2->ok S2->∃xs,Sq K b H2 a xs/\IsL K m2 H2 xs us:=by
 cases u with
 |tup ws=>
  cases h;obtain⟨a,xs,rfl,sq,il⟩:=iu.of_tup;exact⟨false,a,rfl,⟨xs,sq⟩,fun m2 S2 H2 e _ _=>⟨xs,e.keep.t _ _ sq,il.mono e⟩⟩
 |ref l=>
  simp only[GO]at h;split at h<;>try cases h
  rename_i us hS;obtain⟨a,ha,rfl⟩:=iu.of_ref;obtain⟨a',ha',xs,hx,il⟩:=sr.get hS;rw[ha]at ha';cases ha';refine⟨true,a,rfl,⟨xs,SqL.of hx⟩,fun m2 S2 H2 e sr2 hok=>?_⟩;obtain⟨a',ha',xs,hx,il⟩:=sr2.get hok;rw[e.get ha]at ha';cases ha';exact⟨xs,SqL.of hx,il⟩
 |_=>simp[GO]at h
theorem IL{b:Bool}{prog:ZS}{w:Zg}{A:Za}(hh:A.handled=none)(it a:Addr)(hne:a≠it)(ys:Array Z7) :
  Draws prog w A it [it,a] ys.size (fun i v=>ys[i]?=some v) (fun i h=>SI b h it a i/\SA b h a ys) where
 live:=fun _ _ st=>let ⟨o,ho,_⟩:=st.1.obj;⟨o,ho⟩
 frame:=fun _ _ _ st hk=>⟨st.1.at_ fun o e=>hk it (by simp) o e,st.2.at_ fun o e=>hk a (by simp) o e⟩
 item:=fun i s Q E hi st hQ=>GK st.1 st.2 (y:=ys[i]) (by simp[hi]) fun h' it' s'=>hQ _ h' s.toks (by simp[hi]) ⟨it',st.2.at_ fun o e=>s'.extBut _ _ hne e⟩ s'
 done:=fun s Q E st hE=>o9 hh st.1 st.2 (by simp) hE
structure ESt(b:Bool)(h:Heap)(e it a:Addr)(n:Nat):Prop where
 he:∃old,IsEnum h e it n old
 hi:SI b h it a n
theorem Bz(l:Addr)(ys:Array Z7)(n:Nat)(dct:Option Addr)(sl:Array (Option Z7)) :
  Meets (Builtin.«enumerate.__new__» ⟨[.type "enumerate",.ref l],[]⟩) (fun _ R s=>s.heap.get? l=some { cls:=.type "tuple",dict:=dct,data:=.seq ys n,slots:=sl }/\
   R (.ok (.ret (.ref (s.heap.push (itO false l)).objs.size))) { s with heap:=(s.heap.push (itO false l)).push { cls:=.type "enumerate",data:=.fields #[.none,.bool false,.ref s.heap.objs.size,rawInt 0,.none,.none] } }):=
 .of_wp fun prog w A R s q=>by
  obtain⟨hp,g,d,tk,os⟩:=s;obtain⟨gl,q⟩:=q;have sb:=sub_enumerate;have tl:Heap.IsTuple (Shared.heap ⟨hp,g,d,tk,os⟩) l ys:=⟨_,gl,rfl,n,rfl⟩
  wp_walk using wpAny_loadPart' gl
  refine wpAny_stack_any (fun st=>ZO ?_);split
  ·rename_i c _ _ _ _ _;cases (c == Value.type "enumerate")<;>(wp_walk using wpAny_loadPart' gl,wpAny_pyIter_tuple tl;exact⟨_,rfl,q⟩)
  ·wp_walk using wpAny_loadPart' gl,wpAny_pyIter_tuple tl
   exact⟨_,rfl,q⟩
theorem BA{b:Bool}{prog:ZS}{w:Zg}{A:Za}{E:Z7->ZZ->Prop}{s:ZZ}{a:Addr}{ys:Array Z7}{Q:Z7->ZZ->Prop}(ha:SA b s.heap a ys)
  (k:∀h' e it,e≠it->s.heap.objs.size<=e->s.heap.objs.size<=it->ESt b h' e it a 0->(∀c o,s.heap.get? c=some o->h'.get? c=some o)->Q (.ref e) { s with heap:=h' }) :
  wpAny (Zv prog w) A (call (.type "enumerate") [.ref a]) Q E s:=by
 cases b with
 |true=>exact call_enumerate_list ha fun h' e1 e2 sz up=>k h' _ _ (by omega) (Nat.le_add_right _ _) (ZD _) ⟨⟨_,e1⟩,e2⟩ up
 |false=>
  obtain⟨⟨c,dct,dt,sl⟩,gl,hc,n,hd⟩:=ha;simp only at hc hd;subst hc hd;refine callType_new PySem.F.called_enumerate (by decide) (PySem.F.typeCall_enumerate_1 _) (PySem.F.newCall_enumerate_1 _) (fun obj=>PySem.F.args_object_init_2 obj _) PySem.F.entry_enumerate_new (Bz a ys n dct sl) ⟨gl,?_⟩;have n1:(s.heap.push (itO false a)).objs.size=s.heap.objs.size+1:=Heap.size_push ..;have p2:=Zy (s.heap.push (itO false a)) (o:={ cls:=.type "enumerate",data:=.fields #[.none,.bool false,.ref s.heap.objs.size,rawInt 0,.none,.none] }) rfl;have p1:((s.heap.push (itO false a)).push { cls:=.type "enumerate",data:=.fields #[.none,.bool false,.ref s.heap.objs.size,rawInt 0,.none,.none] }).get? s.heap.objs.size=some (itO false a):=ZK _ (Zy _ rfl);rw[n1]at p2;show _/\_;rw[n1];exact⟨⟨_,p2,rfl⟩,k _ (s.heap.objs.size+1) s.heap.objs.size (Nat.ne_of_gt (Nat.lt_succ_self _)) (Nat.le_add_right _ _) (ZD _) ⟨⟨_,p2⟩,MD p1⟩ fun c o x=>ZK _ (ZK _ x)⟩
theorem Ep{b:Bool}{prog:ZS}{w:Zg}{A:Za}{E:Z7->ZZ->Prop}{s:ZZ}{e it a:Addr}{i:Int}{j:Nat}{ys:Array Z7}{old:Z7}{Q:Option Z7->ZZ->Prop}(hh:A.in1.handled=none)(he:IsEnum s.heap e it i old)(hi:SI b s.heap it a j)(ha:SA b s.heap a ys)(hx:ys[j]?=none)
  (k:∀h',Heap.ExtBut it s.heap h'->Q none { s with heap:=h' }):wpAny (Zv prog w) A (pyNext (.ref e)) Q E s:=by
 have ty:s.TypeIs (.ref e) "enumerate":=⟨_,he,rfl⟩;unfold pyNext;refine ZQ (wpAny_attempt (wpAny_callSpecial?_slot (name:=Str.ofString "__next__") ty PySem.F.slot_enumerate_next (wpAny_call_entry PySem.F.slot_enumerate_next ty PySem.F.entry_enumerate_next ?_ (PySem.F.args_enumerate_next_1 _))));show wpAny _ _ (field (.ref e) 2 >>= fun _=>_) _ _ _;refine ZQ (XJ he rfl (x:=.ref it) rfl (ZQ (o9 hh hi ha hx fun h' x he' hx'=>?_)));obtain⟨o,ho,co⟩:=hx';exact ZQ (wpAny_isInstance (T:="StopIteration") (b:=true) ⟨o,ho,co⟩ isSubtype_stop (ZO (k _ he')))
def Ite(K:Z6)(b:Bool)(a:Addr):It:=
  ⟨fun i H=>∃xs x,Sq K b H a xs/\xs[i]?=some x,
   fun i H v H'=>∃p x,v=.ref p/\H p=none/\H'=upd H p (.tup [.int i,x])/\∀xs,Sq K b H a xs->xs[i]?=some x,
   fun i H=>∃xs,Sq K b H a xs/\xs.length<=i⟩
theorem Am{P:ZS}{w:Zg}{K:Z6}{es:List ZC}{k:Nat}{pos:Pos}{b:Bool}{e it a:Addr}(ne:e≠it)(nae:a≠e)(nai:a≠it) :
  Jj P w K (.Tuple es k pos) (Ite K b a) [e,it] e (fun n h=>ESt b h e it a n) where
 mem:=by simp
 obj:=fun n h st c hc=>by
  obtain⟨⟨old,he⟩,hi⟩:=st;simp only[Zx,X9,or_false]at hc;rcases hc with rfl|rfl
  ·exact⟨_,he,fun v q=>by cases q⟩
  ·exact hi.obj
 keep:=fun n h h' st kp=>let ⟨old,he⟩:=st.he;⟨⟨old,kp e (by simp) _ he⟩,st.hi.at_ fun o q=>kp it (by simp) o q⟩
 item:=by
  intro X hP hw hK hc n pins s σ H E Iv hf st hg;subst hP hw hK;obtain⟨xs,x,qa,hx⟩:=hg;obtain⟨ia,ra,sa⟩:=Iv.sq qa;obtain⟨u,hu,ru⟩:=ra.get hx;obtain⟨⟨old,he⟩,hi⟩:=st;have hlt:n<ia.toArray.size:=by simpa using (Z9.mp hu).1
  refine wpAny_pyNext_enum_itemD (IL (b:=b) (show X.A.in1.handled=none from Iv.ok.hd hc) it a nai ia.toArray) he ⟨hi,sa⟩ hlt ne (by simp[ne,Ne.symm nae]) fun y h1 tk py out1 st1 T1 sz1 up1=>⟨_,rfl,wpAny_letOwnedTupleGo_enum out1 fun h2 e2 s2=>?_⟩;have ey:y=u:=by
   have p':ia.toArray[n]?=some y:=py;rw[List.getElem?_toArray,hu]at p';cases p';rfl
  subst ey;have hfr:H s.heap.objs.size=none:=Iv.hok.fresh (ZD _);have elt:e<s.heap.objs.size:=ZF he;have ilt:it<s.heap.objs.size:=by obtain⟨o,q,_⟩:=hi.obj;exact ZF q
  have sz:∀c∈[e,it],c<s.heap.objs.size:=fun c hc=>by
   simp only[Zx,X9,or_false]at hc;rcases hc with rfl|rfl
   ·exact elt
   ·exact ilt
  have T2:h2.get? s.heap.objs.size=some { cls:=.type "tuple",data:=.seq #[.int n tk,y] }:=s2.extBut _ _ (Nat.ne_of_gt elt) T1;have I1:Inv X pins σ (upd H s.heap.objs.size (.tup [.int n,x])) { s with heap:=s.heap.push { cls:=.type "tuple",data:=.seq #[.int n tk,y] },toks:=s.toks }:=
   Iv.laid (fun b o e=>ZK _ e) (ZD _) (DP (Zy _ rfl) ⟨tk,rfl⟩ ru)
  have fr2:∀c∈[e,it],(upd H s.heap.objs.size (.tup [.int n,x])) c=none:=fun c hc=>by rw[bN (Zj (sz c hc))];exact(hf c hc).1
  have I2:Inv X pins σ (upd H s.heap.objs.size (.tup [.int n,x])) { s with heap:=h2,toks:=tk+1 }:=
   Inv.turnedL (s:={ s with heap:=s.heap.push { cls:=.type "tuple",data:=.seq #[.int n tk,y] },toks:=s.toks }) (h':=h2) (t':=tk+1) (ch:=[e,it]) I1 (fun c o hn q=>by
    by_cases ce:c=s.heap.objs.size
    ·subst ce;have q':(s.heap.push { cls:=.type "tuple",data:=.seq #[.int n tk,y] }).get? s.heap.objs.size=some o:=q;rw[Zy _ rfl]at q';cases q';exact T2
    ·have q':s.heap.get? c=some o:=Dw q ce;simp only[Zx,X9,or_false,not_or]at hn;exact s2.extBut _ _ hn.1 (up1 c o hn.1 hn.2 q')) fun c hc=>⟨fr2 c hc,(hf c hc).2⟩
  refine⟨.ref s.heap.objs.size,_,I2,rfl,⟨_,x,rfl,hfr,rfl,fun xs' q=>by rw[Iv.sq_inj q qa];exact hx⟩,⟨⟨_,by simpa using e2⟩,st1.1.at_ fun o q=>s2.extBut _ _ (Ne.symm ne) q⟩,fr2⟩
 done:=by
  intro X hP hw hK hc n pins s σ H E Iv hf st hg;subst hP hw hK;obtain⟨xs,qa,hx⟩:=hg;obtain⟨ia,ra,sa⟩:=Iv.sq qa;have la:=ra.length;obtain⟨⟨old,he⟩,hi⟩:=st;refine Ep (show X.A.in1.handled=none from Iv.ok.hd hc) he hi sa (by simp;omega) fun h1 up1=>⟨rfl,?_⟩;exact Iv.turnedL (t':=s.toks) (ch:=[e,it]) (fun c o hn q=>by
   simp only[Zx,X9,or_false,not_or]at hn;exact up1 c o hn.2 q) hf
 self:=fun _ _ _ _ _ st h=>let ⟨old,he⟩:=st.he;wpAny_pyIter_enum he h
def MK(K:Z6)(ta:TA):TI:=fun σ H R=>ta σ H fun vs H2=>∃b a,vs=[.ref a]/\(∃xs,Sq K b H2 a xs)/\R (Ite K b a) H2
def BX:Zc "enumerate"=some (.type "enumerate"):=rfl
section
variable{X:Cx}{pos:Pos}
theorem Gz{es:List ZC}{k:Nat}{tp p:Pos}{a:ZC}{ta:TA}(hg:Gl X "enumerate")(hm:X.mg "enumerate"=none)(ha:WA X [a] ta)
  (hs:ZX [a] X.env=(false,eval a X.env)::ZX [] X.env:=by rfl) (hpl:(Zf pos (ZX [] X.env)).any (·.1)=false:=by rfl):WI X (.Tuple es k tp) (.Call (.Name "enumerate" p) [a] [] pos) (MK X.K ta):=by
 constructor;intro pins s σ H R I h;refine wpAny_Call_Name_kw (u9 I hg hm OP.BX ?_);refine PyProof.Rows.callWith_type1 (thn (ha.h pos pins s σ H _ I h) fun us s1 hz=>?_) hs hpl;obtain⟨vs,H1,I1,r1,q1⟩:=hz;obtain⟨b,aa,rfl,⟨xs,qa⟩,q⟩:=q1;obtain⟨u,rfl,ru⟩:=oj r1;cases ru;obtain⟨ia,ra,sa⟩:=I1.sq qa;refine BA sa fun h1 e it ne he hi st up=>?_;obtain⟨old,hE⟩:=st.he;refine wpAny_pyIter_enum hE ⟨e,[e,it],_,_,H1,rfl,I1.kept (t':=s1.toks) up,Am ne (Zj (Zz sa.lt he)) (Zj (Zz sa.lt hi)),st,fun c hc=>?_,q⟩;simp only[Zx,X9,or_false]at hc;rcases hc with rfl|rfl
 ·exact I1.fpOk he (I1.hok.fresh he)
 ·exact I1.fpOk hi (I1.hok.fresh hi)
def zE(us:List U):List U:=us.zipIdx.map fun p=>.tup [.int p.2,p.1]
def zq(ca:CE):CI:=fun ρ S=>(ca ρ S).bind fun p=>(GO p.1 p.2).bind fun x=>some (zE x.1,x.2,p.2)
theorem AM{es:List ZC}{k:Nat}{tp p:Pos}{a:ZC}{ca:CE}(hg:Gl X "enumerate")(hm:X.mg "enumerate"=none)(ha:QE X a ca)
  (hs:ZX [a] X.env=(false,eval a X.env)::ZX [] X.env:=by rfl) (hpl:(Zf pos (ZX [] X.env)).any (·.1)=false:=by rfl) :
  QI X (.Tuple es k tp) (.Call (.Name "enumerate" p) [a] [] pos) (zq ca):=(Gz hg hm (cZ ha jE hs) hs hpl).imp fun σ H R hz=>wY hz fun m ρ S us ok S' sr lr hf post=>by
 obtain⟨⟨x,S1⟩,h1,h⟩:=Z0.mp hf;obtain⟨⟨xs,okx⟩,h3,h⟩:=Z0.mp h;cases h;refine⟨m,ρ,S,x,_,sr,lr,h1,fun m1 v1 H1 e1 sr1 i1=>?_⟩;obtain⟨b,aa,rfl,q1,k1⟩:=KC sr1 i1 h3;refine⟨b,aa,rfl,q1,post m1 H1 _ e1 sr1 fun m3 S3 H3 i e3 sr3 hok=>?_⟩;obtain⟨vs,sq1,l1⟩:=k1 m3 S3 H3 e3 sr3 hok;have n1:=l1.length;refine⟨fun u hu=>?_,fun hi=>⟨vs,sq1,?_⟩⟩
 ·simp only[zE,Zk,X2,List.getElem?_zipIdx]at hu;obtain⟨⟨p,q⟩,⟨y,hp,e⟩,rfl⟩:=hu;cases e;obtain⟨vp,ep,ip⟩:=l1.getD hp;refine⟨⟨vs,vp,sq1,ep⟩,fun v H4 hy=>?_⟩;obtain⟨r,x',rfl,hr,rfl,f1⟩:=hy;have:=f1 vs sq1;rw[ep]at this;cases this;have ee:Ext X.K m3 H3 m3 (upd H3 r (.tup [.int i,vp])):=.of (dc hr _);exact⟨ee,sr3.same (eQ hr _),.tup_ (SqT.of bx) (.cons_ (by simp only[Nat.zero_add];exact .int_) (.cons_ (ip.mono ee) .nil_))⟩
 ·simp only[zE,ZN,List.length_zipIdx]at hi;omega
def qc:List (CE×CE)->Rho->Sto->Option (List (Key×U)×Sto)
 |[],_,S=>some ([],S)
 |(ck,cv)::r,ρ,S=>(ck ρ S).bind fun p=>(cv ρ p.2).bind fun q=>(oR p.1).bind fun k=>(qc r ρ q.2).bind fun z=>some ((k,q.1)::z.1,z.2)
def Mj(kus:List (Key×U))(au:List (Key×U)):List (Key×U):=kus.foldl (fun acc kv=>tu acc kv.1 kv.2) au
def A1(kus:List (Key×U)):List (Key×U):=Mj kus []
def M6(prs:List (CE×CE)):CE:=fun ρ S=>(qc prs ρ (S++[.dic []])).bind fun q=>match q.2[S.length]? with
 |some (.dic [])=>some (.ref S.length,q.2.set S.length (.dic (A1 q.1)))
 |_=>none
end
theorem vd:∀{vs:List Z7} {ns:List Int},IntsAre vs ns->cU (ns.map V.int) vs
 |_,_,.nil=>.nil
 |_,_,.cons n t r=>.cons ⟨t,rfl⟩ (vd r)
theorem jF:∀{ns:List Int} {vs:List Z7},cU (ns.map V.int) vs->IntsAre vs ns
 |[],_,h=>by cases h;exact .nil
 |n::ns,_,.cons r t=>by
  obtain⟨k,rfl⟩:=r;exact .cons n k (jF t)
def AK(K:Z6):List V->Hp->VK->Prop:=fun xs H Q=>∃(p:Addr) (ns:List Int),xs=[.ref p]/\(SqL K H p (ns.map V.int)\/∃kvs,H p=some (.dK kvs)/\kvs.map (·.1)=ns.map Sum.inl)/\ns.length<64/\
 ∀(l:Addr) (ms:List Int),H l=none->ms.Perm ns->ms.Pairwise (·<=·)->Q (.ref l) (upd H l (.lst (ms.map V.int)))
theorem A6{κ:Type}:∀{kvs:List (κ×V)} {vs:List (κ×Z7)},KV kvs vs->vs.map (·.1)=kvs.map (·.1)
 |_,_,.nil=>rfl
 |_,_,.cons r t=>by rw[ZG,ZG,A6 t,r.1]
theorem A2{P:ZS}{w:Zg}{H:Hp}{h:Heap}{a:Addr}{ms:List Int}{out:Array Z7}{e:Nat}(g:h.get? a=some (seqObj "list" out e))(hI:IntsAre out.toList ms)(hl:ms.length<64):d6 P w H h a (.lst (ms.map V.int)):=
 ⟨by rw[ZN];exact Nat.le_of_lt (Zz hl (by unfold ZP;decide)),out.toList,e,vd hI,by rw[Array.toArray_toList];exact g⟩
theorem DX{X:Cx}(hc:X.calm=true):gU X (.builtin "sorted") (AK X.K):=by
 rintro pins s σ H xs us Q I r ⟨p,ns,rfl,src,h64,q⟩;obtain⟨u,rfl,ru⟩:=oj r;cases ru;rcases src with hL|⟨kvs,hD,hk⟩
 ·obtain⟨its,rv,pl,hz⟩:=I.list hL;have hI:=jF rv;have hlen:=rv.length;rw[ZN]at hlen;refine sorted_ints pl.isList hI (by omega) fun out ms a1 a2 a3=>?_;obtain⟨e,ge⟩:=sortedAll_at s.heap its out;have hf:=I.hok.fresh (Nat.le_succ s.heap.objs.size);exact⟨.ref (s.heap.objs.size+1),_,I.laid (t':=s.toks) (fun b o e=>sortedAll_old e) (Nat.le_succ _) (A2 ge a1 (by rw[a2.length_eq];exact h64)),rfl,q _ ms hf a2 a3⟩
 ·obtain⟨z,hd,vs,rel,dd⟩:=MX I.hok hD;obtain⟨ep,da⟩:=dd.dictAt;have lkv:kvs.length=ns.length:=by have:=congrArg List.length hk;simpa using this
  have lv:vs.length=ns.length:=by rw[<-Paired.length rel];exact lkv
  have ks:vs.map (·.1)=ns.map Sum.inl:=by
   rw[<-hk];exact A6 rel
  refine Calls.call_function_entry kind_sorted plain_sorted entry_sorted (args_sorted1 _) ?_;unfold Builtin.«sorted»;refine ZQ (m:=checkCount "sorted" 1 1 _) (ZO (ZQ (PySem.W.kdu_collect (PySem.W.kdl_dict (kvs:=vs) (ep:=ep) hd) (show X.A.in1.handled=none from I.ok.hd hc) da (by rw[lv,<-lkv];exact z) fun h1 tk acc up hac=>?_)));have hla:acc.toList.length=ns.length:=by rw[Array.length_toList,hac.1,lv]
  have hI:IntsAre acc.toList ns:=by
   have key:∀(i:Nat) (v:Z7),acc.toList[i]?=some v->∃(n:Int) (t:Tok),ns[i]?=some n/\v=Value.int n t:=fun i v e=>by
    obtain⟨k,x,e1,e2⟩:=hac.2 i v (by rw[<-Array.getElem?_toList];exact e);have e3:(vs.map (·.1))[i]?=some k:=by rw[Zk,e1];rfl
    rw[ks,Zk]at e3;obtain⟨n,e4,e5⟩:=X2.mp e3;subst e5;rcases cL (k:=Sum.inl n) e2 with⟨j,t,e6,e7⟩|⟨j,t,e6,e7⟩
    ·cases e6;exact⟨n,t,e4,e7⟩
    ·cases e6
   clear hac;generalize acc.toList=L at key hla;clear ks lv lkv h64 q hk;induction L generalizing ns with
   |nil=>cases ns with
    |nil=>exact .nil
    |cons a b=>simp at hla
   |cons a b ih=>cases ns with
    |nil=>simp at hla
    |cons c d=>
     obtain⟨n,t,e1,e2⟩:=key 0 a (by simp);simp at e1;subst e1;subst e2;exact .cons _ t (ih _ (fun i v e=>by have:=key (i+1) v (by simpa using e);simpa using this) (by simpa using hla))
  refine ZQ (wpAny_newList ?_ (by rw[hla,<-lkv];exact z));have gL:(h1.push { cls:=.type "list",data:=.seq acc.toList.toArray }).get? h1.objs.size=some (seqObj "list" acc.toList.toArray 0):=Zy _ rfl;refine ZQ (wpAny_holding (wpAny_call_entry slot_list_sort ⟨_,gL,rfl⟩ entry_list_sort (list_sort_tree (s:={ s with heap:=h1.push { cls:=.type "list",data:=.seq acc.toList.toArray },toks:=tk }) gL hI (by omega) fun out ms a1 a2 a3=>⟨_,rfl,?_⟩) (args_list_sort _)));obtain⟨e,ge⟩:=sortedHeap_at (out:=out) gL;have I1:Inv X pins σ H { s with heap:=h1,toks:=tk }:=I.kept up;have hf:=I1.hok.fresh (ZD h1.objs.size);refine ZO ⟨_,rfl,.ref h1.objs.size,_,Inv.laid (s:={ s with heap:=h1,toks:=tk }) (h':=sortedHeap (h1.push { cls:=.type "list",data:=.seq acc.toList.toArray }) h1.objs.size acc.toList out) (t':=tk) I1 (fun b o g1=>?_) (ZD _) (A2 ge a1 (by rw[a2.length_eq];exact h64)),rfl,q _ ms hf a2 a3⟩;have g1:h1.get? b=some o:=g1;have lt1:=ZF g1;rw[sortedHeap_old (Zj lt1) (by rw[Heap.size_push];exact Nat.lt_succ_of_lt lt1)];exact ZK _ g1
def oo(ns:List Int):List Int:=ns.mergeSort (fun a b=>decide (a<=b))
def mM(ns:List Int):(oo ns).Perm ns:=List.mergeSort_perm ..
theorem uG(ns:List Int):(oo ns).Pairwise (·<=·):=by
 have:=List.pairwise_mergeSort (le:=fun(a b:Int)=>decide (a<=b)) (fun a b c h1 h2=>by simp at h1 h2 ⊢;omega) (fun a b=>by simp;omega) ns;exact this.imp fun h=>by simpa using h
theorem xP{ns ms:List Int}(p:ms.Perm ns)(s:ms.Pairwise (·<=·)):ms=oo ns:=PySem.W.lks_uniq (p.trans (mM ns).symm) s (uG ns)
def zo:List (Key×U)->Option (List Int)
 |[]=>some []
 |(.inl n,_)::r=>(zo r).map (n::·)
 |_=>none
theorem yf:∀{kus:List (Key×U)} {ns:List Int},zo kus=some ns->kus.map (·.1)=ns.map Sum.inl
 |[],ns,h=>by cases h;rfl
 |(k,u)::r,ns,h=>by
  cases k<;>simp only[zo]at h<;>try cases h
  obtain⟨ms,e,h⟩:=X2.mp h;subst h;simp[yf e]
def qw:Fn
 |[.ref l],S=>match S[l]? with
  |some (.lst us)=>(Ea us).bind fun ns=>if ns.length<64 then some (.ref S.length,S++[.lst ((oo ns).map U.int)])else none
  |some (.dic kus)=>(zo kus).bind fun ns=>if ns.length<64 then some (.ref S.length,S++[.lst ((oo ns).map U.int)])else none
  |_=>none
 |_,_=>none
theorem DS{K:Z6}:oM K (AK K) qw:=by
 intro m S H us vs u S' Q sr i hf post;match us,hf with
 |[.ref l],hf=>
  obtain⟨v,rfl,iv⟩:=i.one;obtain⟨a,ha,rfl⟩:=iv.of_ref;simp only[qw]at hf;split at hf<;>try cases hf
  ·rename_i ws hS;obtain⟨ns,hn,h⟩:=Z0.mp hf;split at h<;>try cases h
   have hc:ns.length<64:=by assumption
   obtain⟨a',ha',xs,hx,la⟩:=sr.get hS;rw[ha]at ha';cases ha';rw[yn hn]at la;rw[la.ints]at hx;refine⟨a,ns,rfl,.inl (SqL.of hx),hc,fun p ms hp pm sm=>?_⟩;rw[xP pm sm];exact gK sr (oS _) post hp
  ·rename_i ws hS;obtain⟨ns,hn,h⟩:=Z0.mp hf;split at h<;>try cases h
   have hc:ns.length<64:=by assumption
   obtain⟨a',ha',kvs,hx,ip⟩:=sr.get hS;rw[ha]at ha';cases ha';refine⟨a,ns,rfl,.inr ⟨kvs,hx,by rw[ip.1,yf hn]⟩,hc,fun p ms hp pm sm=>?_⟩;rw[xP pm sm];exact gK sr (oS _) post hp
section
variable{ρ:Rho}{S:Sto}{c1 c2:CS}{t ta tb:CT}{ca cb cc:CE}{cr:CA}{u x y:U}{us:List U}{i l:Nat}{f g:U->U->Sto->Option (U×Sto)}{b:Bool}
def Q7(S:Sto):Option (Option U)->Option (U×Sto)
 |some (some u)=>some (u,S)
 |_=>none
def NT:ao i ρ S=Q7 S (ρ[i]?):=rfl
def Jn:Q7 S (some (some u))=some (u,S):=rfl
def x_c:cC u ρ S=some (u,S):=rfl
def P8(f:U->U->Sto->Option (U×Sto))(x:U)(q:U×Sto):=f x q.1 q.2
def Rc(f:U->U->Sto->Option (U×Sto))(cb:CE)(ρ:Rho)(p:U×Sto):=(cb ρ p.2).bind (P8 f p.1)
def Nt:cOp f ca cb ρ S=(ca ρ S).bind (Rc f cb ρ):=rfl
def CD:Rc f cb ρ (x,S)=(cb ρ S).bind (P8 f x):=rfl
def FR:P8 f x (y,S)=f x y S:=rfl
def Mt:U×Sto->Option (Bool×Sto)
 |(.bl b,S)=>some (b,S)
 |_=>none
theorem Js:aL ca ρ S=(ca ρ S).bind Mt:=by
 unfold aL;congr 1;funext p;obtain⟨u,S⟩:=p;cases u<;>rfl
def FQ:Mt (.bl b,S)=some (b,S):=rfl
def Qi(tb:CT)(ρ:Rho)(p:Bool×Sto):=if p.1=true then tb ρ p.2 else some (false,p.2)
def kOr(tb:CT)(ρ:Rho)(p:Bool×Sto):=if p.1=true then some (true,p.2)else tb ρ p.2
def Rg(p:Bool×Sto):Option (Bool×Sto):=some (!p.1,p.2)
def O0:rD ta tb ρ S=(ta ρ S).bind (Qi tb ρ):=rfl
def J1:Qi tb ρ (true,S)=tb ρ S:=rfl
def J0:Qi tb ρ (false,S)=some (false,S):=rfl
def RH:cOr ta tb ρ S=(ta ρ S).bind (kOr tb ρ):=rfl
def N9:kOr tb ρ (true,S)=some (true,S):=rfl
def N8:kOr tb ρ (false,S)=tb ρ S:=rfl
def Oa:xi ta ρ S=(ta ρ S).bind Rg:=rfl
def JE:Rg (b,S)=some (!b,S):=rfl
def Ip(cb:CE)(ρ:Rho):U×Sto->Option (U×Sto)
 |(.bl true,S)=>cb ρ S
 |(.bl false,S)=>some (.bl false,S)
 |_=>none
def P7(cb:CE)(ρ:Rho):U×Sto->Option (U×Sto)
 |(.bl false,S)=>cb ρ S
 |(.bl true,S)=>some (.bl true,S)
 |_=>none
def Mw:U×Sto->Option (U×Sto)
 |(.bl b,S)=>some (.bl (!b),S)
 |_=>none
theorem JZ:lP ca cb ρ S=(ca ρ S).bind (Ip cb ρ):=by
 unfold lP;congr 1;funext p;obtain⟨u,S⟩:=p;cases u with
 |bl b=>cases b<;>rfl
 |_=>rfl
def F7:Ip cb ρ (.bl true,S)=cb ρ S:=rfl
def F6:Ip cb ρ (.bl false,S)=some (.bl false,S):=rfl
theorem N7:Rr ca cb ρ S=(ca ρ S).bind (P7 cb ρ):=by
 unfold Rr;congr 1;funext p;obtain⟨u,S⟩:=p;cases u with
 |bl b=>cases b<;>rfl
 |_=>rfl
def JC:P7 cb ρ (.bl false,S)=cb ρ S:=rfl
def JB:P7 cb ρ (.bl true,S)=some (.bl true,S):=rfl
theorem JD:EG ca ρ S=(ca ρ S).bind Mw:=by
 unfold EG;congr 1;funext p;obtain⟨u,S⟩:=p;cases u<;>rfl
def FT:Mw (.bl b,S)=some (.bl (!b),S):=rfl
def Bb(u:U)(q:List U×Sto):Option (List U×Sto):=some (u::q.1,q.2)
def Fo(cr:CA)(ρ:Rho)(p:U×Sto):=(cr ρ p.2).bind (Bb p.1)
def vK:aD ρ S=some ([],S):=rfl
def o7:ag ca cr ρ S=(ca ρ S).bind (Fo cr ρ):=rfl
def kN:Fo cr ρ (u,S)=(cr ρ S).bind (Bb u):=rfl
def kM:Bb u (us,S)=some (u::us,S):=rfl
def Q8(p:List U×Sto):Option (U×Sto):=some (.tup p.1,p.2)
def Rh(p:List U×Sto):Option (U×Sto):=some (.ref p.2.length,p.2++[.lst p.1])
def NU:jw cr ρ S=(cr ρ S).bind Q8:=rfl
def Jr:Q8 (us,S)=some (.tup us,S):=rfl
def JH:kr cr ρ S=(cr ρ S).bind Rh:=rfl
def EX:Rh (us,S)=some (.ref S.length,S++[.lst us]):=rfl
def kCB(f:Fn)(p:List U×Sto):=f p.1 p.2
def QL{f:Fn}:cCB f cr ρ S=(cr ρ S).bind (kCB f):=rfl
def JW{f:Fn}:kCB f (us,S)=f us S:=rfl
def Ri(T:Ty)(p:U×Sto):Option (U×Sto):=(tyU p.1 p.2).bind fun t=>some (.bl (Kz t T),p.2)
def Ow{T:Ty}:Cu T ca ρ S=(ca ρ S).bind (Ri T):=rfl
def JO{T:Ty}:Ri T (u,S)=(tyU u S).bind fun t=>some (.bl (Kz t T),S):=rfl
def Mu(c2:CS):Out×Rho×Sto->Option (Out×Rho×Sto)
 |(.nx,ρ,S)=>c2 ρ S
 |(o,ρ,S)=>some (o,ρ,S)
def Jt:bB ρ S=some (.nx,ρ,S):=rfl
theorem CB:aV c1 c2 ρ S=(c1 ρ S).bind (Mu c2):=by
 unfold aV;congr 1;funext p;obtain⟨o,ρ,S⟩:=p;cases o<;>rfl
def EW:Mu c2 (.nx,ρ,S)=c2 ρ S:=rfl
def Jy:Mu c2 (.rt u,ρ,S)=some (.rt u,ρ,S):=rfl
def Jx:Mu c2 (.bk,ρ,S)=some (.bk,ρ,S):=rfl
def Jw:Mu c2 (.ct,ρ,S)=some (.ct,ρ,S):=rfl
def My(ρ:Rho)(p:U×Sto):Option (Out×Rho×Sto):=some (.nx,ρ,p.2)
def Rb(ρ:Rho)(p:U×Sto):Option (Out×Rho×Sto):=some (.rt p.1,ρ,p.2)
def JT:cP ca ρ S=(ca ρ S).bind (My ρ):=rfl
def F2:My ρ (u,S)=some (.nx,ρ,S):=rfl
def vJ:cT ca ρ S=(ca ρ S).bind (Rb ρ):=rfl
def Jz:Rb ρ (u,S)=some (.rt u,ρ,S):=rfl
def P9(c1 c2:CS)(ρ:Rho)(p:Bool×Sto):=if p.1=true then c1 ρ p.2 else c2 ρ p.2
def yQ:dC t c1 c2 ρ S=(t ρ S).bind (P9 c1 c2 ρ):=rfl
def JQ:P9 c1 c2 ρ (true,S)=c1 ρ S:=rfl
def EY:P9 c1 c2 ρ (false,S)=c2 ρ S:=rfl
def kIf(ca cb:CE)(ρ:Rho)(p:Bool×Sto):=if p.1=true then ca ρ p.2 else cb ρ p.2
def RT:cIf t ca cb ρ S=(t ρ S).bind (kIf ca cb ρ):=rfl
def OB:kIf ca cb ρ (true,S)=ca ρ S:=rfl
def OA:kIf ca cb ρ (false,S)=cb ρ S:=rfl
def Q9(i:Nat)(ρ:Rho)(p:U×Sto):Option (Out×Rho×Sto):=some (.nx,ρ.set i (some p.1),p.2)
def vI:b5 i ca ρ S=(ca ρ S).bind (Q9 i ρ):=rfl
def EV:Q9 i ρ (u,S)=some (.nx,ρ.set i (some u),S):=rfl
def Io(q:Rho×Sto):Option (Out×Rho×Sto):=some (.nx,q.1,q.2)
def Rj(g:CG)(ρ:Rho)(p:U×Sto):=(g p.1 ρ p.2).bind Io
def OY{g:CG}:NI ca g ρ S=(ca ρ S).bind (Rj g ρ):=rfl
def JY{g:CG}:Rj g ρ (u,S)=(g u ρ S).bind Io:=rfl
def JX:Io (ρ,S)=some (.nx,ρ,S):=rfl
def OD:gNm i u ρ S=some (ρ.set i (some u),S):=rfl
def OC{is:List Nat}:gTp is (.tup us) ρ S=(jB is us ρ).bind fun ρ'=>some (ρ',S):=rfl
def J3:jB [] [] ρ=some ρ:=rfl
def J2{is:List Nat}:jB (i::is) (u::us) ρ=jB is us (ρ.set i (some u)):=rfl
def Mv(ρ:Rho)(S':Sto):Option (Out×Rho×Sto):=some (.nx,ρ,S')
def PZ(o v:U)(ρ:Rho)(r:U×Sto):=(qy o r.1 v r.2).bind (Mv ρ)
def P6(ci:CE)(v:U)(ρ:Rho)(q:U×Sto):=(ci ρ q.2).bind (PZ q.1 v ρ)
def kSI(co ci:CE)(ρ:Rho)(p:U×Sto):=(co ρ p.2).bind (P6 ci p.1 ρ)
def Ry:n6 ca cb cc ρ S=(cc ρ S).bind (kSI ca cb ρ):=rfl
def N2:kSI ca cb ρ (u,S)=(ca ρ S).bind (P6 cb u ρ):=rfl
def NZ:P6 cb y ρ (u,S)=(cb ρ S).bind (PZ u y ρ):=rfl
def NY:PZ x y ρ (u,S)=(qy x u y S).bind (Mv ρ):=rfl
def NX:Mv ρ S=some (.nx,ρ,S):=rfl
def kIx(y:U)(S:Sto):Option O->Option (U×Sto)
 | some (.lst us)=>(match y with
   |.int i=>(atI us i).bind fun u=>some (u,S)
   |_=>none)
 |some (.dic kus)=>(oR y).bind fun k=>(gG kus k).bind fun u=>some (u,S)
 |some (.fdc _ kus)=>(oR y).bind fun k=>(gG kus k).bind fun u=>some (u,S)
 |_=>none
def Oq{j:Int}:fIx (.tup us) (.int j) S=(atI us j).bind fun u=>some (u,S):=rfl
theorem Ot:fIx (.ref l) y S=kIx y S S[l]?:=by
 unfold fIx kIx;dsimp only<;>(generalize S[l]?=q;rcases q with _|o<;>first|rfl|(cases o<;>rfl))
def Ou{j:Int}:kIx (.int j) S (some (.lst us))=(atI us j).bind fun u=>some (u,S):=rfl
theorem RR{ep:Nat}{kus:List (Key×U)}:kIx y S (some (.fdc ep kus))=(oR y).bind fun k=>(gG kus k).bind fun u=>some (u,S):=rfl
def Ov{kus:List (Key×U)}:kIx y S (some (.dic kus))=(oR y).bind fun k=>(gG kus k).bind fun u=>some (u,S):=rfl
def NB(l:Nat)(i v:U)(S:Sto):Option O->Option Sto
 | some (.lst us)=>(match i with
   |.int k=>(ixN us.length k).bind fun j=>some (S.set l (.lst (us.set j v)))
   |_=>none)
 |some (.dic kus)=>(oR i).bind fun k=>if kus.length<LIM then some (S.set l (.dic (tu kus k v)))else none
 |_=>none
theorem NW:qy (.ref l) x y S=NB l x y S S[l]?:=by
 unfold qy NB;dsimp only<;>(generalize S[l]?=q;rcases q with _|o<;>first|rfl|(cases o<;>rfl))
theorem Ju{j:Int}:NB l (.int j) y S (some (.lst us))=(ixN us.length j).bind fun j=>some (S.set l (.lst (us.set j y))):=rfl
theorem Jv{kus:List (Key×U)}:NB l x y S (some (.dic kus))=(oR x).bind fun k=>if kus.length<LIM then some (S.set l (.dic (tu kus k y)))else none:=rfl
def at0{α:Type}{a:α}{r:List α}:atI (a::r) 0=some a:=by show atI _ ((0:Nat):Int)=_;exact nB rfl
def at1{α:Type}{a b:α}{r:List α}:atI (a::b::r) 1=some b:=by show atI _ ((1:Nat):Int)=_;exact nB rfl
def at2{α:Type}{a b c:α}{r:List α}:atI (a::b::c::r) 2=some c:=by show atI _ ((2:Nat):Int)=_;exact nB rfl
def at3{α:Type}{a b c d:α}{r:List α}:atI (a::b::c::d::r) 3=some d:=by show atI _ ((3:Nat):Int)=_;exact nB rfl
def ix0{n:Nat}:ixN (n+1) 0=some 0:=by simp[ixN]
def ix1{n:Nat}:ixN (n+1+1) 1=some 1:=by simp[ixN];omega
def ix2{n:Nat}:ixN (n+1+1+1) 2=some 2:=by simp[ixN];omega
def NF(S:Sto):Option O->Option (U×Sto)
 |some (.lst us)=>some (.int us.length,S)
 |some (.dic us)=>some (.int us.length,S)
 |_=>none
theorem JJ:fx [.ref l] S=NF S S[l]?:=by
 unfold fx NF;dsimp only<;>(generalize S[l]?=q;rcases q with _|o<;>first|rfl|(cases o<;>rfl))
def JK:NF S (some (.lst us))=some (.int us.length,S):=rfl
def JL{kus:List (Key×U)}:NF S (some (.dic kus))=some (.int kus.length,S):=rfl
def JI:fx [.tup us] S=some (.int us.length,S):=rfl
variable{j k:Int}
def O1:cX (.int j) (.int k) S=some (.int (j+k),S):=rfl
def NV:oG (.int j) (.int k) S=some (.int (j-k),S):=rfl
def JF(h:Cp j k):qz (.int j) (.int k) S=some (.int (j*k),S):=by simp[qz,fI,h]
def F3(h:zT j k):Em (.int j) (.int k) S=some (.int (j / k),S):=by simp[Em,fI,h]
def vL(h:0<k):uq (.int j) (.int k) S=some (.int (j % k),S):=by simp[uq,fI,h]
def N6(h:Jl j k):Je (.int j) (.int k) S=some (.int (j^k.toNat),S):=by simp[Je,fI,h]
def QK:fLt (.int j) (.int k) S=some (.bl (decide (j<k)),S):=rfl
def JM:fLe (.int j) (.int k) S=some (.bl (decide (j<=k)),S):=rfl
def RU:fGt (.int j) (.int k) S=some (.bl (decide (k<j)),S):=rfl
def RV:fGe (.int j) (.int k) S=some (.bl (decide (k<=j)),S):=rfl
def OJ:fEq (.int j) (.int k) S=some (.bl (decide (j=k)),S):=rfl
def Oe:fNe (.int j) (.int k) S=some (.bl (!decide (j=k)),S):=rfl
def OI{a c:Str}:fEq (.str a) (.str c) S=some (.bl (decide (a=c)),S):=rfl
def Oc{a c:Str}:fNe (.str a) (.str c) S=some (.bl (!decide (a=c)),S):=rfl
def OK{a c:Bool}:fEq (.bl a) (.bl c) S=some (.bl (decide (a=c)),S):=rfl
def Of{a c:Bool}:fNe (.bl a) (.bl c) S=some (.bl (!decide (a=c)),S):=rfl
def kFn:Out×Rho×Sto->Option (U×Sto)
 |(.rt u,_,S)=>some (u,S)
 |(.nx,_,S)=>some (.non,S)
 |_=>none
theorem uk{n k:Nat}(h:us.length=k):fnU n k c1 us S=(c1 (rL n us) S).bind kFn:=by
 unfold fnU;rw[if_pos h];congr 1;funext p;obtain⟨o,ρ,S⟩:=p;cases o<;>rfl
def qD{c:CS}{a0:U}{S:Sto}:fnU 1 1 c [a0] S=(c [some a0] S).bind kFn:=uk rfl
def w4{c:CS}{a0:U}{S:Sto}:fnU 2 1 c [a0] S=(c [some a0,none] S).bind kFn:=uk rfl
def oJ{c:CS}{a0 a1:U}{S:Sto}:fnU 2 2 c [a0,a1] S=(c [some a0,some a1] S).bind kFn:=uk rfl
def MT{c:CS}{a0:U}{S:Sto}:fnU 3 1 c [a0] S=(c [some a0,none,none] S).bind kFn:=uk rfl
def lG{c:CS}{a0 a1:U}{S:Sto}:fnU 3 2 c [a0,a1] S=(c [some a0,some a1,none] S).bind kFn:=uk rfl
def BC{c:CS}{a0 a1 a2:U}{S:Sto}:fnU 3 3 c [a0,a1,a2] S=(c [some a0,some a1,some a2] S).bind kFn:=uk rfl
def IH{c:CS}{a0:U}{S:Sto}:fnU 4 1 c [a0] S=(c [some a0,none,none,none] S).bind kFn:=uk rfl
def Qt{c:CS}{a0 a1:U}{S:Sto}:fnU 4 2 c [a0,a1] S=(c [some a0,some a1,none,none] S).bind kFn:=uk rfl
def Qs{c:CS}{a0 a1 a2:U}{S:Sto}:fnU 4 3 c [a0,a1,a2] S=(c [some a0,some a1,some a2,none] S).bind kFn:=uk rfl
theorem Qr{c:CS}{a0 a1 a2 a3:U}{S:Sto}:fnU 4 4 c [a0,a1,a2,a3] S=(c [some a0,some a1,some a2,some a3] S).bind kFn:=uk rfl
def Qq{c:CS}{a0 a1:U}{S:Sto}:fnU 5 2 c [a0,a1] S=(c [some a0,some a1,none,none,none] S).bind kFn:=uk rfl
def MS{c:CS}{a0 a1 a2:U}{S:Sto}:fnU 5 3 c [a0,a1,a2] S=(c [some a0,some a1,some a2,none,none] S).bind kFn:=uk rfl
def Eu{c:CS}{a0 a1:U}{S:Sto}:fnU 6 2 c [a0,a1] S=(c [some a0,some a1,none,none,none,none] S).bind kFn:=uk rfl
theorem Qp{c:CS}{a0 a1:U}{S:Sto}:fnU 8 2 c [a0,a1] S=(c [some a0,some a1,none,none,none,none,none,none] S).bind kFn:=uk rfl
theorem Qo{c:CS}{a0 a1 a2:U}{S:Sto}:fnU 8 3 c [a0,a1,a2] S=(c [some a0,some a1,some a2,none,none,none,none,none] S).bind kFn:=uk rfl
theorem Qn{c:CS}{a0 a1 a2 a3:U}{S:Sto}:fnU 8 4 c [a0,a1,a2,a3] S=(c [some a0,some a1,some a2,some a3,none,none,none,none] S).bind kFn:=uk rfl
theorem Qm{c:CS}{a0 a1 a2 a3 a4:U}{S:Sto}:fnU 9 5 c [a0,a1,a2,a3,a4] S=(c [some a0,some a1,some a2,some a3,some a4,none,none,none,none] S).bind kFn:=uk rfl
theorem MU{c:CS}{a0 a1 a2 a3:U}{S:Sto}:fnU 11 4 c [a0,a1,a2,a3] S=(c [some a0,some a1,some a2,some a3,none,none,none,none,none,none,none] S).bind kFn:=uk rfl
def OF:kFn (.rt u,ρ,S)=some (u,S):=rfl
def OE:kFn (.nx,ρ,S)=some (.non,S):=rfl
end
section
variable{ρ:Rho}{S:Sto}{t:CT}{ca cb cc:CE}{cr:CA}{u x:U}{us:List U}{i l:Nat}{b:Bool}{c:Cl}{fus:List (Option U)}{g:Fn}
open Classical in
def D8(c:Cl)(i:Nat)(S:Sto):Option O->Option (U×Sto)
 |some (.ins c' fus)=>if c'=c then(fus[i]?).join.bind fun u=>some (u,S)else none
 |_=>none
def Qa(c:Cl)(i:Nat)(p:U×Sto):=MP c i p.1 p.2
def OH:gh c i ca ρ S=(ca ρ S).bind (Qa c i):=rfl
theorem JS:Qa c i (.ref l,S)=D8 c i S S[l]?:=by
 unfold Qa MP D8;dsimp only<;>(generalize S[l]?=q;rcases q with _|o<;>first|rfl|(cases o<;>rfl))
theorem JR:D8 c i S (some (.ins c fus))=((fus[i]?).join).bind fun u=>some (u,S):=by
 unfold D8;dsimp only;rw[if_pos rfl]
open Classical in
def NC(c:Cl)(i l:Nat)(v:U)(S:Sto):Option O->Option Sto
 |some (.ins c' fus)=>if c'=c then some (S.set l (.ins c (fus.set i (some v))))else none
 |_=>none
def ND(c:Cl)(i:Nat)(v:U)(ρ:Rho)(q:U×Sto):=(Bt c i q.1 v q.2).bind (Mv ρ)
def Ra(c:Cl)(i:Nat)(ca:CE)(ρ:Rho)(p:U×Sto):=(ca ρ p.2).bind (ND c i p.1 ρ)
def Rz:fj c i ca cb ρ S=(cb ρ S).bind (Ra c i ca ρ):=rfl
def N5:Ra c i ca ρ (u,S)=(ca ρ S).bind (ND c i u ρ):=rfl
theorem N4:ND c i u ρ (.ref l,S)=(NC c i l u S S[l]?).bind (Mv ρ):=by
 unfold ND Bt NC;dsimp only<;>(generalize S[l]?=q;rcases q with _|o<;>first|rfl|(cases o<;>rfl))
theorem N3:NC c i l u S (some (.ins c fus))=some (S.set l (.ins c (fus.set i (some u)))):=by
 unfold NC;dsimp only;rw[if_pos rfl]
def Ba(g:Fn)(l:Nat)(q:List U×Sto):=g (.ref l::q.1) q.2
open Classical in
def yh(c:Cl)(g:Fn)(cr:CA)(ρ:Rho)(l:Nat)(S:Sto):Option O->Option (U×Sto)
 |some (.ins c' _)=>if c'=c then(cr ρ S).bind (Ba g l)else none
 |_=>none
def Im(c:Cl)(g:Fn)(cr:CA)(ρ:Rho)(p:U×Sto):=Bv c g p.1 p.2 (cr ρ)
def JG:bH c g ca cr ρ S=(ca ρ S).bind (Im c g cr ρ):=rfl
theorem FW:Im c g cr ρ (.ref l,S)=yh c g cr ρ l S S[l]?:=by
 unfold Im Bv yh;dsimp only<;>(generalize S[l]?=q;rcases q with _|o<;>first|rfl|(cases o<;>rfl))
theorem FV:yh c g cr ρ l S (some (.ins c fus))=(cr ρ S).bind (Ba g l):=by
 unfold yh;dsimp only;rw[if_pos rfl]
def FU:Ba g l (us,S)=g (.ref l::us) S:=rfl
def Mx(n:Nat):U×Sto->Option (U×Sto)
 |(.non,S)=>some (.ref n,S)
 |_=>none
theorem xw:rA c g us S=(g (.ref S.length::us) (S++[.ins c (ZU c.ns.length none)])).bind (Mx S.length):=by
 unfold rA;congr 1;funext p;obtain⟨u,S⟩:=p;cases u<;>rfl
def FX:Mx i (.non,S)=some (.ref i,S):=rfl
def kIn(neg:Bool)(x:U)(S:Sto):Option O->Option (U×Sto)
 |some (.lst us)=>if zC x=true/\us.all zC=true then some (.bl (if neg then !inU x us else inU x us),S)else none
 |some (.dic kus)=>(oR x).bind fun k=>some (.bl (if neg then !(gG kus k).isSome else(gG kus k).isSome),S)
 |some (.fdc _ kus)=>(oR x).bind fun k=>some (.bl (if neg then !(gG kus k).isSome else(gG kus k).isSome),S)
 |_=>none
theorem Ox{neg:Bool}:fIn neg x (.ref l) S=kIn neg x S S[l]?:=by
 unfold fIn kIn;dsimp only<;>(generalize S[l]?=q;rcases q with _|o<;>first|rfl|(cases o<;>rfl))
theorem Oy{neg:Bool}{kus:List (Key×U)}:kIn neg x S (some (.dic kus))=(oR x).bind fun k=>some (.bl (if neg then !(gG kus k).isSome else(gG kus k).isSome),S):=rfl
def Oo{j:Int}:oR (.int j)=some (.inl j):=rfl
def JN{z:Str}:oR (.str z)=some (.inr z):=rfl
def Qg(f:U->List U->Sto->Option (U×Sto))(x:U)(q:List U×Sto):=f x q.1 q.2
def Qh(f:U->List U->Sto->Option (U×Sto))(cr:CA)(ρ:Rho)(x:U)(S:Sto):Option O->Option (U×Sto)
 |some (.lst _)=>(cr ρ S).bind (Qg f x)
 |_=>none
def kBM(f:U->List U->Sto->Option (U×Sto))(cr:CA)(ρ:Rho):U×Sto->Option (U×Sto)
 |(.ref l,S)=>Qh f cr ρ (.ref l) S S[l]?
 |_=>none
variable{fm:U->List U->Sto->Option (U×Sto)}
theorem RX:cBM fm ca cr ρ S=(ca ρ S).bind (kBM fm cr ρ):=by
 unfold cBM;congr 1;funext p;obtain⟨u,S⟩:=p;cases u<;>try rfl
def OX:kBM fm cr ρ (.ref l,S)=Qh fm cr ρ (.ref l) S S[l]?:=rfl
def OW:Qh fm cr ρ x S (some (.lst us))=(cr ρ S).bind (Qg fm x):=rfl
def OV:Qg fm x (us,S)=fm x us S:=rfl
def NG(l:Nat)(u:U)(S:Sto):Option O->Option (U×Sto)
 |some (.lst us)=>if us.length<LIM then some (.non,S.set l (.lst (us++[u])))else none
 |_=>none
theorem OZ:cN (.ref l) [u] S=NG l u S S[l]?:=by
 unfold cN NG;dsimp only<;>(generalize S[l]?=q;rcases q with _|o<;>first|rfl|(cases o<;>rfl))
theorem lV(h:us.length<LIM):NG l u S (some (.lst us))=some (.non,S.set l (.lst (us++[u]))):=by
 unfold NG;dsimp only;rw[if_pos h]
def Qb(ku xu:U)(S:Sto):Option O->Option (U×Sto)
 |some (.dic kus)=>(oR ku).bind fun k=>some ((gG kus k).getD xu,S)
 |_=>none
def Qc(l:Nat)(ku:U)(r:U×Sto):=Qb ku r.1 r.2 r.2[l]?
def Qd(l:Nat)(cx:CE)(ρ:Rho)(q:U×Sto):=(cx ρ q.2).bind (Qc l q.1)
def Qe(l:Nat)(ck cx:CE)(ρ:Rho)(S:Sto):Option O->Option (U×Sto)
 |some (.dic _)=>(ck ρ S).bind (Qd l cx ρ)
 |_=>none
def kDG(ck cx:CE)(ρ:Rho):U×Sto->Option (U×Sto)
 |(.ref l,S)=>Qe l ck cx ρ S S[l]?
 |_=>none
theorem RW:M7 ca cb cc ρ S=(ca ρ S).bind (kDG cb cc ρ):=by
 unfold M7;congr 1;funext p;obtain⟨u,S⟩:=p;cases u<;>try rfl
def OS:kDG cb cc ρ (.ref l,S)=Qe l cb cc ρ S S[l]?:=rfl
def OR{kus:List (Key×U)}:Qe l cb cc ρ S (some (.dic kus))=(cb ρ S).bind (Qd l cc ρ):=rfl
def OO:Qd l cc ρ (u,S)=(cc ρ S).bind (Qc l u):=rfl
def ON:Qc l u (x,S)=Qb u x S S[l]?:=rfl
def OM{kus:List (Key×U)}:Qb u x S (some (.dic kus))=(oR u).bind fun k=>some ((gG kus k).getD x,S):=rfl
def JU:IP ρ S=some (.ref S.length,S++[.dic []]):=rfl
def kP3(k:Key)(u:U)(z:List (Key×U)×Sto):Option (List (Key×U)×Sto):=some ((k,u)::z.1,z.2)
def kP2(r:List (CE×CE))(ρ:Rho)(x:U)(q:U×Sto):=(oR x).bind fun k=>(qc r ρ q.2).bind (kP3 k q.1)
def kP1(cv:CE)(r:List (CE×CE))(ρ:Rho)(p:U×Sto):=(cv ρ p.2).bind (kP2 r ρ p.1)
variable{pr:List (CE×CE)}
def RG:qc [] ρ S=some ([],S):=rfl
def x_p:qc ((ca,cb)::pr) ρ S=(ca ρ S).bind (kP1 cb pr ρ):=rfl
def RF:kP1 cb pr ρ (u,S)=(cb ρ S).bind (kP2 pr ρ u):=rfl
def RD:kP2 pr ρ x (u,S)=(oR x).bind fun k=>(qc pr ρ S).bind (kP3 k u):=rfl
def RC{k:Key}{z:List (Key×U)}:kP3 k u (z,S)=some ((k,u)::z,S):=rfl
def kD1(n:Nat)(kus:List (Key×U))(S:Sto):Option O->Option (U×Sto)
 |some (.dic [])=>some (.ref n,S.set n (.dic (A1 kus)))
 |_=>none
def kD(n:Nat)(q:List (Key×U)×Sto):=kD1 n q.1 q.2 q.2[n]?
theorem JV:M6 pr ρ S=(qc pr ρ (S++[.dic []])).bind (kD S.length):=by
 unfold M6;congr 1
def F5{z:List (Key×U)}:kD i (z,S)=kD1 i z S S[i]?:=rfl
def F4{z:List (Key×U)}:kD1 i z S (some (.dic []))=some (.ref i,S.set i (.dic (A1 z))):=rfl
def Jo:iN [.tup us] S=some (.tup us,S):=rfl
def PY(S:Sto):Option O->Option (U×Sto)
 |some (.lst us)=>some (.tup us,S)
 |_=>none
theorem Jp:iN [.ref l] S=PY S S[l]?:=by
 unfold iN PY;dsimp only<;>(generalize S[l]?=q;rcases q with _|o<;>first|rfl|(cases o<;>rfl))
def Jq:PY S (some (.lst us))=some (.tup us,S):=rfl
def FY:vm [.tup us] S=some (.ref S.length,S++[.lst us]):=rfl
def kLs(S:Sto):Option O->Option (U×Sto)
 |some (.lst us)=>some (.ref S.length,S++[.lst us])
 |_=>none
theorem FZ:vm [.ref l] S=kLs S S[l]?:=by
 unfold vm kLs;dsimp only<;>(generalize S[l]?=q;rcases q with _|o<;>first|rfl|(cases o<;>rfl))
def F0:kLs S (some (.lst us))=some (.ref S.length,S++[.lst us]):=rfl
def JP:Sj [.bl b] S=some (.int (if b then 1 else 0),S):=rfl
def ga{X:Sto}{n:Nat}:(S++X)[S.length+n]?=X[n]?:=by rw[Zb (Nat.le_add_right _ _),Nat.add_sub_cancel_left]
def ga0{X:Sto}:(S++X)[S.length]?=X[0]?:=ga (n:=0)
theorem gs{X:Sto}{n:Nat}{o:O}:(S++X).set (S.length+n) o=S++X.set n o:=by rw[List.set_append_right _ _ (Nat.le_add_right _ _),Nat.add_sub_cancel_left]
def gs0{X:Sto}{o:O}:(S++X).set S.length o=S++X.set 0 o:=gs (n:=0)
section
variable{ok:Sto->Prop}{gg:CG}{cbd:CS}{ρ0 ρ1:Rho}{S0 S1:Sto}
def iL(h:ok S):fv ok gg cbd [] ρ S=some (.nx,ρ,S):=by unfold fv;rw[if_pos h]
theorem dz(h:ok S)(hg:gg u ρ S=some (ρ0,S0))(hb:cbd ρ0 S0=some (.nx,ρ1,S1)):fv ok gg cbd (u::us) ρ S=fv ok gg cbd us ρ1 S1:=by
 rw[fv];dsimp only;rw[if_pos h,hg,Z8];dsimp only;rw[hb,Z8]
theorem Ig(h:ok S)(hg:gg u ρ S=some (ρ0,S0))(hb:cbd ρ0 S0=some (.rt x,ρ1,S1)):fv ok gg cbd (u::us) ρ S=some (.rt x,ρ1,S1):=by
 rw[fv];dsimp only;rw[if_pos h,hg,Z8];dsimp only;rw[hb,Z8]
theorem sG{n:Nat}(ht:t ρ S=some (true,S0))(hb:cbd ρ S0=some (.nx,ρ1,S1)):d5 t cbd (n+1) ρ S=d5 t cbd n ρ1 S1:=by
 rw[d5];dsimp only;rw[ht,Z8];dsimp only;rw[if_pos rfl,hb,Z8]
theorem CY{n:Nat}(ht:t ρ S=some (true,S0))(hb:cbd ρ S0=some (.rt x,ρ1,S1)):d5 t cbd (n+1) ρ S=some (.rt x,ρ1,S1):=by
 rw[d5];dsimp only;rw[ht,Z8];dsimp only;rw[if_pos rfl,hb,Z8]
theorem lZ{n:Nat}(ht:t ρ S=some (false,S0)):d5 t cbd (n+1) ρ S=some (.nx,ρ,S0):=by
 rw[d5];dsimp only;rw[ht,Z8];dsimp only;rw[if_neg (by decide)]
theorem qH{ce:CE}{ys:List U}(h:ok S)(hg:gg u ρ S=some (ρ0,S0))(he:ce ρ0 S0=some (x,S1))(hl:S1[l]?=some (.lst ys))(hn:ys.length<LIM):j1 ok gg ce l (u::us) ρ S=j1 ok gg ce l us ρ0 (S1.set l (.lst (ys++[x]))):=by
 rw[j1,if_pos h,hg,Z8];dsimp only;rw[he,Z8];dsimp only;rw[hl];dsimp only;rw[if_pos hn]
def tV{ce:CE}(h:ok S):j1 ok gg ce l [] ρ S=some S:=by rw[j1,if_pos h]
end
end
theorem Ik{K:Z6}{H:Hp}{p xs:Addr}{c:CS}{r:Rho}{σ:L2.St}{v0:Option V}{Q:VK}{nx bk ct:L2.St->Hp->Prop}(P:Ru H p xs)
  (ok:∀(ns:List Int) (a b:Int),0<=a->0<=b->∃ρ' S',c (none::some (.ref 1)::r) [.lst (ns.map U.int),.lst [.ref 0,.int a,.int b]]=some (.rt (.bl true),ρ',S')) (q:∀H',Q (.bl true) H')
  (hr:r=ZU r.length none:=by rfl) (hl:σ.length=r.length:=by rfl):tS K c { nx:=nx,rt:=Q,bk:=bk,ct:=ct } (v0::some (.ref p)::σ) H:=by
 obtain⟨ns,a,b,h1,h2,h3,h4,h5⟩:=P;obtain⟨ρ',S',e⟩:=ok ns a b h4 h5;refine⟨[xs,p],_,_,_,ρ',S',⟨rfl,by simp[h3],fun l ad o e1 e2=>?_⟩,⟨by simp[hl],fun i u e1=>?_⟩,e,fun m' v H' _ _ iv=>by rw[iv.of_bl];exact q H'⟩
 ·match l,e1,e2 with
  |0,e1,e2=>
   simp at e1 e2;subst e1;subst e2;exact⟨_,h2,oS ns⟩
  |1,e1,e2=>
   simp at e1 e2;subst e1;subst e2;exact⟨_,h1,.cons_ (.ref_ rfl) (.cons_ .int_ (.cons_ .int_ .nil_))⟩
  |l+2,e1,e2=>simp at e1
 ·match i,e1 with
  |0,e1=>simp at e1
  |1,e1=>
   simp at e1;subst e1;exact⟨.ref p,rfl,.ref_ rfl⟩
  |i+2,e1=>
   simp at e1;rw[hr,X4]at e1;split at e1<;>cases e1
theorem cH.no{P:ZS}{w:Zg}{K:Z6}{mg:Str->Option Z7}{base:Heap}{c:Cl}{mn x qual:Str}{st:Zw}{k:Nat}{ps:List Str}{fa:Addr}{fd:X5}(F:Fun K x qual st fa fd)(b:gW K fd ps [])(m:Cw K c.C mn fa):cH P w K mg base c mn k ps (fun _ _=>none):=by
 have no:∀vs H Q E,¬Aw K (fun _ _=>none) vs H Q E:=fun vs H Q E h=>by
  obtain⟨m,us,S,u,S',i,sr,hf,post⟩:=h;cases hf
 exact⟨fa,fd,m,⟨fun vs H Q E h=>absurd h (no vs H Q E),fun A outer s H args us vs Q E _ _ _ _ h=>absurd h (no vs H Q E)⟩,b⟩
def Ji{p:List Z7->Prop}(h:p [])(us:List Z7)(e:us.length=0):p us:=by rw[List.length_eq_zero_iff.mp e];exact h
theorem Qy{n:Nat}{p:List Z7->Prop}(h:∀a us,us.length=n->p (a::us))(us:List Z7)(e:us.length=n+1):p us:=by
 cases us with
 |nil=>cases e
 |cons a us=>exact h a us (Nat.succ.inj e)
end OP
namespace OG
open PySem PySem.Spec PyProof.Rows L2
def vS(wi:TI)(g:TG)(tt:TT)(te:TE)(n:Nat)(caps:List Nat):TE:=fun σ H Q=>wi σ H fun J H1=>∀l,H1 l=none->∃W:Nat->Nat->L2.St->Hp->Prop,(∃m,W 0 m (stC n caps σ) (upd H1 l (.lst [])))/\
 ∀i m σ' H2,W i m σ' H2->(J.stop i H2/\Q (.ref l) H2)\/(J.go i H2/\∃N:L2.St->Hp->Prop,(∀σ'' H',N σ'' H'->∃m',m'<m/\W (i+1) m' σ'' H')/\
  ∀x H3,J.yld i H2 x H3->g x σ' H3 fun σ2 H4=>tt σ2 H4 fun b H5=>match b with
   |true=>te σ2 H5 fun v H6=>∃ys,H6 l=some (.lst ys)/\ys.length<ZP/\N σ2 (upd H6 l (.lst (ys++[v])))
   |false=>N σ2 H5)
theorem rB{prog:ZS}{w:Zg}{A:Za}{R:Result->ZZ->Prop}{s:ZZ}{elt target iter c:ZC}{scope:XA}{pos:Pos}{it acc:Z7}{env:Env}(I:Nat->ZZ->Prop)
  (turn:∀n s,I n s->wpAny (Zv prog w) A (pyNext it) (fun r s₁=>match r with
   |none=>R (.ok .next) s₁
   |some v=>wpAny (Zv prog w) A (letOwnedTupleGo target it v) (fun _ s₁'=>wpAny (Zv prog w) A (assign target env v) (fun _ s₂=>wpAny (Zv prog w) A (PySem.isTrue c env (eval c env)) (fun b s₂'=>match b with
    |true=>wpAny (Zv prog w) A (eval elt env) (fun x s₃=>
     wpAny (Zv prog w) A (call (.builtin "list.append") [acc,x]) (fun _ s₄=>∃m,m<n/\I m s₄) (fun _ _=>False) s₃)
     (fun _ _=>False) s₂'
    |false=>∃m,m<n/\I m s₂') (fun _ _=>False) s₂) (fun _ _=>False) s₁') (fun _ _=>False) s₁) (fun _ _=>False) s)
  (n:Nat) (h:I n s) :
  codeAny (Zv prog w) A (.compLoop (.ListComp elt [⟨target,iter,[c],0⟩] scope pos) 0 it acc env) R s:=by
 refine codeAny_loop rfl I (fun n s hI=>?_) n h;show wpAny _ _ ((compTurn (.ListComp elt [⟨target,iter,[c],0⟩] scope pos) 0 it acc env).onRaise (fun x=>do noteFrame x env;theTreesLotGoes x)) _ _ s;refine wpAny_noted ?_;rw[compTurn_list];refine ZQ (wpAny_standAt (ZQ (Zn (turn n s hI) (fun r s₁ h₁=>?_) fun _ _ h'=>h'.elim)));cases r with
 |none=>exact ZO h₁
 |some v=>
  refine ZQ (Zn h₁ (fun _ s₁' h₁'=>?_) fun _ _ h'=>h'.elim);refine ZQ (Zn h₁' (fun _ s₂ h₂=>?_) fun _ _ h'=>h'.elim);dsimp only;simp only[List.forIn_cons,List.forIn_nil,if_true,bind_assoc,pure_bind];refine ZQ (Zn h₂ (fun b s₂' h₂'=>?_) fun _ _ h'=>h'.elim);cases b with
  |true=>
   rw[if_pos rfl];exact ZQ (Zn h₂' (fun x s₃ h₃=>ZQ (Zn h₃
    (fun _ s₄ h₄=>ZO ⟨rfl,h₄⟩) fun _ _ h'=>h'.elim)) fun _ _ h'=>h'.elim)
  |false=>
   rw[if_neg ZL];exact ZO ⟨rfl,h₂'⟩
theorem zJ{X:Cx}{Nc capN tn:List Str}{scope:XA}{cl:List (Str×Addr)}{n:Nat}{caps:List Nat}{tg iter elt:ZC}{pos:Pos}{wi:TI}{g:TG}{te:TE}{tt:TT}{c:ZC}
  (hc:X.calm=true) (hi:WI X tg iter wi) (hg:∀s3 H3 fp,WG (cxC X Nc scope cl s3 H3 fp) tg g) (he:∀s3 H3 fp,WE (cxC X Nc scope cl s3 H3 fp) elt te)
  (ht:∀s3 H3 fp,WT (cxC X Nc scope cl s3 H3 fp) c tt)
  (hclos:closureFor scope X.env=pure cl) (hkind:scope.kind=.function) (hnl:∀x∈scope.names,x.2=.local->scope.names.lookup x.1=some .local) (hcell:∀x∈scope.names,x.2≠.cell)
  (hcl:zU X.env cl) (hhas:((relabel scope X.env).names.all fun p=>!(p.2 == .cell||p.2 == .free)||(cl.lookup p.1).isSome)=true)
  (hcap:Paired (Cap X scope cl) caps capN) (hN:Nc=tn++capN) (hn:tn.length=n)
  {use:Option (Z7->Sem Unit)} {pins:List (Addr×Obj)} {σ:L2.St} {H:Hp} {s:ZZ} {Q:VK} {Qf:Z7->ZZ->Prop} (I:Inv X pins σ H s) (h:vS wi g tt te n caps σ H Q)
  (hend:∀(D C:Addr) (s6:ZZ) (H5:Hp) (m:Str->Option Z7),Inv X pins σ H5 s6->s6.heap.Ns C m->H5 C=none->C≠X.env.locals->X.s₀.heap.objs.size<=C->(∀x c,X.env.cells.lookup x=some c->c≠C)->(∀p∈X.pn++pins,p.1≠C)->Q (.ref D) H5->compPost (Zv X.prog X.w) X.A X.xe use Qf (.ref D) C (.ok .next) s6)
  (hs:∀x,foldedSetIterable iter X.env x=pure x) :
  wpAny (Zv X.prog X.w) X.A (comprehension (.ListComp elt [⟨tg,iter,[c],0⟩] scope pos) scope X.env (firstIterPos [⟨tg,iter,[c],0⟩] pos) (newList []) (firstAsync [⟨tg,iter,[c],0⟩]) (firstIter [⟨tg,iter,[c],0⟩] X.env) use) Qf X.xe s:=by
 refine wpAny_comprehension_free (use:=use) (g:=⟨tg,iter,[c],0⟩) (gs:=[]) rfl hs hclos hkind hnl (thn (hi.h pins s σ H _ I h) fun v s1 h1=>thn h1 fun itv s2 h2=>?_);obtain⟨it,fp,tnn,J,H2,rfl,I2,T,st2,f2,hW⟩:=h2;have hD:=I2.fresh;obtain⟨W,⟨m0,w0⟩,turn⟩:=hW _ hD;refine wpAny_newObj_type (wpAny_newFunctionEnv hcell (by intro y hy;simp at hy) (fun h₁ hns₁ hsb₁=>?_) hkind);dsimp only at hns₁ hsb₁ ⊢;have I3:Inv X pins σ (upd H2 s2.heap.objs.size (.lst [])) { s2 with heap:=s2.heap.push { cls:=.type "list",dict:=none,data:=.seq ([]:List Z7).toArray },toks:=s2.toks }:=I2.lnew (its:=[]) .nil (X1 _);generalize hs3:({ s2 with heap:=s2.heap.push { cls:=.type "list",dict:=none,data:=.seq ([]:List Z7).toArray },toks:=s2.toks }:ZZ)=s3 at I3;have es3:s3.heap=s2.heap.push { cls:=.type "list",dict:=none,data:=.seq ([]:List Z7).toArray }:=by rw[<-hs3]
 generalize hDD:s2.heap.objs.size=D at *;have kept:∀b o,s3.heap.get? b=some o->h₁.get? b=some o:=fun b o e=>by
  have lt:=ZF e;rw[es3]at lt e;exact hsb₁.extBut b o (Zj lt) (ZK _ e)
 have old:∀b o,s2.heap.get? b=some o->s3.heap.get? b=some o:=fun b o e=>by rw[es3];exact ZK _ e
 have ltD:∀b∈fp,b<D:=fun b hb=>by
  obtain⟨o,e,_⟩:=T.obj 0 _ st2 b hb;rw[<-hDD];exact ZF e
 have fo:∀b∈fp,b<s3.heap.objs.size:=fun b hb=>by
  obtain⟨o,e,_⟩:=T.obj 0 _ st2 b hb;exact ZF (old _ _ e)
 have f3:∀b∈fp,zV X pins (upd H2 D (.lst [])) b:=fun b hb=>by
  refine⟨?_,(f2 b hb).2⟩;rw[bN (Zj (ltD b hb))];exact(f2 b hb).1
 rw[<-es3]at hns₁ hsb₁ ⊢;have Ic:=fun t'=>Inv.comp (h1:=h₁) (t':=t') (Nc:=Nc) (n:=n) I3 hc f3 fo hkind hcl hhas hcap tn hN hn hns₁ kept;have stat:∀{H':Hp},(∀b∈fp,H' b=none)->∀b∈fp,zV (cxC X Nc scope cl s3 (upd H2 D (.lst [])) fp) [] H' b:=fun hn' b hb=>by
  refine⟨hn' b hb,Zj (fo b hb),fun z=>?_,.inl hb,fun x c e=>(f2 b hb).2.2.2.2.1 x c (hcl.look e),fun p hp=>(by simp at hp)⟩;rcases Zx.mp (I3.stkSub b z)with q|q
  ·exact(f2 b hb).2.1 q
  ·exact(f2 b hb).2.2.1 q
 have loop:∀s4:ZZ,(∃t',s4={ s3 with heap:=h₁,toks:=t' })->codeAny (Zv X.prog X.w) X.A (.compLoop (.ListComp elt [⟨tg,iter,[c],0⟩] scope pos) 0 (.ref it) (.ref D) (compEnvC scope cl s3.heap.objs.size X.env))
   (compPost (Zv X.prog X.w) X.A X.xe use Qf (.ref D) s3.heap.objs.size) s4:=by
  rintro s4 ⟨t',rfl⟩;refine rB (fun n' s'=>∃i σ' H',Inv (cxC X Nc scope cl s3 (upd H2 D (.lst [])) fp) [] σ' H' s'/\tnn i s'.heap/\(∀b∈fp,H' b=none)/\W i n' σ' H') ?_ m0
   ⟨0,_,_,Ic t',T.keep 0 _ _ st2 fun b hb o e=>kept _ _ (old _ _ e),fun b hb=>(f3 b hb).1,w0⟩
  rintro n' s5 ⟨i,σ5,H5,I5,st5,fr5,w5⟩;rcases turn i n' σ5 H5 w5 with⟨stop,qn⟩|⟨go,N,hN',step⟩
  ·refine thn (T.done (cxC X Nc scope cl s3 (upd H2 D (.lst [])) fp) rfl rfl rfl hc i [] s5 σ5 H5 (fun _ _=>False) I5 (stat fr5) st5 stop) fun r s6 ⟨hr,I6⟩=>?_;subst hr;obtain⟨m,hm,_⟩:=I6.loc;have I7:Inv X pins σ H5 s6:=Inv.call' (ch:=fp) I3 I6.os I6.base I6.hok I6.bare fun b hb=>⟨(f2 b hb).2.2.2.1,(f2 b hb).2.1,(f2 b hb).2.2.2.2.1,(f2 b hb).2.2.2.2.2⟩;exact hend D _ s6 H5 m I7 hm I6.free (Ne.symm (Zj I3.lt)) I3.sz (fun x c e=>by
     obtain⟨v',o,ho,_⟩:=I3.cell x c e;exact Zj (ZF ho)) (fun p hp=>Zj (ZF (I3.pin p hp).1)) qn
  ·refine thn (T.item (cxC X Nc scope cl s3 (upd H2 D (.lst [])) fp) rfl rfl rfl hc i [] s5 σ5 H5 (fun _ _=>False) I5 (stat fr5) st5 go) fun r s6 ⟨u,hr,h6⟩=>?_;subst hr;refine thn h6 fun _ s7 hz=>?_;obtain⟨x,H7,I7,r7,y7,st7,fr7⟩:=hz;have I7':=I7.pinned (stat fr7) (T.obj _ _ st7);refine thn ((hg s3 (upd H2 D (.lst [])) fp).h _ s7 σ5 H7 x u _ I7' r7 (step x H7 y7)) fun _ s8 hz=>?_;obtain⟨σ8,H8,I8,q8⟩:=hz;have fin:∀{s10:ZZ} {H10:Hp},Inv (cxC X Nc scope cl s3 (upd H2 D (.lst [])) fp) _ σ8 H10 s10->N σ8 H10->∃m',m'<n'/\∃i' σ' H',Inv (cxC X Nc scope cl s3 (upd H2 D (.lst [])) fp) [] σ' H' s10/\tnn i' s10.heap/\(∀b∈fp,H' b=none)/\W i' m' σ' H':=fun{s10 H10} I10 q10=>by
    obtain⟨m',hm,w10⟩:=hN' σ8 H10 q10;refine⟨m',hm,i+1,σ8,H10,Inv.unpinned I10,T.keep _ _ _ st7 fun b hb o e=>(Inv.pin I10 (b,o) (Zh _ (Zh _ (gX hb e)))).1,fun b hb=>?_,w10⟩;obtain⟨o,e,d⟩:=T.obj _ _ st7 b hb;exact(Inv.pin I10 (b,o) (Zh _ (Zh _ (gX hb e)))).2.1
   refine thn ((ht s3 (upd H2 D (.lst [])) fp).h _ s8 σ8 H8 _ I8 q8) fun b9 s9' h9=>?_;obtain⟨H9',I9',q9'⟩:=h9;cases b9 with
   |false=>exact fin I9' q9'
   |true=>
    refine thn ((he s3 (upd H2 D (.lst [])) fp).h _ s9' σ8 H9' _ I9' q9') fun v9 s9 hz=>?_;obtain⟨x9,H9,I9,r9,ys,hy,hlt,q9⟩:=hz;exact thn (qd (X:=cxC X Nc scope cl s3 (upd H2 D (.lst [])) fp) _ s9 σ8 H9 (.ref D) [x9] (.ref D) [v9] (fun _ H'=>N σ8 H') I9 rfl (.cons r9 .nil) ⟨D,ys,x9,rfl,rfl,hy,hlt,q9⟩) fun _ s10 ⟨_,H10,I10,_,q10⟩=>fin I10 q10
 have e4:∀t',({ s2 with heap:=h₁,toks:=t' }:ZZ)={ s3 with heap:=h₁,toks:=t' }:=fun t'=>by rw[<-hs3]
 refine codeAny_compStart_list (loop _ ⟨_,e4 _⟩) (T.self _ 0 _ _ _ (T.keep 0 _ _ st2 fun b hb o e=>kept _ _ (old _ _ e)) (loop _ ⟨_,e4 _⟩))
theorem yT{X:Cx}{Nc capN tn:List Str}{scope:XA}{cl:List (Str×Addr)}{n:Nat}{caps:List Nat}{tg iter elt:ZC}{pos:Pos}{wi:TI}{g:TG}{te:TE}{tt:TT}{c:ZC}
  (hc:X.calm=true) (hi:WI X tg iter wi) (hg:∀s3 H3 fp,WG (cxC X Nc scope cl s3 H3 fp) tg g) (he:∀s3 H3 fp,WE (cxC X Nc scope cl s3 H3 fp) elt te)
  (ht:∀s3 H3 fp,WT (cxC X Nc scope cl s3 H3 fp) c tt)
  (hclos:closureFor scope X.env=pure cl) (hkind:scope.kind=.function) (hnl:∀x∈scope.names,x.2=.local->scope.names.lookup x.1=some .local) (hcell:∀x∈scope.names,x.2≠.cell)
  (hcl:zU X.env cl) (hhas:((relabel scope X.env).names.all fun p=>!(p.2 == .cell||p.2 == .free)||(cl.lookup p.1).isSome)=true)
  (hcap:Paired (Cap X scope cl) caps capN) (hN:Nc=tn++capN) (hn:tn.length=n)
  (hs:∀x,foldedSetIterable iter X.env x=pure x:=by intro _;rfl) :
  WE X (.ListComp elt [⟨tg,iter,[c],0⟩] scope pos) (vS wi g tt te n caps):=by
 constructor;intro pins s σ H Q I h;rw[eval_ListComp];refine zJ hc hi hg he ht hclos hkind hnl hcell hcl hhas hcap hN hn I h (fun D C s6 H5 m I7 hm fr nl sz cn pn qn=>⟨m,hm,fun h' hs'=>?_⟩) hs;exact⟨.ref D,H5,I7.turned (t':=s6.toks) (it:=C) (fun b o hb e=>hs'.extBut b o hb e) fr nl (.inr sz) cn pn,rfl,qn⟩
end OG
namespace OP
open PySem PySem.Spec PyProof.Rows L2 OG
open Classical in
def dY(ok:Sto->Prop)(g:CG)(ct:CT)(ce:CE)(l:Nat):List U->Rho->Sto->Option Sto
 |[],_,S=>if ok S then some S else none
 |u::us,ρ,S=>if ok S then(g u ρ S).bind fun p=>(ct p.1 p.2).bind fun q=>if q.1=true then(ce p.1 q.2).bind fun r=>match r.2[l]? with
  |some (.lst ys)=>if ys.length<LIM then dY ok g ct ce l us p.1 (r.2.set l (.lst (ys++[r.1])))else none
  |_=>none else dY ok g ct ce l us p.1 q.2 else none
def t4(ci:CI)(g:CG)(ct:CT)(ce:CE)(n:Nat)(caps:List Nat):CE:=fun ρ S=>(ci ρ S).bind fun p=>(dY p.2.1 g ct ce p.2.2.length p.1 (vF n caps ρ) (p.2.2++[.lst []])).bind fun S'=>some (.ref p.2.2.length,S')
section
variable{X:Cx}{K:Z6}
theorem xf{g:CG}{ct:CT}{ce:CE}{n:Nat}{caps:List Nat}{J:It}{us:List U}{ok:Sto->Prop}{Q:VK}{m1:List Addr}{H1:Hp}{S1 S':Sto}{ρ:Rho}{σ:L2.St}{l:Addr}(sr1:Sr K m1 S1 H1)(lr:Lr K m1 H1 ρ σ)(ito:FO K J m1 H1 us ok)(hl:H1 l=none)(h2:dY ok g ct ce S1.length us (vF n caps ρ) (S1++[.lst []])=some S')
  (post:∀m2 H2,Ext K (m1++[l]) (upd H1 l (.lst [])) m2 H2->Sr K m2 S' H2->Q (.ref l) H2) :
  ∃W:Nat->Nat->L2.St->Hp->Prop,(∃m,W 0 m (OG.stC n caps σ) (upd H1 l (.lst [])))/\
 ∀i m σ' H2,W i m σ' H2->(J.stop i H2/\Q (.ref l) H2)\/(J.go i H2/\∃N:L2.St->Hp->Prop,(∀σ'' H',N σ'' H'->∃m',m'<m/\W (i+1) m' σ'' H')/\
  ∀x H3,J.yld i H2 x H3->tG K g x σ' H3 fun σ2 H4=>tT K ct σ2 H4 fun b H5=>match b with
   |true=>tE K ce σ2 H5 fun v H6=>∃ys,H6 l=some (.lst ys)/\ys.length<ZP/\N σ2 (upd H6 l (.lst (ys++[v])))
   |false=>N σ2 H5):=by
 have ee:Ext K m1 H1 (m1++[l]) (upd H1 l (.lst [])):=.new (dc hl _);let W:Nat->Nat->L2.St->Hp->Prop:=fun i k σ2 H2=>k=us.length-i/\i<=us.length/\∃m2 ρ2 S2,Ext K (m1++[l]) (upd H1 l (.lst [])) m2 H2/\Sr K m2 S2 H2/\Lr K m2 H2 ρ2 σ2/\dY ok g ct ce S1.length (us.drop i) ρ2 S2=some S'
 refine⟨W,⟨us.length,by simp,X1 _,m1++[l],vF n caps ρ,S1++[.lst []],.refl,sr1.new (o:=.lst []) hl ⟨[],bx,.nil_⟩,A3 (lr.mono ee),by simpa using h2⟩,?_⟩;rintro i k σ2 H2 ⟨rfl,hi,m2,ρ2,S2,e2,sr2,lr2,hl2⟩;by_cases hlt:i<us.length
 ·have hu:=ZR hlt;rw[mC hu]at hl2;unfold dY at hl2;split at hl2
  ·rename_i hok;obtain⟨⟨ρ3,S3⟩,h3,hl2⟩:=Z0.mp hl2;obtain⟨⟨b4,S4⟩,h4,hl2⟩:=Z0.mp hl2;obtain⟨hgo,hy⟩:=(ito m2 S2 H2 i (ee.trans e2) sr2 hok).1 _ hu;refine .inr ⟨hgo,W (i+1) (us.length-(i+1)),fun σ' H' w'=>⟨_,by omega,w'⟩,fun x H3 y=>?_⟩;obtain⟨e3,sr3,ix⟩:=hy x H3 y;refine⟨m2,ρ2,S2,_,ρ3,S3,sr3,lr2.mono e3,ix,h3,fun m4 σ4 H4 e4 sr4 lr4=>⟨m4,ρ3,S3,b4,S4,sr4,lr4,h4,fun m4' H4' e4' sr4'=>?_⟩⟩;cases b4 with
   |false=>
    rw[if_neg ZL]at hl2;exact⟨rfl,hlt,m4',ρ3,_,(((e2.trans e3).trans e4).trans e4'),sr4',lr4.mono e4',hl2⟩
   |true=>
    rw[if_pos rfl]at hl2;obtain⟨⟨u5,S5⟩,h5,hl2⟩:=Z0.mp hl2;simp only at hl2;split at hl2<;>try cases hl2
    rename_i ys hys;split at hl2<;>try cases hl2
    rename_i hlen;refine⟨m4',ρ3,S4,u5,S5,sr4',lr4.mono e4',h5,fun m5 v5 H5 e5 sr5 i5=>?_⟩;obtain⟨a',ha',xs,hx,il⟩:=sr5.get hys;have ha:m5[S1.length]?=some l:=((((e2.trans e3).trans e4).trans e4').trans e5).get (gM sr1.len);rw[ha]at ha';cases ha';have eu:Ext K m5 H5 m5 (upd H5 l (.lst (xs++[v5]))):=.of (sr5.keep ha _);exact⟨xs,hx,NA (by rw[il.length];exact hlen),rfl,hlt,m5,ρ3,_,(((((e2.trans e3).trans e4).trans e4').trans e5).trans eu),sr5.put (o:=.lst (ys++[u5])) ha ⟨_,bx,(il.append (.cons_ i5 .nil_)).mono eu⟩,(lr4.mono ((e4'.trans e5).trans eu)),hl2⟩
  ·cases hl2
 ·have e:i=us.length:=by omega
  subst e;rw[List.drop_length]at hl2;unfold dY at hl2;split at hl2
  ·rename_i hok;cases hl2;exact .inl ⟨(ito m2 _ H2 _ (ee.trans e2) sr2 hok).2 (ZD _),post m2 H2 e2 sr2⟩
  ·cases hl2
theorem zI{ci:CI}{g:CG}{ct:CT}{ce:CE}{n:Nat}{caps:List Nat}:∀σ H Q,tE K (t4 ci g ct ce n caps) σ H Q->vS (tI K ci) (tG K g) (tT K ct) (tE K ce) n caps σ H Q:=by
 rintro σ H Q ⟨m,ρ,S,u,S',sr,lr,hc,post⟩;obtain⟨⟨us,ok,S1⟩,h1,h2⟩:=Z0.mp hc;obtain⟨S2,h2,h3⟩:=Z0.mp h2;cases h3;refine⟨m,ρ,S,us,ok,S1,sr,lr,h1,fun m1 H1 J e1 sr1 ito l hl=>?_⟩;have ee:Ext K m1 H1 (m1++[l]) (upd H1 l (.lst [])):=.new (dc hl _);exact xf sr1 (lr.mono e1) ito hl h2 fun m2 H2 e2 sr2=>post m2 _ H2 ((e1.trans ee).trans e2) sr2 (.ref_ (e2.get (gM sr1.len)))
theorem Du{Nc capN tn:List Str}{scope:XA}{cl:List (Str×Addr)}{n:Nat}{caps:List Nat}{tg iter elt:ZC}{pos:Pos}{ci:CI}{g:CG}{ct:CT}{ce:CE}{c:ZC}
  (hc:X.calm=true) (hi:QI X tg iter ci) (hg:∀s3 H3 fp,WG (cxC X Nc scope cl s3 H3 fp) tg (tG X.K g)) (ht:∀s3 H3 fp,WT (cxC X Nc scope cl s3 H3 fp) c (tT X.K ct)) (he:∀s3 H3 fp,WE (cxC X Nc scope cl s3 H3 fp) elt (tE X.K ce))
  (hclos:closureFor scope X.env=pure cl) (hkind:scope.kind=.function) (hnl:∀x∈scope.names,x.2=.local->scope.names.lookup x.1=some .local) (hcell:∀x∈scope.names,x.2≠.cell)
  (hcl:zU X.env cl) (hhas:((relabel scope X.env).names.all fun p=>!(p.2 == .cell||p.2 == .free)||(cl.lookup p.1).isSome)=true)
  (hcap:Paired (Cap X scope cl) caps capN) (hN:Nc=tn++capN) (hn:tn.length=n)
  (hs:∀x,foldedSetIterable iter X.env x=pure x:=by intro _;rfl) :
  QE X (.ListComp elt [⟨tg,iter,[c],0⟩] scope pos) (t4 ci g ct ce n caps):=(yT hc hi hg he ht hclos hkind hnl hcell hcl hhas hcap hN hn hs).imp zI
end
end OP
namespace OP
open PySem PySem.Spec PyProof PyProof.Rows L2 OG
mutual
inductive RdV(K:Z6)(H:Hp):V->PyData->Prop
 |non:RdV K H .non .none
 |bl (b:Bool):RdV K H (.bl b) (.bool b)
 |int (i:Int):RdV K H (.int i) (.int i)
 |str (x:Str):RdV K H (.str x) (.str x)
 |lst {a:Addr} {xs:List V} {ds:List PyData}:SqL K H a xs->Cd K H xs ds->RdV K H (.ref a) (.list ds)
 |tup {a:Addr} {xs:List V} {ds:List PyData}:SqT K H a xs->Cd K H xs ds->RdV K H (.ref a) (.tuple ds)
inductive Cd(K:Z6)(H:Hp):List V->List PyData->Prop
 |nil:Cd K H [] []
 |cons {x:V} {xs:List V} {d:PyData} {ds:List PyData}:RdV K H x d->Cd K H xs ds->Cd K H (x::xs) (d::ds)
end
mutual
inductive Dt(S:Sto):U->PyData->Prop
 |non:Dt S .non .none
 |bl (b:Bool):Dt S (.bl b) (.bool b)
 |int (i:Int):Dt S (.int i) (.int i)
 |str (x:Str):Dt S (.str x) (.str x)
 |lst {l:Nat} {us:List U} {ds:List PyData}:S[l]?=some (.lst us)->DtL S us ds->Dt S (.ref l) (.list ds)
 |tup {us:List U} {ds:List PyData}:DtL S us ds->Dt S (.tup us) (.tuple ds)
inductive DtL(S:Sto):List U->List PyData->Prop
 |nil:DtL S [] []
 |cons {x:U} {xs:List U} {d:PyData} {ds:List PyData}:Dt S x d->DtL S xs ds->DtL S (x::xs) (d::ds)
end
section
variable{X:Cx}{K:Z6}{pins:List (Addr×Obj)}{σ:L2.St}{H:Hp}{s:ZZ}
mutual
theorem RdV.reads(I:Inv X pins σ H s):∀{x:V} {d:PyData} {v:Z7},RdV X.K H x d->eM x v->∃as,Reads s.heap v d as
 |_,_,_,.non,r=>by cases r;exact⟨_,.none⟩
 |_,_,_,.bl b,r=>by cases r;exact⟨_,.bool b⟩
 |_,_,_,.int i,r=>by obtain⟨t,rfl⟩:=r;exact⟨_,.int i t⟩
 |_,_,_,.str i,r=>by obtain⟨t,rfl⟩:=r;exact⟨_,.str i t⟩
 |_,_,_,.lst (a:=a) h t,r=>by
  cases r;obtain⟨its,rv,pl,_⟩:=I.list h;obtain⟨as,k⟩:=Cd.reads I t rv;obtain⟨o,h1,h2,n,h3⟩:=pl.isList;exact⟨_,.list h1 h2 h3 (by simpa using k)⟩
 |_,_,_,.tup (a:=a) h t,r=>by
  cases r;obtain⟨its,rv,pl,_⟩:=I.tuple h;obtain⟨as,k⟩:=Cd.reads I t rv;obtain⟨o,h1,h2,n,h3⟩:=pl;exact⟨_,.tuple h1 h2 h3 (by simpa using k)⟩
theorem Cd.reads(I:Inv X pins σ H s):∀{xs:List V} {ds:List PyData} {vs:List Z7},Cd X.K H xs ds->cU xs vs->∃as,ReadsAll s.heap vs ds as
 |_,_,_,.nil,r=>by cases r;exact⟨_,.nil⟩
 |_,_,_,.cons h t,.cons r rs=>by
  obtain⟨as,a⟩:=RdV.reads I h r;obtain⟨bs,b⟩:=Cd.reads I t rs;exact⟨_,.cons a b⟩
end
mutual
theorem Dt.rd{m:List Addr}{S:Sto}(sr:Sr K m S H):∀{u:U} {d:PyData} {v:V},Dt S u d->Is K m H v u->RdV K H v d
 |_,_,_,.non,i=>by rw[i.of_non];exact .non
 |_,_,_,.bl b,i=>by rw[i.of_bl];exact .bl b
 |_,_,_,.int b,i=>by rw[i.of_int];exact .int b
 |_,_,_,.str b,i=>by rw[i.of_str];exact .str b
 |_,_,_,.lst h t,i=>by
  obtain⟨a,ha,rfl⟩:=i.of_ref;obtain⟨a',ha',xs,hx,il⟩:=sr.get h;rw[ha]at ha';cases ha';exact .lst (SqL.of hx) (DtL.rd sr t il)
 |_,_,_,.tup t,i=>by
  obtain⟨a,xs,rfl,sa,la⟩:=i.of_tup;exact .tup sa (DtL.rd sr t la)
theorem DtL.rd{m:List Addr}{S:Sto}(sr:Sr K m S H):∀{us:List U} {ds:List PyData} {vs:List V},DtL S us ds->IsL K m H vs us->Cd K H vs ds
 |_,_,_,.nil,i=>by rw[i.of_nil];exact .nil
 |_,_,_,.cons h t,i=>by
  obtain⟨x,r,rfl,i1,i2⟩:=i.of_cons;exact .cons (Dt.rd sr h i1) (DtL.rd sr t i2)
end
mutual
theorem Dt.uniq{S:Sto}:∀{u:U} {d e:PyData},Dt S u d->Dt S u e->d=e
 |_,_,_,.non,.non=>rfl
 |_,_,_,.bl _,.bl _=>rfl
 |_,_,_,.int _,.int _=>rfl
 |_,_,_,.str _,.str _=>rfl
 |_,_,_,.lst h t,.lst h' t'=>by
  rw[h]at h';cases h';rw[DtL.uniq t t']
 |_,_,_,.tup t,.tup t'=>by rw[DtL.uniq t t']
theorem DtL.uniq{S:Sto}:∀{us:List U} {ds es:List PyData},DtL S us ds->DtL S us es->ds=es
 |_,_,_,.nil,.nil=>rfl
 |_,_,_,.cons h t,.cons h' t'=>by rw[Dt.uniq h h',DtL.uniq t t']
end
def ER(d:PyData):Prop:=d.canLay0=true/\d.depth<=60
def Pk(K:Z6)(neg:Bool):R2:=fun x y H Q=>(∃dx dy,RdV K H x dx/\RdV K H y dy/\ER dx/\ER dy/\Q (.bl (if neg then !dx.eqv dy else dx.eqv dy)) H)\/
 ∃a b xs ys,x=.ref a/\y=.ref b/\SqL K H a xs/\SqL K H b ys/\xs.length≠ys.length/\Q (.bl neg) H
theorem LX(hu:X.A.units+64<cLine):OpR X (compareOp .Eq) (Pk X.K false):=by
 rintro pins s σ H x y v u Q I rx ry (⟨dx,dy,hx,hy,lx,ly,q⟩|⟨a,b,xs,ys,rfl,rfl,ha,hb,ne,q⟩)
 ·obtain⟨as,hx⟩:=hx.reads I rx;obtain⟨bs,hy⟩:=hy.reads I ry;exact SeqAt.compareEq_reads hx hy lx.1 ly.1 (by have:=lx.2;omega) ⟨.bl _,H,I,rfl,q⟩
 ·cases rx;cases ry;obtain⟨i1,r1,p1,_⟩:=I.list ha;obtain⟨i2,r2,p2,_⟩:=I.list hb;have l1:=r1.length;have l2:=r2.length;exact SeqAt.RcAt.lists_lengths p1.isList p2.isList (by simp;omega) (by omega) X.prog X.w X.xe _ ⟨.bl false,H,I,rfl,q⟩
theorem LV(hu:X.A.units+64<cLine):OpR X (compareOp .NotEq) (Pk X.K true):=by
 rintro pins s σ H x y v u Q I rx ry (⟨dx,dy,hx,hy,lx,ly,q⟩|⟨a,b,xs,ys,rfl,rfl,ha,hb,ne,q⟩)
 ·obtain⟨as,hx⟩:=hx.reads I rx;obtain⟨bs,hy⟩:=hy.reads I ry;exact SeqAt.compareNe_reads hx hy lx.1 ly.1 (by have:=lx.2;omega) ⟨.bl _,H,I,rfl,q⟩
 ·cases rx;cases ry;obtain⟨i1,r1,p1,_⟩:=I.list ha;obtain⟨i2,r2,p2,_⟩:=I.list hb;have l1:=r1.length;have l2:=r2.length;exact SeqAt.RcNeAt.lists_lengths p1.isList p2.isList (by simp;omega) (by omega) X.prog X.w X.xe _ ⟨.bl true,H,I,rfl,q⟩
def Cz(x y:U)(S:Sto)(b:Bool):Prop:=(∃dx dy,Dt S x dx/\Dt S y dy/\ER dx/\ER dy/\b=dx.eqv dy)\/∃l l' us vs,x=.ref l/\y=.ref l'/\S[l]?=some (.lst us)/\S[l']?=some (.lst vs)/\us.length≠vs.length/\b=false
theorem DtL.length{S:Sto}:∀{us:List U} {ds:List PyData},DtL S us ds->us.length=ds.length
 |_,_,.nil=>rfl
 |_,_,.cons _ t=>by rw[ZT,ZT,DtL.length t]
theorem Cz.mix{l l':Nat}{us vs:List U}{S:Sto}{dx dy:PyData}(h1:Dt S (.ref l) dx)(h2:Dt S (.ref l') dy)(k1:S[l]?=some (.lst us))(k2:S[l']?=some (.lst vs))(ne:us.length≠vs.length):dx.eqv dy=false:=by
 cases h1 with
 |lst a1 t1=>
  cases h2 with
  |lst a2 t2=>
   rw[k1]at a1;cases a1;rw[k2]at a2;cases a2;show PyData.eqvAll _ _=false;exact SeqAt.eqvAll_other_length (by rw[<-t1.length,<-t2.length];exact ne)
theorem Cz.uniq{x y:U}{S:Sto}{b c:Bool}(h:Cz x y S b)(k:Cz x y S c):b=c:=by
 rcases h with⟨dx,dy,h1,h2,_,_,rfl⟩|⟨l,l',us,vs,rfl,rfl,h1,h2,ne,rfl⟩
 ·rcases k with⟨ex,ey,k1,k2,_,_,rfl⟩|⟨l,l',us,vs,rfl,rfl,k1,k2,ne,rfl⟩
  ·rw[h1.uniq k1,h2.uniq k2]
  ·exact Cz.mix h1 h2 k1 k2 ne
 ·rcases k with⟨ex,ey,k1,k2,_,_,rfl⟩|⟨_,_,_,_,_,_,_,_,_,rfl⟩
  ·exact(Cz.mix k1 k2 h1 h2 ne).symm
  ·rfl
open Classical in
def El(neg:Bool):U->U->Sto->Option (U×Sto):=fun x y S=>if h:∃b,Cz x y S b then some (.bl (if neg then !h.choose else h.choose),S)else none
theorem wV{x y:U}{S:Sto}{b:Bool}(neg:Bool)(h:Cz x y S b):El neg x y S=some (.bl (if neg then !b else b),S):=by
 unfold El;rw[dif_pos ⟨b,h⟩];have e:(⟨b,h⟩:∃b,Cz x y S b).choose=b:=(Exists.choose_spec (⟨b,h⟩:∃b,Cz x y S b)).uniq h;rw[e]
theorem LP{neg:Bool}:OpP K (Pk K neg) (El neg):=by
 intro m S H x y v w u S' Q sr ix iy hf post;unfold El at hf;split at hf<;>try cases hf
 rename_i h;have hb:=h.choose_spec;generalize h.choose=b at hb post;rcases hb with⟨dx,dy,h1,h2,l1,l2,rfl⟩|⟨l,l',us,vs,rfl,rfl,h1,h2,ne,rfl⟩
 ·exact .inl ⟨dx,dy,h1.rd sr ix,h2.rd sr iy,l1,l2,post m _ H .refl sr .bl_⟩
 ·obtain⟨a,ha,rfl⟩:=ix.of_ref;obtain⟨a',ha',xs,hx,la⟩:=sr.get h1;rw[ha]at ha';cases ha';obtain⟨c,hc,rfl⟩:=iy.of_ref;obtain⟨c',hc',ys,hy,lc⟩:=sr.get h2;rw[hc]at hc';cases hc';refine .inr ⟨a,c,xs,ys,rfl,rfl,SqL.of hx,SqL.of hy,by rw[la.length,lc.length];exact ne,?_⟩;have e:(if neg=true then !false else false)=neg:=by cases neg<;>rfl
  have:=post m _ H .refl sr (Is.bl_ (b:=if neg=true then !false else false));rw[e]at this;exact this
def Ct(us:List U)(lo hi:Option Int):List U:=(us.drop (HT.sIx us.length 0 lo)).take (HT.sIx us.length us.length hi-HT.sIx us.length 0 lo)
theorem FF{m:List Addr}{xs:List V}{us:List U}{lo hi:Option Int}(i:IsL K m H xs us):IsL K m H (BN xs lo hi) (Ct us lo hi):=by
 unfold BN Ct;rw[i.length];exact(i.drop _).take _
def fSl(x:U)(lo hi:Option Int)(S:Sto):Option (U×Sto):=match x with
 |.tup us=>if HT.sIx us.length 0 lo=0/\HT.sIx us.length us.length hi=us.length then none else some (.tup (Ct us lo hi),S)
 |.ref l=>match S[l]? with
  |some (.lst us)=>some (.ref S.length,S++[.lst (Ct us lo hi)])
  |_=>none
 |_=>none
def BV:Option CE->Rho->Sto->Option (Option Int×Sto)
 |none,_,S=>some (none,S)
 |some c,ρ,S=>(c ρ S).bind fun p=>match p.1 with
  |.int i=>some (some i,p.2)
  |_=>none
def cSl(ca:CE)(cl ch:Option CE):CE:=fun ρ S=>(ca ρ S).bind fun p=>(BV cl ρ p.2).bind fun q=>(BV ch ρ q.2).bind fun r=>fSl p.1 q.1 r.1 r.2
def QB(K:Z6)(m:List Addr)(H:Hp)(Q:Option Int->Hp->Prop)(o:Option Int)(S':Sto):Prop:=∀m' H',Ext K m H m' H'->Sr K m' S' H'->Q o H'
def tO(K:Z6)(c:Option CE):TO:=fun σ H Q=>∃m ρ S o S',Sr K m S H/\Lr K m H ρ σ/\BV c ρ S=some (o,S')/\QB K m H Q o S'
abbrev QO(X:Cx)(e:Option ZC)(c:Option CE):Prop:=WO X e (tO X.K c)
theorem fJ:QO X none none:=⟨fun pins s σ H Q I hz=>qC hz fun m ρ S o S' sr lr hc post=>xD.h pins s σ H Q I (by cases hc;exact post m H .refl sr)⟩
theorem fH{e:ZC}{ca:CE}(h:QE X e ca):QO X (some e) (some ca):=⟨fun pins s σ H Q I hz=>qC hz fun m ρ S o S' sr lr hc post=>(xC h).h pins s σ H Q I (by
 obtain⟨⟨x,S1⟩,h1,h2⟩:=Z0.mp hc;refine⟨m,ρ,S,x,S1,sr,lr,h1,fun m1 v1 H1 e1 sr1 i1=>?_⟩;cases x<;>simp at h2;obtain⟨rfl,rfl⟩:=h2;exact⟨_,i1.of_int,post m1 H1 e1 sr1⟩)⟩
theorem zb{e:ZC}{lo hi:Option ZC}{ca:CE}{cl ch:Option CE}{pos p2:Pos}(ha:QE X e ca)(hl:QO X lo cl)(hh:QO X hi ch):QE X (.Subscript e (.Slice lo hi none p2) pos) (cSl ca cl ch):=(uu (Az.or KA) ha hl hh).imp fun σ H Q hz=>qC hz fun m ρ S u S' sr lr hc post=>by
 obtain⟨⟨x,S1⟩,h1,ha⟩:=Z0.mp hc;obtain⟨⟨l,S2⟩,h2,hb⟩:=Z0.mp ha;obtain⟨⟨k,S3⟩,h3,h⟩:=Z0.mp hb;clear ha hb hc;refine⟨m,ρ,S,x,S1,sr,lr,h1,fun m1 v1 H1 e1 sr1 i1=>⟨m1,ρ,S1,l,S2,sr1,lr.mono e1,h2,fun m2 H2 e2 sr2=>⟨m2,ρ,S2,k,S3,sr2,lr.mono (e1.trans e2),h3,fun m3 H3 e3 sr3=>?_⟩⟩⟩;have i3:=i1.mono (e2.trans e3);have e03:=(e1.trans e2).trans e3;cases x with
 |tup us=>
  simp only[fSl]at h;split at h<;>try cases h
  rename_i hw;obtain⟨a,xs,rfl,sa,la⟩:=i3.of_tup;exact .inr ⟨a,xs,rfl,sa,by rw[la.length];exact hw,fun p hp=>tx sr3 (FF la) (post.mono e03) hp⟩
 |ref r=>
  simp only[fSl]at h;split at h<;>try cases h
  rename_i us hS;obtain⟨a,ha,rfl⟩:=i3.of_ref;obtain⟨a',ha',xs,hx,la⟩:=sr3.get hS;rw[ha]at ha';cases ha';exact .inl ⟨a,xs,rfl,SqL.of hx,fun p hp=>gK sr3 (FF la) (post.mono e03) hp⟩
 |_=>simp[fSl]at h
end
section
variable{X:Cx}{K:Z6}
def He(K:Z6):R2:=fun x y H Q=>∃a k xs,x=.ref a/\y=.int k/\SqT K H a xs/\xs≠[]/\1<=k/\xs.length*k.toNat<=1000/\∀q H',xn H H'->SqT K H' q (ZU k.toNat xs).flatten->Q (.ref q) H'
theorem HJ:OpR X (binaryOp .Mult) (He X.K):=by
 intro pins s σ H x y v u Q I rx ry h;obtain⟨a,k,xs,rfl,rfl,ha,hne,hk,hz,q⟩:=h;cases rx;obtain⟨t,rfl⟩:=ry;obtain⟨its,r1,p1,hzz⟩:=I.tuple ha;have hlen:=r1.length;obtain⟨⟨cls,dd,data,sl⟩,ho,hc,n,hd⟩:=id p1;simp only at hc hd;subst hc hd;have hne':its≠[]:=fun z=>hne (r1.nil_iff.mp z);refine wpAny_binaryOp_repeat_ref (T:="tuple") (U:="int") (by decide) ⟨_,ho,rfl⟩ (fun s'=>typeIs_int s' k t) oz F.fills_int_mul F.slot_int_rmul uN F.slot_int_index.lookup
  (call_meets F.slot_int_rmul (typeIs_int s k t) F.entry_int_rmul (F.args_int_rmul_2 _ _) (rb k t a its.toArray n dd sl) ⟨ho,rfl,⟨_,ho,rfl⟩,?_⟩)
 by_cases k1:k=1
 ·subst k1;refine call_meets F.slot_tuple_mul ⟨_,ho,rfl⟩ F.entry_tuple_mul (F.args_tuple_mul_2 _ _) (vQ a its.toArray n dd sl t) ⟨ho,⟨.ref a,H,I,rfl,q a H (.refl _) ?_⟩⟩;simpa using ha
 ·have hfold:List.foldl (fun x1 x2=>x1++x2) #[] (ZU k.toNat its.toArray)=(ZU k.toNat its).flatten.toArray:=by
   have:=qt its k.toNat [];rw[Zo]at this;exact this
  have hfl:(ZU k.toNat its).flatten.length<=1000:=by rw[wG,<-hlen,Nat.mul_comm];exact hz
  have hlp:0<its.length:=XB.mpr hne';have hk2:k.toNat<=1000:=Zl (Nat.le_mul_of_pos_left _ (by rw[hlen];exact hlp)) hz;have hsz:(its.toArray.size:Int)*k<=1000:=by
   rw[ZI,<-hlen];have e:k=((k.toNat:Nat):Int):=by omega
   rw[e,<-Int.natCast_mul];omega
  refine call_meets F.slot_tuple_mul ⟨_,ho,rfl⟩ F.entry_tuple_mul (F.args_tuple_mul_2 _ _) (vP a its.toArray n dd sl k t ?_ ?_ ?_ ?_ ?_ ?_) ⟨ho,?_⟩
  ·simp;omega
  ·simp[hne',k1]
  ·simp[hne'];omega
  ·omega
  ·unfold Builtin.Tuple.tupleTooMany;have:¬(its.toArray.size:Int)*k>(ZP:Int):=by
    have:(1000:Nat)<=ZP:=uH (ZD _);omega
   simpa using this
  ·rw[hfold,ZI];exact uH hfl
  ·rw[hfold];refine⟨.ref s.heap.objs.size,_,I.laid (t':=s.toks) (o:=.tup (ZU k.toNat xs).flatten) (fun b ob q=>ZK _ q) (ZD _) ?_,rfl,q _ _ (eQ (I.hok.fresh (ZD _)) _) (SqT.of bx)⟩;exact⟨uH (by rw[wG,Nat.mul_comm];exact hz),_,r1.rep k.toNat,ET.new _ _⟩
def Bu:U->U->Sto->Option (U×Sto)
 |.int i,.int j,S=>if Cp i j then some (.int (i*j),S)else none
 |.tup us,.int k,S=>if us≠[]/\1<=k/\us.length*k.toNat<=1000 then some (.tup (ZU k.toNat us).flatten,S)else none
 |.ref l,.int k,S=>match S[l]? with
  |some (.lst us)=>if 0<=k/\k<=100000/\us.length*k.toNat<=LIM then some (.ref S.length,S++[.lst (ZU k.toNat us).flatten])else none
  |_=>none
 |_,_,_=>none
theorem Ma:OpR X (binaryOp .Mult) (fun x y H Q=>rI Cp (fun i j=>.int (i*j)) x y H Q\/(He X.K x y H Q\/Ph x y H Q)):=mw.or (HJ.or LU)
instance {us:List U}:Decidable (us≠[]):=match us with
 |[]=>.isFalse fun h=>h rfl
 |_::_=>.isTrue fun h=>by cases h
theorem LJ:OpP K (fun x y H Q=>rI Cp (fun i j=>.int (i*j)) x y H Q\/(He K x y H Q\/Ph x y H Q)) Bu:=by
 intro m S H x y v w u S' Q sr ix iy hf post;cases x<;>cases y<;>simp only[Bu]at hf<;>try cases hf
 ·split at hf<;>try cases hf
  rename_i hc;exact .inl ⟨_,_,ix.of_int,iy.of_int,hc,post m _ H .refl sr .int_⟩
 ·rename_i us k;split at hf<;>try cases hf
  rename_i hc;obtain⟨a,xs,rfl,sa,la⟩:=ix.of_tup;refine .inr (.inl ⟨a,k,xs,rfl,iy.of_int,sa,fun z=>hc.1 ?_,hc.2.1,by rw[la.length];exact hc.2.2,fun q H' s sq=>?_⟩)
  ·subst z;have:=la.length;exact List.length_eq_zero_iff.mp this.symm
  ·exact post m _ H' (.of (fb s)) (sr.same s) (.tup_ sq ((la.rep k.toNat).mono (.of (fb s))))
 ·rename_i l k;split at hf<;>try cases hf
  rename_i us hS;split at hf<;>try cases hf
  rename_i hc;obtain⟨a,ha,rfl⟩:=ix.of_ref;obtain⟨a',ha',xs,hx,la⟩:=sr.get hS;rw[ha]at ha';cases ha';exact .inr (.inr ⟨a,k,xs,rfl,iy.of_int,hx,by omega,by omega,lim (by rw[la.length];exact hc.2.2),fun p hp=>gK sr (la.rep k.toNat) post hp⟩)
end
end OP
namespace OG
open PySem PySem.Spec PyProof.Rows L2
theorem Me{C a:Addr}{m:Str->Option Z7}{h h':Heap}(n:h.Ns C m)(s:Heap.SameBut a h h')(ne:C≠a):h'.Ns C m:=by
 obtain⟨o,es,ep,e,r⟩:=n;exact⟨o,es,ep,(s.2 C ne).trans e,r⟩
theorem yR{X:Cx}{Nc capN tn:List Str}{scope:XA}{cl:List (Str×Addr)}{n:Nat}{caps:List Nat}{tg iter elt:ZC}{pos:Pos}{wi:TI}{g:TG}{te:TE}
  (hc:X.calm=true) (hi:WI X tg iter wi) (hg:∀s3 H3 fp,WG (cxC X Nc scope cl s3 H3 fp) tg g) (he:∀s3 H3 fp,WE (cxC X Nc scope cl s3 H3 fp) elt te)
  (hclos:closureFor scope X.env=pure cl) (hkind:scope.kind=.function) (hnl:∀x∈scope.names,x.2=.local->scope.names.lookup x.1=some .local) (hcell:∀x∈scope.names,x.2≠.cell)
  (hcl:zU X.env cl) (hhas:((relabel scope X.env).names.all fun p=>!(p.2 == .cell||p.2 == .free)||(cl.lookup p.1).isSome)=true)
  (hcap:Paired (Cap X scope cl) caps capN) (hN:Nc=tn++capN) (hn:tn.length=n)
  {i₀:Nat} {x₀:Str} {pos₀ pos':Pos} (hN0:X.N.Nodup) (hi0:X.N[i₀]?=some x₀) (hx0:X.env.scope.names.lookup x₀=some .local)
  (hsw:X7 (.ListComp elt [⟨tg,iter,[],0⟩] scope pos) (some (.Name x₀ pos')) pos₀.line X.env=pure true)
  (hs:∀x,foldedSetIterable iter X.env x=pure x:=by intro _;rfl) :
  WS X (.Assign [.Name x₀ pos'] (.ListComp elt [⟨tg,iter,[],0⟩] scope pos) pos₀) (fun D σ H=>C5 wi g te n caps σ H fun v H'=>D.nx (σ.set i₀ (some v)) H'):=by
 constructor;intro pins s σ H Dn I h;rw[exec_Assign_arm];refine ZQ (wpAny_standAt ?_);have hsw':swapsWithSole [.Name x₀ pos'] (.ListComp elt [⟨tg,iter,[],0⟩] scope pos) pos₀.line X.env=pure true:=hsw;rw[hsw'];refine ZQ (ZO ?_);rw[if_pos rfl,arm_evalThenUse_ListComp];refine ZQ (ZQ (yy (Qf:=fun _ s'=>wpAny (Zv X.prog X.w) X.A (pure ()) (fun _ s'=>wpAny (Zv X.prog X.w) X.A (pure Flow.next) (SP X pins Dn) X.xe s') X.xe s') hc hi hg he hclos hkind hnl hcell hcl hhas hcap hN hn I h (fun D C s6 H5 m I7 hm fr nl sz cn pn qn=>?_) hs));show wpAny _ _ (assign (.Name x₀ pos') X.env (.ref D)) _ _ s6;rw[arm_assign_Name];refine ZQ (wpAny_standAt (wpAny_bindName (uE (v:=.ref D) I7 hN0 hi0 (.inl hx0) rfl (fun s7 I7' hsb=>?_) (.inr hx0))));obtain⟨a7,hsb,ha7⟩:=hsb;have cNe:C≠a7:=by
  rcases ha7 with z|z
  ·rw[z];exact nl
  ·exact Ne.symm (cn _ _ z)
 refine⟨m,Me hm hsb cNe,fun h' hs'=>ZO (ZO ⟨_,H5,?_,qn⟩)⟩;exact I7'.turned (t':=s7.toks) (it:=C) (fun b o hb e=>hs'.extBut b o hb e) fr nl (.inr sz) cn pn
end OG
namespace OP
open PySem PySem.Spec PyProof.Rows L2 OG
section
variable{X:Cx}{K:Z6}
theorem rZ{i₀:Nat}{x₀:Str}{pos₀ pos':Pos}{Nc capN tn:List Str}{scope:XA}{cl:List (Str×Addr)}{n:Nat}{caps:List Nat}{tg iter elt:ZC}{pos:Pos}{ci:CI}{g:CG}{ce:CE}
  (hc:X.calm=true) (hi:QI X tg iter ci) (hg:∀s3 H3 fp,WG (cxC X Nc scope cl s3 H3 fp) tg (tG X.K g)) (he:∀s3 H3 fp,WE (cxC X Nc scope cl s3 H3 fp) elt (tE X.K ce))
  (hclos:closureFor scope X.env=pure cl) (hkind:scope.kind=.function) (hnl:∀x∈scope.names,x.2=.local->scope.names.lookup x.1=some .local) (hcell:∀x∈scope.names,x.2≠.cell)
  (hcl:zU X.env cl) (hhas:((relabel scope X.env).names.all fun p=>!(p.2 == .cell||p.2 == .free)||(cl.lookup p.1).isSome)=true)
  (hcap:Paired (Cap X scope cl) caps capN) (hN:Nc=tn++capN) (hn:tn.length=n)
  (hN0:X.N.Nodup) (hi0:X.N[i₀]?=some x₀) (hx0:X.env.scope.names.lookup x₀=some .local)
  (hsw:X7 (.ListComp elt [⟨tg,iter,[],0⟩] scope pos) (some (.Name x₀ pos')) pos₀.line X.env=pure true)
  (hs:∀x,foldedSetIterable iter X.env x=pure x:=by intro _;rfl) :
  QS X (.Assign [.Name x₀ pos'] (.ListComp elt [⟨tg,iter,[],0⟩] scope pos) pos₀) (b5 i₀ (gE ci g ce n caps)):=(yR hc hi hg he hclos hkind hnl hcell hcl hhas hcap hN hn hN0 hi0 hx0 hsw hs).imp fun D σ H hz=>wY hz fun m ρ S o ρ' S' sr lr hc post=>by
 obtain⟨⟨u,S1⟩,h1,h2⟩:=Z0.mp hc;cases h2;exact yx _ _ _ ⟨m,ρ,S,u,_,sr,lr,h1,fun m1 v1 H1 e1 sr1 i1=>post m1 _ H1 e1 sr1 ((lr.mono e1).set i₀ i1)⟩
end
end OP
namespace OP
open PySem PySem.Spec PyProof PyProof.Rows L2 OG
section
variable{X:Cx}
def M5(ca:CE):CE:=fun ρ S=>(ca ρ S).bind fun p=>match p.1 with
 |.int i=>some (.int (-i),p.2)
 |_=>none
theorem Kb:UnR X (unaryOp .USub) (fun x H Q=>∃i,x=.int i/\Q (.int (-i)) H):=by
 rintro pins s σ H x v Q I rx ⟨i,rfl,q⟩;obtain⟨t,rfl⟩:=rx;exact PyProof.Rows.neg_int ⟨.int (-i),H,I.tok _,⟨_,rfl⟩,q⟩
theorem Po{a:ZC}{ca:CE}{pos:Pos}(ha:QE X a ca):QE X (.UnaryOp .USub a pos) (M5 ca):=(J5 Kb ha).imp fun σ H Q hz=>qC hz fun m ρ S u S' sr lr hc post=>by
 obtain⟨⟨x,S1⟩,h1,h2⟩:=Z0.mp hc;refine⟨m,ρ,S,x,S1,sr,lr,h1,fun m1 v1 H1 e1 sr1 i1=>?_⟩;cases x<;>simp at h2;obtain⟨rfl,rfl⟩:=h2;exact⟨_,i1.of_int,post m1 _ H1 e1 sr1 .int_⟩
end
end OP
namespace OG
open PySem PySem.Spec PyProof.Rows L2
section
variable{X:Cx}{tg:ZC}
theorem CQ{x z:Str}{pos:Pos}(hg:Gl X x)(hm:∃t,X.mg x=some (.str z t))(hd:(x == ("__debug__":Str))=false:=by decide):WE X (.Name x pos) (tC (.str z)):=by
 obtain⟨t,hm⟩:=hm;exact⟨we hg hm ⟨t,rfl⟩ hd⟩
theorem ji{x:Str}{a:Addr}{pos:Pos}(hg:Gl X x)(hm:X.mg x=some (.ref a))(hd:(x == ("__debug__":Str))=false:=by decide):WE X (.Name x pos) (tC (.ref a)):=
 ⟨we hg hm rfl hd⟩
def KW:List V->Hp->VK->Prop:=fun xs H Q=>∃z,xs=[.str z]/\z.length<=1000000/\Q (.int z.length) H
theorem Fj:gU X (.builtin "len") KW:=by
 rintro pins s σ H xs us Q I r ⟨z,rfl,hz,q⟩;obtain⟨u,rfl,t,rfl⟩:=oj r;exact P.len_str (by omega) ⟨.int z.length,H,I.tok _,⟨_,rfl⟩,q⟩
def KZ:List V->Hp->VK->Prop:=fun xs H Q=>∃(z:Str) (n:Int),xs=[.str z]/\z.length<=640/\PySem.intText? z=some n/\Q (.int n) H
theorem Mb:gU X (.type "int") KZ:=by
 rintro pins s σ H xs us Q I r ⟨z,n,rfl,hz,hn,q⟩;obtain⟨u,rfl,t,rfl⟩:=oj r;exact PySem.W.KIN.call_text hn hz ⟨.int n,H,I.tok _,⟨_,rfl⟩,q⟩
def Q5:R2:=fun x y H Q=>∃a b:Str,x=.str a/\y=.str b/\Q (.bl (Txt.contains b a)) H
theorem LW:OpR X (compareOp .In) Q5:=by
 rintro pins s σ H x y v u Q I rx ry ⟨a,b,rfl,rfl,q⟩;obtain⟨t,rfl⟩:=rx;obtain⟨t',rfl⟩:=ry;exact P.in_str ⟨.bl _,H,I,rfl,q⟩
def Its(z:Str):It:=⟨fun i _=>i<z.cps.size,fun i H x H'=>H'=H/\∃c,z.cps[i]?=some c/\x=.str ⟨#[c]⟩,fun i _=>z.cps.size<=i⟩
theorem C2{P:ZS}{w:Zg}{K:Z6}{tg:ZC}(it:Addr)(z:Str)(t:Tok):Jj P w K tg (Its z) [it] it (fun i h=>i<=z.cps.size/\h.IsStrIter it "str_ascii_iterator" z t i) where
 mem:=by simp
 obj:=fun i h st b hb=>by
  have e:b=it:=by simpa using hb
  subst e;obtain⟨_,o,e,c,d⟩:=st;exact⟨o,e,fun v y=>by rw[d]at y;cases y⟩
 keep:=fun i h h' st k=>by
  obtain⟨l,o,e,r⟩:=st;exact⟨l,o,k it (by simp) o e,r⟩
 item:=by
  intro X hP hw hK hc i pins s σ H E I hf st hg;subst hP hw hK;obtain⟨f0,f1,f2,f3,f4,f5⟩:=hf it (by simp);have W:=Walks.strAscii (prog:=X.prog) (w:=X.w) (I.ok.hd hc) it z t;refine W.item i s _ _ hg st.2 fun v h' tk hv st' kk=>?_;obtain⟨c,u,hcz,rfl⟩:=hv;have I1:Inv X pins σ H { s with heap:=h',toks:=tk }:=I.turned (fun b o hb e=>kk b o (by simpa using hb) e) f0 f1 f3 f4 f5;obtain⟨o,e,cc,d⟩:=id st';exact⟨_,rfl,Eh (s:={ s with heap:=h',toks:=tk }) e cc d (by decide) ⟨.str ⟨#[c]⟩,H,I1,⟨u,rfl⟩,⟨rfl,c,hcz,rfl⟩,⟨hg,st'⟩,fun b hb=>(hf b hb).1⟩⟩
 done:=by
  intro X hP hw hK hc i pins s σ H E I hf st hg;subst hP hw hK;obtain⟨f0,f1,f2,f3,f4,f5⟩:=hf it (by simp);have W:=Walks.strAscii (prog:=X.prog) (w:=X.w) (I.ok.hd hc) it z t;have hi:i=z.cps.size:=Nat.le_antisymm st.1 hg;subst hi;exact W.done s _ _ st.2 fun h' tk kk=>⟨rfl,I.turned (fun b o hb e=>kk b o (by simpa using hb) e) f0 f1 f3 f4 f5⟩
 self:=fun _ _ _ _ _ st h=>wpAny_pyIter_striter_ascii st.2 h
def Qj(tl:TE):TI:=fun σ H R=>tl σ H fun x H1=>∃z,x=.str z/\z.cps.all (· < 128)=true/\R (Its z) H1
theorem Gh{l:ZC}{tl:TE}(hl:WE X l tl):WI X tg l (Qj tl):=⟨by
 intro pins s σ H R I h;refine thn (hl.h pins s σ H _ I h) fun v s1 hz=>?_;obtain⟨x,H1,I1,r1,q1⟩:=hz;obtain⟨z,e,ha,q⟩:=q1;subst e;obtain⟨t,rfl⟩:=r1;refine wpAny_pyIter_ascii ha ?_;refine⟨s1.heap.objs.size,[s1.heap.objs.size],_,_,H1,rfl,I1.kept (t':=s1.toks) fun b o e=>ZK _ e,C2 _ z t,⟨X1 _,_,Zy _ rfl,rfl,rfl⟩,fun b hb=>?_,q⟩;have e:b=s1.heap.objs.size:=by simpa using hb
 subst e;exact I1.fpOk (ZD _) (I1.hok.fresh (ZD _))⟩
theorem Ar:∀{ys:List Str} {its:List Z7},cU (ys.map V.str) its->StrsAre its ys
 |[],its,h=>by cases h;exact .nil
 |y::ys,its,h=>by
  cases h with
  |cons a b=>
   obtain⟨t,rfl⟩:=a;exact .cons y t (Ar b)
theorem uy:∀l:List (Str×Tok),cU ((l.map (·.1)).map V.str) (strValues l)
 |[]=>.nil
 |p::l=>.cons ⟨p.2,rfl⟩ (uy l)
def KY(K:Z6):V->List V->Hp->VK->Prop:=fun x xs H Q=>∃(a:Str) (p:Addr) (ys:List Str),x=.str a/\xs=[.ref p]/\SqL K H p (ys.map V.str)/\(ys.map (·.length)).sum+ys.length*a.length<=1000000/\Q (.str (Str.join a ys)) H
theorem Ia:MtR X "str.join" (KY X.K):=by
 rintro pins s σ H x xs v us Q I rx rs ⟨a,p,ys,rfl,rfl,hq,hl,q⟩;obtain⟨t,rfl⟩:=rx;obtain⟨u,rfl,ru⟩:=oj rs;cases ru;obtain⟨its,rv,pl,hz⟩:=I.list hq;refine join_list pl.isList (ys:=ys) (Ar (by simpa using rv)) (by omega) fun t' k=>?_;have e:Txt.join a ys=Str.join a ys:=StrLaws.glued_eq_join a ys;rw[e];exact⟨.str _,H,I.tok _,⟨_,rfl⟩,q⟩
def Fd:V->List V->Hp->VK->Prop:=fun x xs H Q=>∃a y:Str,x=.str a/\xs=[.str y]/\(y.length == 0)=false/\a.length<=100000/\∀l,H l=none->Q (.ref l) (upd H l (.lst ((Txt.split a y).map V.str)))
theorem DZ:MtR X "str.split" Fd:=by
 rintro pins s σ H x xs v us Q I rx rs ⟨a,y,rfl,rfl,hy,hl,q⟩;obtain⟨t,rfl⟩:=rx;obtain⟨u,rfl,t',rfl⟩:=oj rs;have occ:=StrLaws.occ_length_le a y 0 a.length (a.length+1);have few:(Txt.split a y).length<=100002:=by
  unfold Txt.split;split
  ·simp
  ·split
   ·simp
   ·rw[length_partsBetween];omega
 have line:100002<=ZP:=by unfold ZP;decide
 have key:∀(l:List (Str×Tok)) (k:Nat),l.map (·.1)=Txt.split a y->EP X pins σ Q (.ref s.heap.objs.size) { s with heap:=s.heap.push { cls:=.type "list",data:=.seq (strValues l).toArray },toks:=k }:=fun l k e=>
  ⟨.ref _,_,I.laid (o:=.lst ((Txt.split a y).map V.str)) (t':=k) (fun b o z=>ZK _ z) (ZD _) ⟨by rw[ZN];omega,strValues l,0,by rw[<-e];exact uy l,Zy _ rfl⟩,rfl,q _ (I.hok.fresh (ZD _))⟩
 cases c1:(decide (a.length<y.length)||decide (Builtin.Str.strKind a<Builtin.Str.strKind y))with
 |true=>exact call_meets F.slot_str_split (typeIs_str _ _ _) F.entry_str_split (F.args_str_split_2 _ _) (meets_str_split_cannot_occur a y t t' c1) (key [(a,t)] s.toks (by unfold Txt.split;rw[if_pos c1];rfl))
 |false=>
  have n1:¬(decide (a.length<y.length)||decide (Builtin.Str.strKind a<Builtin.Str.strKind y))=true:=by rw[c1];exact ZL
  cases c2:(Builtin.Str.occurrences a y 0 a.length (a.length+1)).isEmpty with
  |true=>exact call_meets F.slot_str_split (typeIs_str _ _ _) F.entry_str_split (F.args_str_split_2 _ _) (meets_str_split_not_found a y t t' c1 hy c2) (key [(a,t)] s.toks (by unfold Txt.split;rw[if_neg n1,if_pos c2];rfl))
  |false=>
   have few2:(Builtin.Str.partsBetween a (Builtin.Str.occurrences a y 0 a.length (a.length+1)) y.length).length<=ZP:=by rw[length_partsBetween];omega
   have hsp:Txt.split a y=Builtin.Str.partsBetween a (Builtin.Str.occurrences a y 0 a.length (a.length+1)) y.length:=by unfold Txt.split;rw[if_neg n1,if_neg (by rw[c2];exact ZL)]
   refine call_meets F.slot_str_split (typeIs_str _ _ _) F.entry_str_split (F.args_str_split_2 _ _) (meets_str_split_sep a y t t' c1 hy c2 (by omega) few2) ?_;have k:=key (numbered s.toks (Builtin.Str.partsBetween a (Builtin.Str.occurrences a y 0 a.length (a.length+1)) y.length)) (s.toks+(Builtin.Str.partsBetween a (Builtin.Str.occurrences a y 0 a.length (a.length+1)) y.length).length) ((numbered_texts _ _).trans hsp.symm);rw[<-strsFrom_eq]at k;exact k
end
end OG
namespace OP
open PySem PySem.Spec PyProof.Rows L2 OG
section
variable{X:Cx}{K:Z6}{a b o e:ZC}{es:List ZC}{ca cb co:CE}{cr:CA}{pos apos cpos:Pos}
def zD:Fn
 |[.str z],S=>if z.length<=1000000 then some (.int z.length,S)else none
 |_,_=>none
theorem Fg:oM K KW zD:=by
 intro m S H us vs u S' Q sr i hf post;match us,hf with
 |[.str z],hf=>
  obtain⟨v,rfl,iv⟩:=i.one;simp only[zD]at hf;split at hf<;>try cases hf
  rename_i hz;exact⟨z,by rw[iv.of_str],hz,post m _ H .refl sr .int_⟩
def Bw:Fn
 |[.str z],S=>if z.length<=640 then(PySem.intText? z).bind fun n=>some (.int n,S)else none
 |_,_=>none
theorem LN:oM K KZ Bw:=by
 intro m S H us vs u S' Q sr i hf post;match us,hf with
 |[.str z],hf=>
  obtain⟨v,rfl,iv⟩:=i.one;simp only[Bw]at hf;split at hf<;>try cases hf
  rename_i hz;obtain⟨n,hn,h2⟩:=Z0.mp hf;cases h2;exact⟨z,n,by rw[iv.of_str],hz,hn,post m _ H .refl sr .int_⟩
def FA:U->U->Sto->Option (U×Sto)
 |.str x,.str y,S=>some (.bl (Txt.contains y x),S)
 |_,_,_=>none
theorem PM:OpP K Q5 FA:=by
 intro m S H x y v w u S' Q sr ix iy hf post;cases x<;>cases y<;>simp only[FA]at hf<;>try cases hf
 exact⟨_,_,ix.of_str,iy.of_str,post m _ H .refl sr .bl_⟩
def Jf:U->U->Sto->Option (U×Sto)
 |.str z,.int i,S=>if 0<=i/\i<z.length/\z.length<=1000000 then(z.cps[i.toNat]?).bind fun c=>some (.str ⟨#[c]⟩,S)else none
 |_,_,_=>none
theorem PL:OpP K (fun x y H Q=>∃z i c,x=.str z/\y=.int i/\0<=i/\i<2^63/\i<z.length/\z.cps[i.toNat]?=some c/\Q (.str ⟨#[c]⟩) H) Jf:=by
 intro m S H x y v w u S' Q sr ix iy hf post;cases x<;>cases y<;>simp only[Jf]at hf<;>try cases hf
 split at hf<;>try cases hf
 rename_i z i hc;obtain⟨c,h1,h2⟩:=Z0.mp hf;cases h2;exact⟨z,i,c,ix.of_str,iy.of_int,hc.1,by omega,hc.2.1,h1,post m _ H .refl sr .str_⟩
def Pp(ha:QE X a ca)(hb:QE X b cb)(hs:ue b):QE X (.Subscript a b pos) (cOp Jf ca cb):=(uv ha hb hs).imp (uS PL)
theorem Pq(ha:QE X a ca)(hb:QE X b cb)(hm:behindInMarks .In b=false):QE X (.Compare a [.In] [b] pos) (cOp FA ca cb):=(xF LW ha hb hm).imp (uS PM)
theorem MB{m:List Addr}{H:Hp}{z:Str}:FO K (Its z) m H ((signs z).map U.str) (fun _=>True):=by
 intro m2 S2 H2 i e2 sr2 _;refine⟨fun u hu=>?_,fun hi=>by show z.cps.size<=i;rw[ZN,signs_length]at hi;exact hi⟩;rw[Zk]at hu;cases hc:z.cps[i]? with
 |none=>
  have:(signs z)[i]?=none:=Zm (by rw[signs_length];exact Array.getElem?_eq_none_iff.mp hc);rw[this]at hu;cases hu
 |some c=>
  rw[signs_get hc]at hu;cases hu;refine⟨(XY.mp hc).1,fun y H3 hy=>?_⟩;obtain⟨rfl,c',hc',rfl⟩:=hy;rw[hc]at hc';cases hc';exact⟨.refl,sr2,.str_⟩
def NH(ca:CE):CI:=fun ρ S=>(ca ρ S).bind fun p=>match p.1 with
 |.str z=>if z.cps.all (· < 128)=true then some ((signs z).map U.str,fun _=>True,p.2)else none
 |_=>none
theorem K4{tg:ZC}(h:QE X e ca):QI X tg e (NH ca):=(Gh h).imp fun σ H R hz=>wY hz fun m ρ S us ok S' sr lr hc post=>by
 obtain⟨⟨u,S1⟩,h1,h2⟩:=Z0.mp hc;cases u with
 |str z=>
  simp only at h2;split at h2<;>try cases h2
  rename_i hz;exact⟨m,ρ,S,.str z,_,sr,lr,h1,fun m1 v1 H1 e1 sr1 i1=>⟨z,i1.of_str,hz,post m1 H1 _ e1 sr1 MB⟩⟩
 |_=>simp at h2
def cBS(f:U->List U->Sto->Option (U×Sto))(co:CE)(cr:CA):CE:=fun ρ S=>(co ρ S).bind fun p=>match p.1 with
 |.str _=>(cr ρ p.2).bind fun q=>f p.1 q.1 q.2
 |_=>none
theorem FK{r:V->List V->Hp->VK->Prop}{f:U->List U->Sto->Option (U×Sto)}(hp:MtP K r f):∀σ H Q,tE K (cBS f co cr) σ H Q->tBM K "str" r (tE K co) (tA K cr) σ H Q:=by
 rintro σ H Q ⟨m,ρ,S,u,S',sr,lr,hc,post⟩;obtain⟨⟨x,S1⟩,h1,h2⟩:=Z0.mp hc;refine⟨m,ρ,S,x,S1,sr,lr,h1,fun m1 v1 H1 e1 sr1 i1=>?_⟩;cases x with
 |str z=>
  obtain⟨⟨us,S2⟩,h3,h4⟩:=Z0.mp h2;have ev:=i1.of_str;subst ev;exact⟨rfl,m1,ρ,S1,us,S2,sr1,lr.mono e1,h3,fun m2 vs H2 e2 sr2 i2=>hp m2 S2 H2 _ _ us vs u S' Q sr2 (i1.mono e2) i2 h4 (post.mono (e1.trans e2))⟩
 |_=>simp at h2
def yX:List U->Option (List Str)
 |[]=>some []
 |.str y::us=>(yX us).bind fun ys=>some (y::ys)
 |_::_=>none
theorem o8:∀ys:List Str,yX (ys.map U.str)=some ys
 |[]=>rfl
 |y::ys=>by rw[ZG,yX,o8 ys];rfl
theorem yl{m:List Addr}{H:Hp}:∀{us:List U} {xs:List V} {ys:List Str},IsL K m H xs us->yX us=some ys->xs=ys.map V.str
 |[],xs,ys,h,e=>by
  rw[h.of_nil];cases e;rfl
 |.str y::us,xs,ys,h,e=>by
  obtain⟨x,r,rfl,ix,il⟩:=h.of_cons;rw[yX]at e;obtain⟨zs,h1,h2⟩:=Z0.mp e;cases h2;rw[ix.of_str,yl il h1];rfl
 |.non::us,xs,ys,h,e=>by cases e
 |.bl _::us,xs,ys,h,e=>by cases e
 |.int _::us,xs,ys,h,e=>by cases e
 |.tup _::us,xs,ys,h,e=>by cases e
 |.ref _::us,xs,ys,h,e=>by cases e
 |.kl _::us,xs,ys,h,e=>by cases e
def lF:U->List U->Sto->Option (U×Sto)
 |.str x,[.ref l],S=>match S[l]? with
  |some (.lst us)=>(yX us).bind fun ys=>if (ys.map (·.length)).sum+ys.length*x.length<=1000000 then some (.str (Str.join x ys),S)else none
  |_=>none
 |_,_,_=>none
theorem LL:MtP K (KY K) lF:=by
 intro m S H x v us vs u S' Q sr ix il hf post;match x,us,hf with
 |.str x,[.ref l],hf=>
  simp only[lF]at hf;split at hf<;>try cases hf
  rename_i ws hS;obtain⟨ys,h1,h2⟩:=Z0.mp hf;have hl:(ys.map (·.length)).sum+ys.length*x.length<=1000000:=Classical.byContradiction fun z=>by rw[if_neg z]at h2;cases h2
  rw[if_pos hl]at h2;cases h2;obtain⟨y,rfl,iy⟩:=il.one;obtain⟨p,hp,rfl⟩:=iy.of_ref;obtain⟨p',hp',xs,hx,lx⟩:=sr.get hS;rw[hp]at hp';cases hp';have ex:=yl lx h1;subst ex;exact⟨x,p,ys,ix.of_str,rfl,SqL.of hx,hl,post m _ H .refl sr .str_⟩
theorem sh{m:List Addr}{H:Hp}:∀ys:List Str,IsL K m H (ys.map V.str) (ys.map U.str)
 |[]=>.nil_
 |y::ys=>.cons_ .str_ (sh ys)
def jf:U->List U->Sto->Option (U×Sto)
 |.str x,[.str y],S=>if (y.length == 0)=false/\x.length<=100000 then some (.ref S.length,S++[.lst ((Txt.split x y).map U.str)])else none
 |_,_,_=>none
theorem HH:MtP K Fd jf:=by
 intro m S H x v us vs u S' Q sr ix il hf post;match x,us,hf with
 |.str x,[.str y],hf=>
  simp only[jf]at hf;split at hf<;>try cases hf
  rename_i hl;obtain⟨z,rfl,iz⟩:=il.one;exact⟨x,y,ix.of_str,by rw[iz.of_str],hl.1,hl.2,fun l hn=>gK sr (sh _) post hn⟩
theorem xW (ho : QE X o co) (ha : QA X (e :: es) cr) (hbase : attributeBase o "join" X.env (eval o X.env) = eval o X.env := by rfl) (hfew : ((Zf cpos (ZX (e :: es) X.env)).all (fun x => !x.1) && (backToKw cpos (keywordEach [] X.env)).all (fun x => x.1.isSome)
   && decide ((e::es).length+([]:List Keyword).length+(if ([]:List Keyword).isEmpty then 0 else 1)<30))=true:=by rfl) (hline:(apos.endLine == cpos.line)=true:=by rfl) (hs:ZX (e::es) X.env=(false,eval e X.env)::ZX es X.env:=by rfl) (hplain:(Zf cpos (ZX es X.env)).any (·.1)=false:=by rfl) :
  QE X (.Call (.Attribute o "join" apos) (e::es) [] cpos) (cBS lF co cr):=(uw PySem.F.plainAttrs_str PySem.F.slot_str_join PySem.F.type_str_join Ia ho ha.h hbase hfew hline hs hplain).imp (FK LL)
theorem vY (ho : QE X o co) (ha : QA X (e :: es) cr) (hbase : attributeBase o "split" X.env (eval o X.env) = eval o X.env := by rfl) (hfew : ((Zf cpos (ZX (e :: es) X.env)).all (fun x => !x.1) && (backToKw cpos (keywordEach [] X.env)).all (fun x => x.1.isSome)
   && decide ((e::es).length+([]:List Keyword).length+(if ([]:List Keyword).isEmpty then 0 else 1)<30))=true:=by rfl) (hline:(apos.endLine == cpos.line)=true:=by rfl) (hs:ZX (e::es) X.env=(false,eval e X.env)::ZX es X.env:=by rfl) (hplain:(Zf cpos (ZX es X.env)).any (·.1)=false:=by rfl) :
  QE X (.Call (.Attribute o "split" apos) (e::es) [] cpos) (cBS jf co cr):=(uw PySem.F.plainAttrs_str PySem.F.slot_str_split PySem.F.type_str_split DZ ho ha.h hbase hfew hline hs hplain).imp (FK HH)
def Nm(K:Z6)(mg:Str->Option Z7)(x:Str)(is:List Int):Prop:=∃(a:Addr) (o:Obj) (its:Array Z7) (n:Nat),mg x=some (.ref a)/\K.lookup a=some o/\(o.cls=.type "tuple"/\o.dict=none)/\o.data=.seq its n/\its.size<=ZP/\cU (is.map V.int) its.toList
theorem si{m:List Addr}{H:Hp}:∀is:List Int,IsL K m H (is.map V.int) (is.map U.int)
 |[]=>.nil_
 |i::is=>.cons_ .int_ (si is)
theorem p8{x:Str}{is:List Int}{us:List U}(hg:Gl X x)(hm:Nm X.K X.mg x is)(hd:(x == ("__debug__":Str))=false:=by decide)(hu:is.map U.int=us:=by rfl):QE X (.Name x pos) (cC (.tup us)):=by
 subst hu;obtain⟨p,o,its,n,h1,h2,h3,h4,h5,h6⟩:=hm;exact q_c (ji hg h1 hd) fun m H=>.tup_ (.inr ⟨o,its,n,h2,h3,h4,h5,h6⟩) (si is)
end
section
variable{P:ZS}{w:Zg}{K:Z6}{h base:Heap}{mg:Str->Option Z7}{x q:Str}{st:Zw}{f C:Addr}{oc:Z7}{od an:Option Addr}{osl:Array (Option Z7)}{kV doc pm cdv ct:Z7}{ps N:List Str}{k:Nat}{c:CS}{cl:Cl}
def Rx(K:Z6)(x q:Str)(st:Zw)(f:Addr):Prop:=∃fd,Fun K x q st f fd
abbrev fAt(x q:Str)(st:Zw)(oc:Z7)(od an:Option Addr)(osl:Array (Option Z7))(kV doc pm cdv ct:Z7):Obj:=⟨oc,od,.func (PySem.W.fnOf x q (lH st) (dX st) (ay st) .none kV doc pm an cdv ct),osl⟩
def Nq(K:Z6)(x:Str)(st:Zw):Prop:=∃f,PySem.W.nsIn K mainGlobals x=some (some (.ref f))/\Rx K x x st f
theorem Sk(a:PySem.W.nsIn K mainGlobals x=some (some (.ref f)))(l:K.lookup f=some (fAt x x st oc od an osl kV doc pm cdv ct))(c:PySem.W.codeIn K cdv x=true)(k:PySem.W.keepIn K (.ref f)=true):Nq K x st:=⟨f,a,_,Fz l c k⟩
def Np(K:Z6):List (Str×Zw)->Prop
 |[]=>True
 |(x,st)::r=>Nq K x st/\Np K r
def Nk(K:Z6)(C:Addr)(x q:Str)(st:Zw):Prop:=∃f,PySem.W.findIn K (.ref C) x=some (some (.ref f))/\PySem.W.isFn K (.ref f)=true/\Rx K x q st f
theorem PX(a:PySem.W.findIn K (.ref C) x=some (some (.ref f)))(i:PySem.W.isFn K (.ref f)=true)(l:K.lookup f=some (fAt x q st oc od an osl kV doc pm cdv ct))(c:PySem.W.codeIn K cdv q=true)(k:PySem.W.keepIn K (.ref f)=true):Nk K C x q st:=⟨f,a,i,_,Fz l c k⟩
def Nj(K:Z6)(C:Addr):List (Str×Str×Zw)->Prop
 |[]=>True
 |(x,q,st)::r=>Nk K C x q st/\Nj K C r
def Ni(K:Z6)(C:Addr):List Str->Prop
 |[]=>True
 |x::r=>PySem.W.findIn K (.ref C) x=some none/\Ni K C r
def NR(K:Z6):List Str->Prop
 |[]=>True
 |x::r=>PySem.W.nsIn K mainGlobals x=some none/\NR K r
structure Ja(K:Z6)(x:Str)(C:Addr)(ns:List Str)(ms:List (Str×Str×Zw)):Prop where
 a:PySem.W.nsIn K mainGlobals x=some (some (.ref C))
 pg:PySem.W.plainGet K C Str.empty=true
 hd:PySem.W.hasDictIn K C=true
 po:PySem.W.plainOver K C=true
 sa:PySem.W.findIn K (.ref C) "__setattr__"=some (some (.builtin "object.__setattr__"))
 mc:PySem.W.makesIn K C=true
 kc:PySem.W.keepIn K (.ref C)=true
 nf:Ni K C ns
 ms:Nj K C ms
theorem Ni.nas:∀{ns:List Str},Ni K C ns->∀f∈ns,PySem.W.findIn K (.ref C) f=some none
 |[],_,f,h=>by cases h
 |x::r,h,f,hf=>by
  rcases Zx.mp hf with rfl|z
  ·exact h.1
  ·exact Ni.nas h.2 f z
theorem Ja.tc{ns:List Str}{ms:List (Str×Str×Zw)}(h:Ja K x C ns ms):TC K (⟨C,ns⟩:Cl) ns:=⟨⟨h.pg,h.hd,h.po,h.sa⟩,rfl,fun f hf=>h.nf.nas f hf⟩
abbrev Bd(x q:Str)(st:Zw)(ps:List Str):Prop:=∀us:List Z7,us.length=ps.length->∀(kV doc pm:Z7) (an:Option Addr) (cdv ct:Z7),bindArgs (PySem.W.fnOf x q (lH st) (dX st) (ay st) .none kV doc pm an cdv ct) ⟨us,[]⟩=pure (ps.zip us)
theorem Nq.df(d:Nq K x st)(X:K.In h)(G:h.Ns mainGlobals mg)(b:Bd x x st ps:=by first|exact Ji fun _ _ _ _ _ _=>rfl|(repeat (first|exact Ji fun _ _ _ _ _ _=>rfl|refine Qy fun _=>?_))):Def K mg x st ps:=by
 obtain⟨f,a,fd,F⟩:=d;exact⟨f,fd,F,F.binds fun kV doc pm an cdv ct us hl=>b us hl kV doc pm an cdv ct,PySem.W.mg_of X G a⟩
def MtD(K:Z6)(C:Addr)(x q:Str)(st:Zw)(ps:List Str):Prop:=∃fa fd,Fun K x q st fa fd/\gW K fd ps []/\Cw K C x fa
theorem Nk.mt(d:Nk K C x q st)(b:Bd x q st ps:=by first|exact Ji fun _ _ _ _ _ _=>rfl|(repeat (first|exact Ji fun _ _ _ _ _ _=>rfl|refine Qy fun _=>?_))):MtD K C x q st ps:=by
 obtain⟨f,a,i,fd,F⟩:=d;exact⟨f,fd,F,F.binds fun kV doc pm an cdv ct us hl=>b us hl kV doc pm an cdv ct,a,i,F.kp⟩
theorem MtD.pure(d:MtD K cl.C x q st ps)(S:aG N ps (ay st))
  (hb:∀(f:Addr) (cdv:Z7) (A:Za) (outer:List Env) (s:ZZ) (H:Hp) (E:XK),gS k (A.deeper (envOfC q (ay st) s.heap.objs.size f cdv))->WSs (w9 CX0 P w K mg base N q (ay st) f cdv A outer s H E).nox (dX st) (tS K c)) :
  cH P w K mg base cl x (k+1) ps (fnU N.length ps.length c):=by
 obtain⟨fa,fd,F,b,m⟩:=d;exact⟨fa,fd,m,F.pure S (hb fa),b⟩
theorem MtD.no(d:MtD K cl.C x q st ps):cH P w K mg base cl x k ps (fun _ _=>none):=by
 obtain⟨fa,fd,F,b,m⟩:=d;exact cH.no F b m
def MkD(K:Z6)(mg:Str->Option Z7)(C:Addr)(x q:Str)(st:Zw)(ps:List Str):Prop:=∃fa fd,Fun K "__init__" q st fa fd/\gW K fd ps []/\Mk K C fa/\mg x=some (.ref C)
theorem Ja.mkd{ns:List Str}{ms:List (Str×Str×Zw)}(h0:Ja K x C ns ms)(d:Nk K C "__init__" q st)(X:K.In h)(G:h.Ns mainGlobals mg)(b:Bd "__init__" q st ps:=by first|exact Ji fun _ _ _ _ _ _=>rfl|(repeat (first|exact Ji fun _ _ _ _ _ _=>rfl|refine Qy fun _=>?_))):MkD K mg C x q st ps:=by
 obtain⟨f,a,i,fd,F⟩:=d;exact⟨f,fd,F,F.binds fun kV doc pm an cdv ct us hl=>b us hl kV doc pm an cdv ct,⟨h0.mc,a,i,h0.kc⟩,PySem.W.mg_of X G h0.a⟩
theorem MkD.pure{NS:List Str}(d:MkD K mg cl.C x q st ps)(T:TC K cl NS)(S:aG N ps (ay st))
  (hb:∀(f:Addr) (cdv:Z7) (A:Za) (outer:List Env) (s:ZZ) (H:Hp) (E:XK),gS k (A.deeper (envOfC q (ay st) s.heap.objs.size f cdv))->WSs (w9 CX0 P w K mg base N q (ay st) f cdv A outer s H E).nox (dX st) (tS K c))
  (nd:NS.Nodup:=by decide +kernel) (few:NS.length<1000:=by decide):CMk P w K mg base cl x (k+1) ps (fnU N.length ps.length c):=by
 obtain⟨fa,fd,F,b,m,g⟩:=d;exact⟨⟨fa,fd,m,F.pure S (hb fa),b,g⟩,by rw[T.ns];exact nd,by rw[T.ns];exact few⟩
def Rt:List Str:=["len","isinstance","int","bool","str","tuple","list","range","min","sum","all","zip","sorted","dict","enumerate","any","max","set"]
theorem NR.blt(z:NR K Rt)(X:K.In h)(G:h.Ns mainGlobals mg):Blt mg:=by
 obtain⟨a,b,c,d,e,f,g,i,j,k,l,m,n,o,p,q,r,s,-⟩:=z;constructor<;>(refine PySem.W.mg_none_of X G ?_;assumption)
theorem Mn{sp:Sp}{fa:Addr}(d:Nq K "law" st)(X:K.In h)(G:h.Ns mainGlobals mg)(hfa:mg "law"=some (.ref fa))(ok:∀fd,Fun K "law" "law" st fa fd->∀base:Heap,lU P w K mg base CX0 k fa fd ["script"] sp)
  (b:∀(kV doc pm:Z7) (an:Option Addr) (cdv ct v:Z7),bindArgs (PySem.W.fnOf "law" "law" (lH st) (dX st) (ay st) .none kV doc pm an cdv ct) ⟨[v],[]⟩=pure [(("script":Str),v)]:=by intros;rfl) :
  ∃fd:X5,(∀(s:ZZ) (v:Z7),BindsTo s fd ⟨[v],[]⟩ [("script",v)])/\∀base:Heap,K.In base->base.Ns mainGlobals mg->lU P w K mg base CX0 k fa fd ["script"] sp:=by
 obtain⟨f,a,fd,F⟩:=d;cases hfa.symm.trans (PySem.W.mg_of X G a);refine⟨fd,fun s v=>?_,fun base _ _=>ok fd F base⟩;obtain⟨oc,od,kV,doc,pm,an,cdv,ct,osl,rfl,lk,hcd⟩:=F.ex;exact .of_eq (b kV doc pm an cdv ct v)
theorem ED{i:Int}{t:Tok}(X:K.In h)(G:h.Ns mainGlobals mg)(a:PySem.W.nsIn K mainGlobals x=some (some (.int i t))):∃t,mg x=some (.int i t):=⟨_,PySem.W.mg_of X G a⟩
theorem Ss{i:Str}{t:Tok}(X:K.In h)(G:h.Ns mainGlobals mg)(a:PySem.W.nsIn K mainGlobals x=some (some (.str i t))):∃t,mg x=some (.str i t):=⟨_,PySem.W.mg_of X G a⟩
end
end OP
namespace OP
open PySem PySem.Spec PyProof PyProof.Rows L2 OG PySem.W
def ltS(lt:Nat->Nat->Bool)(i j:Nat):Bool:=lt i j||(!lt j i&&decide (i<j))
section
variable{lt:Nat->Nat->Bool}{p:Array Nat}
structure Dn(lt:Nat->Nat->Bool)(p:Array Nat)(m q:Nat):Prop where
 dn:∀i j,i<j->j<m->i<m-(q+1)->ltS lt (p.getD j 0) (p.getD i 0)=true
 st:∀i j,i<m-(q+1)->m-(q+1)<=j->j<m->lt (p.getD j 0) (p.getD i 0)=true
 eq:∀i j,m-(q+1)<=i->i<j->j<m->lt (p.getD i 0) (p.getD j 0)=false/\lt (p.getD j 0) (p.getD i 0)=false/\p.getD i 0<p.getD j 0
end
end OP
namespace OP
open PySem PySem.Spec PyProof.Rows L2 OG
theorem Lh{X:Cx}{body:List Zw}{t:TS}{h0:ExceptHandler}{hs:List ExceptHandler}{pos:Pos}(hx:∀e s,¬X.xe e s)(hb:PSs X body t):PS X (.Try body (h0::hs) [] [] pos) t:=by
 intro pins s σ H D I h;refine wpAny_Try_except (Zn (hb pins s σ H D I h) (fun f s1 q=>?_) fun e s1 x=>(hx e s1 x).elim);cases f with
 |next=>exact wpAny_execs_nil q
 |_=>exact q
theorem K2{X:Cx}{body:List Zw}{c:CS}{h0:ExceptHandler}{hs:List ExceptHandler}{pos:Pos}(hx:∀e s,¬X.xe e s)(hb:QSs X body c):QS X (.Try body (h0::hs) [] [] pos) c:=⟨Lh hx hb.h⟩
end OP
namespace OP
open PySem PySem.Spec PyProof PyProof.Rows L2 OG
def TrA(h B:Heap)(e:Addr)(C fl:Z7):Prop:=∃oe vs T oT ts,h.get? e=some oe/\(oe.cls=C/\oe.dict=none)/\oe.data=.fields vs/\vs[1]?=some (.ref T)/\B.get? T=none/\T≠e/\h.get? T=some oT/\oT.data=.fields ts/\ts[3]?=some fl
structure Fly(B:Heap)(l:List Env)(e:Addr)(C:Z7)(h:Heap):Prop where
 st:B.StaysIn h
 nw:B.get? e=none
 ff:h.FunFrames B l
 tr:TrA h B e C .none
theorem qu{o:Obj}{vs:Array Z7}{f:Array Z7->Array Z7}(h:o.data=.fields vs):(Obj.mapFields f o).isFreed=false/\(Obj.mapFields f o).data=.fields (f vs)/\(Obj.mapFields f o).cls=o.cls/\(Obj.mapFields f o).dict=o.dict:=by
 obtain⟨c,d,da,sl⟩:=o;dsimp only at h;subst h;exact⟨rfl,rfl,rfl,rfl⟩
section
variable{M:Model}{A:Za}{E:Z7->ZZ->Prop}{s:ZZ}{B:Heap}{env:Env}{outer:List Env}{L e:Addr}{oe:Obj}{vs:Array Z7}{C:Z7}{Q:Unit->ZZ->Prop}
theorem uV{head:Z7}{hadNext:Bool}(hfr:A.frames=some (env::outer))(hff:s.heap.FunFrames B (env::outer))(hL:env.frame=some L)(he:s.heap.get? e=some oe)(hst:B.StaysIn s.heap)(hn:B.get? e=none)(hc:oe.cls=C/\oe.dict=none)(hd:oe.data=.fields vs)(hv:1<vs.size)
  (q:∀h',B.StaysIn h'->h'.FunFrames B (env::outer)->TrA h' B e C (rawInt L)->s.heap.UpToSlots h'->Q () { s with heap:=h' }) :
  wpAny M A (do
   let a <-PySem.frameOf env
   let pl <-entryPlaceOf L hadNext
   let b <-EntryCells.newEntry head a Value.none (rawInt L) Value.none pl
   setField (.ref e) 1 b) Q E s:=by
 have nfr:∀{b:Addr} {o:Obj},s.heap.get? b=some o->(∃ws:Array Z7,o.data=.fields ws)->b∉(env::outer).filterMap (·.frame):=fun{b o} g ⟨ws,hw⟩ z=>by
  obtain⟨_,o',g',nd⟩:=hff.mem z;rw[g]at g';cases g';exact nd ws hw
 refine ZQ (wpAny_frameOf_fun hfr hff hL fun h1 so=>ZQ (wpAny_entryPlaceOf fun pl hpl=>?_));obtain⟨sz,s1,s2⟩:=so;have e1:h1.get? e=some oe:=by rw[s1 e (nfr he ⟨vs,hd⟩)];exact he
 unfold EntryCells.newEntry;have psz:(if pl.isEmpty=true then ZU 6 Value.none else pl).length<=6:=by
  rcases hpl with rfl|⟨_,_,_,_,_,_,_,rfl⟩
  ·decide
  ·exact ZD 6
 refine ZQ (wpAny_newObj_type ?_ (show(List.toArray _).size<=ZP+2 by
  rw[ZI,ZY];have:([head,Value.ref L,.none,rawInt L,.none]:List Z7).length=5:=rfl;unfold ZP;omega))
 obtain⟨tb,htb⟩:∃tb:Obj,tb={ cls:=.type "traceback",data:=.fields ([head,.ref L,.none,rawInt L,.none]++if pl.isEmpty=true then ZU 6 Value.none else pl).toArray }:=⟨_,rfl⟩;rw[<-htb];have e2:(h1.push tb).get? e=some oe:=ZK _ e1;refine wpAny_setField e2 hd hv ?_;obtain⟨f1,f2,f3,f4⟩:=qu (o:=oe) (vs:=vs) (f:=fun x=>x.setIfInBounds 1 (.ref h1.objs.size)) hd;have gT:(h1.push tb).get? h1.objs.size=some tb:=Zy _ (by rw[htb];rfl);have lt:e<h1.objs.size:=ZF e1;have ne:∀{b:Addr} {o:Obj},h1.get? b=some o->b≠e->((h1.push tb).update e (Obj.mapFields fun x=>x.setIfInBounds 1 (.ref h1.objs.size))).get? b=some o:=fun{b o} g n=>by
  rw[Zi _ _ (Ne.symm n)];exact ZK _ g
 have up:s.heap.UpToSlots ((h1.push tb).update e (Obj.mapFields fun x=>x.setIfInBounds 1 (.ref h1.objs.size))):=fun b o g nd=>by
  obtain⟨sl,g1⟩:=s2 b o g;exact⟨sl,ne g1 fun z=>by rw[z,he]at g;cases g;exact nd vs hd⟩
 refine q _ (fun b o g=>?_) (.of_keeps (fun b o g nd=>by obtain⟨sl,g1⟩:=up b o g nd;exact⟨_,g1,rfl⟩) hff) ?_ up
 ·have g0:=hst b o g;have nb:b∉(env::outer).filterMap (·.frame):=fun z=>by
   have:=(hff.mem z).1;rw[g]at this;cases this
  exact ne (by rw[s1 b nb];exact g0) fun z=>by rw[z,hn]at g;cases g
 ·refine⟨_,_,h1.objs.size,tb,_,Heap.get?_update_self _ e2 f1,⟨f3.trans hc.1,f4.trans hc.2⟩,f2,?_,?_,Ne.symm (Zj lt),?_,by rw[htb],rfl⟩
  ·rw[Array.getElem?_setIfInBounds,if_pos rfl,if_pos hv]
  ·rw[sz];exact hst.fresh
  ·rw[Zi _ _ (Zj lt)];exact gT
theorem zf(hfr:A.frames=some (env::outer))(hff:s.heap.FunFrames B (env::outer))(hL:env.frame=some L)(he:s.heap.get? e=some oe)(hst:B.StaysIn s.heap)(hn:B.get? e=none)(hc:oe.cls=C/\oe.dict=none)(hd:oe.data=.fields vs)(h1:vs[1]?=some .none)
  (q:∀h',B.StaysIn h'->h'.FunFrames B (env::outer)->TrA h' B e C (rawInt L)->s.heap.UpToSlots h'->Q () { s with heap:=h' }):wpAny M A (noteFrame (.ref e) env) Q E s:=by
 unfold noteFrame;rw[hL];refine ZQ (XJ he hd h1 ?_);exact uV hfr hff hL he hst hn hc hd (XY.mp h1).1 q
theorem uU(hfr:A.frames=some (env::outer))(hff:s.heap.FunFrames B (env::outer))(hL:env.frame=some L)(hst:B.StaysIn s.heap)(hn:B.get? e=none)(tr:TrA s.heap B e C .none)
  (q:∀h',B.StaysIn h'->h'.FunFrames B (env::outer)->TrA h' B e C (rawInt L)->s.heap.UpToSlots h'->Q () { s with heap:=h' }):wpAny M A (noteFrame (.ref e) env) Q E s:=by
 obtain⟨oe,vs,T,oT,ts,g1,g2,g3,g4,g5,g6,g7,g8,g9⟩:=tr;unfold noteFrame;rw[hL];refine ZQ (XJ g1 g3 g4 ?_);show wpAny M A (if ((Value.ref T !=Value.none)=true)then _ else _) _ _ s;rw[if_pos (by rfl)];refine ZQ (XJ g7 g8 g9 ?_);rw[if_neg (by intro z;exact absurd z (by simp[rawInt]))];refine ZQ (wpAny_setField g7 g8 (XY.mp g9).1 ?_);have he:(s.heap.update T (Obj.mapFields fun x=>x.setIfInBounds 3 .none)).get? e=some oe:=by rw[Zi _ _ g6];exact g1
 have up:s.heap.UpToSlots (s.heap.update T (Obj.mapFields fun x=>x.setIfInBounds 3 .none)):=fun b o g nd=>by
  refine⟨o.slots,?_⟩;rw[Zi _ _ fun z=>by rw[<-z,g7]at g;cases g;exact nd ts g8];exact g
 refine uV (s:={ s with heap:=s.heap.update T (Obj.mapFields fun x=>x.setIfInBounds 3 .none) }) hfr (.of_keeps (fun b o g nd=>by obtain⟨sl,g1⟩:=up b o g nd;exact⟨_,g1,rfl⟩) hff) hL he (fun b o g=>?_) hn g2 g3 (XY.mp g4).1 fun h' a1 a2 a3 a4=>q h' a1 a2 a3 fun b o g nd=>?_
 ·rw[Zi _ _ fun z=>by rw[<-z,g5]at g;cases g];exact hst b o g
 ·obtain⟨sl,g1⟩:=up b o g nd;obtain⟨sl2,g2⟩:=a4 b _ g1 nd;exact⟨sl2,g2⟩
theorem jr{l:List Env}{fl:Z7}(hst:B.StaysIn s.heap)(hff:s.heap.FunFrames B l)(hn:B.get? e=none)(tr:TrA s.heap B e C fl)(q:∀h',Fly B l e C h'->s.heap.UpToSlots h'->Q () { s with heap:=h' }):wpAny M A (setFlight (.ref e) none) Q E s:=by
 obtain⟨oe,vs,T,oT,ts,g1,g2,g3,g4,g5,g6,g7,g8,g9⟩:=tr;unfold setFlight;refine ZQ (XJ g1 g3 g4 ?_);rw[if_pos (by rfl)];have h3:=(XY.mp g9).1;refine wpAny_setField g7 g8 h3 ?_;have up:s.heap.UpToSlots (s.heap.update T (Obj.mapFields fun x=>x.setIfInBounds 3 .none)):=fun b o g nd=>by
  refine⟨o.slots,?_⟩;rw[Zi _ _ fun z=>by rw[<-z,g7]at g;cases g;exact nd ts g8];exact g
 obtain⟨f1,f2,f3,f4⟩:=qu (o:=oT) (vs:=ts) (f:=fun x=>x.setIfInBounds 3 .none) g8;refine q _ ⟨fun b o g=>?_,hn,.of_keeps (fun b o g nd=>by obtain⟨sl,g1⟩:=up b o g nd;exact⟨_,g1,rfl⟩) hff,⟨oe,vs,T,_,_,?_,g2,g3,g4,g5,g6,Heap.get?_update_self _ g7 f1,f2,?_⟩⟩ up
 ·rw[Zi _ _ fun z=>by rw[<-z,g5]at g;cases g];exact hst b o g
 ·rw[Zi _ _ g6];exact g1
 ·rw[Array.getElem?_setIfInBounds,if_pos rfl,if_pos h3]
theorem wH(hfr:A.frames=some (env::outer))(hff:s.heap.FunFrames B (env::outer))(hL:env.frame=some L)(he:s.heap.get? e=some oe)(hst:B.StaysIn s.heap)(hn:B.get? e=none)(hc:oe.cls=C/\oe.dict=none)(hd:oe.data=.fields vs)(h1:vs[1]?=some .none)
  (q:∀h',Fly B (env::outer) e C h'->s.heap.UpToSlots h'->Q () { s with heap:=h' }):wpAny M A (leaving env (.ref e)) Q E s:=by
 unfold leaving;refine ZQ (zf hfr hff hL he hst hn hc hd h1 fun h' a1 a2 a3 a4=>jr (s:={ s with heap:=h' }) a1 a2 hn a3 fun h2 b1 b2=>q h2 b1 fun b o g nd=>?_);obtain⟨sl,g1⟩:=a4 b o g nd;obtain⟨sl2,g2⟩:=b2 b _ g1 nd;exact⟨sl2,g2⟩
theorem zm(hfr:A.frames=some (env::outer))(hL:env.frame=some L)(fl:Fly B (env::outer) e C s.heap)(q:∀h',Fly B (env::outer) e C h'->s.heap.UpToSlots h'->Q () { s with heap:=h' }):wpAny M A (leaving env (.ref e)) Q E s:=by
 unfold leaving;refine ZQ (uU hfr fl.ff hL fl.st fl.nw fl.tr fun h' a1 a2 a3 a4=>jr (s:={ s with heap:=h' }) a1 a2 fl.nw a3 fun h2 b1 b2=>q h2 b1 fun b o g nd=>?_);obtain⟨sl,g1⟩:=a4 b o g nd;obtain⟨sl2,g2⟩:=b2 b _ g1 nd;exact⟨sl2,g2⟩
end
def CX1(P:ZS)(w:Zg):CXT:=fun outer H s E e s'=>∃(ea CC:Addr) (H':Hp) (B:Heap),e=.ref ea/\s'.os=s.os/\AllBare s'.gens/\Un (frs outer) [] H H' s.heap s'.heap/\HOk P w H' B/\
 (∀b o,s.heap.get? b=some o->b∉frs outer->∃o',B.get? b=some o')/\(∀b o,s.heap.get? b=some o->H b=none->b∉frs outer->B.get? b=some o)/\Fly B outer ea (.ref CC) s'.heap/\E e (some CC) H'
def yp{h B:Heap}{env:Env}{l:List Env}(x:h.FunFrames B (env::l)):h.FunFrames B l:=x.2.2
theorem yq{env:Env}{l:List Env}{L:Addr}(h:env.frame=some L):frs (env::l)=L::frs l:=by
 show(env::l).filterMap (·.frame)=_;rw[List.filterMap_cons_some h];rfl
section
variable{P:ZS}{w:Zg}{K:Z6}{mg:Str->Option Z7}{base:Heap}{N:List Str}{q:Str}{sc:XA}{f:Addr}{cd:Z7}{A:Za}{outer:List Env}{s0:ZZ}{H0:Hp}{E:XK}
abbrev cx1(P:ZS)(w:Zg)(K:Z6)(mg:Str->Option Z7)(base:Heap)(N:List Str)(q:Str)(sc:XA)(f:Addr)(cd:Z7)(A:Za)(outer:List Env)(s0:ZZ)(H0:Hp)(E:XK):Cx:=w9 (CX1 P w) P w K mg base N q sc f cd A outer s0 H0 E
theorem vo:(envOfC q sc s0.heap.objs.size f cd).frame=some s0.heap.objs.size\/∀pins σ H s,¬Inv (cx1 P w K mg base N q sc f cd A outer s0 H0 E) pins σ H s:=by
 by_cases h:(envOfC q sc s0.heap.objs.size f cd).frame=some s0.heap.objs.size
 ·exact .inl h
 ·refine .inr fun pins σ H s I=>?_;rcases I.ok.stk with e|⟨_,e⟩
  ·have:=congrArg List.length (show(envOfC q sc s0.heap.objs.size f cd::outer)=outer from e);simp at this
  ·exact h e
theorem wg:ic (CX1 P w) (cx1 P w K mg base N q sc f cd A outer s0 H0 E) E:=by
 intro pins σ H s e s' I hq;obtain⟨ea,CC,H',B,rfl,os,bare,un,hok,old,keep,fl,hE⟩:=hq;have f3:=fl.ff;rcases vo (P:=P) (w:=w) (K:=K) (mg:=mg) (base:=base) (N:=N) (q:=q) (sc:=sc) (f:=f) (cd:=cd) (A:=A) (outer:=outer) (s0:=s0) (H0:=H0) (E:=E)with hL|no;case inr=>exact(no _ _ _ _ I).elim
 have hst:frs (envOfC q sc s0.heap.objs.size f cd::outer)=s0.heap.objs.size::frs outer:=yq hL;have nf:∀{b:Addr} {o:Obj},s0.heap.get? b=some o->b∉frs outer->b∉frs (envOfC q sc s0.heap.objs.size f cd::outer):=fun{b o} g n z=>by
  rw[hst]at z;rcases Zx.mp z with z|z
  ·have:=ZF g;rw[z]at this;exact XF _ this
  ·exact n z
 have hex:∀b:Addr,b∉([]:List Addr):=fun b z=>by cases z
 have ub:Un (frs outer) [] H0 H s0.heap s.heap:=I.base;refine zm (B:=B) (outer:=outer) (L:=s0.heap.objs.size) I.ok.frames hL fl fun h' fl' g4=>?_;have g1:=fl'.st;have g2:=fl'.ff;have old':∀b o,s0.heap.get? b=some o->b∉frs outer->∃o',B.get? b=some o':=fun b o g n=>by
  obtain⟨o1,h1⟩:=ub.there b o g (hex b);exact old b o1 h1 (nf g n)
 have keep':∀b o,s0.heap.get? b=some o->H0 b=none->b∉frs outer->B.get? b=some o:=fun b o g z n=>keep b o (ub.keep b o g z n (hex b)) (ub.free b o g z (hex b)) (nf g n);refine⟨ea,CC,H',B,rfl,os.trans I.os,bare,?_,hok,old',keep',⟨g1,fl'.nw,yp g2,fl'.tr⟩,hE⟩;refine⟨fun b o g z n _=>g1 _ _ (keep' b o g z n),fun b o g z n _=>?_,fun b o g z _=>?_,fun b o g _=>?_,fun b xs z=>un.tups b xs (ub.tups b xs z),fun b ob u z=>un.frzs b ob u (ub.frzs b ob u z),fun b ps z=>?_⟩
 ·obtain⟨sl,e1⟩:=ub.slot b o g z n (hex b);have hb:b∈frs (envOfC q sc s0.heap.objs.size f cd::outer):=by rw[hst];exact ZJ _ n
  obtain⟨sl2,e2⟩:=un.slot b _ e1 (ub.free b o g z (hex b)) hb (hex b);obtain⟨_,o3,e3,nd⟩:=f3.mem hb;rw[e2]at e3;cases e3;obtain⟨sl3,e4⟩:=g4 b _ e2 nd;exact⟨sl3,e4⟩
 ·obtain⟨o1,h1⟩:=ub.there b o g (hex b);exact un.free b o1 h1 (ub.free b o g z (hex b)) (hex b)
 ·by_cases n:b∈frs outer
  ·have hb:b∈frs (envOfC q sc s0.heap.objs.size f cd::outer):=by rw[hst];exact ZJ _ n
   obtain⟨_,o3,e3,_⟩:=g2.mem hb;exact⟨o3,e3⟩
  ·obtain⟨o',e⟩:=old' b o g n;exact⟨o',g1 _ _ e⟩
 ·obtain⟨m1,e1⟩:=ub.tbls b ps z;obtain⟨m2,e2⟩:=un.tbls b _ e1;exact⟨m1++m2,by rw[e2,Array.append_assoc]⟩
theorem Dp{pins:List (Addr×Obj)}{σ:L2.St}{H:Hp}{s:ZZ}{h':Heap}{e CC:Addr}{vs:List Z7}(I:Inv (cx1 P w K mg base N q sc f cd A outer s0 H0 E) pins σ H s)(hm:s.heap.MadeExcOf h' e (.ref CC) vs)(hE:E (.ref e) (some CC) H) :
  (cx1 P w K mg base N q sc f cd A outer s0 H0 E).xe (.ref e) { s with heap:=h' }:=by
 rcases vo (P:=P) (w:=w) (K:=K) (mg:=mg) (base:=base) (N:=N) (q:=q) (sc:=sc) (f:=f) (cd:=cd) (A:=A) (outer:=outer) (s0:=s0) (H0:=H0) (E:=E)with hL|no;case inr=>exact(no _ _ _ _ I).elim
 have hst:frs (envOfC q sc s0.heap.objs.size f cd::outer)=s0.heap.objs.size::frs outer:=yq hL;have hex:∀b:Addr,b∉([]:List Addr):=fun b z=>by cases z
 have ub:Un (frs outer) [] H0 H s0.heap s.heap:=I.base;have nf:∀{b:Addr} {o:Obj},s0.heap.get? b=some o->b∉frs outer->b∉frs (envOfC q sc s0.heap.objs.size f cd::outer):=fun{b o} g n z=>by
  rw[hst]at z;rcases Zx.mp z with z|z
  ·have:=ZF g;rw[z]at this;exact XF _ this
  ·exact n z
 obtain⟨B,hB⟩:∃B,B=PySem.W.hideAll s.heap (frs (envOfC q sc s0.heap.objs.size f cd::outer)):=⟨_,rfl⟩;have bs:B.StaysIn s.heap:=fun b o g=>by rw[hB]at g;exact PySem.W.of_hideAll _ g
 have bg:∀{b:Addr} {o:Obj},s.heap.get? b=some o->b∉frs (envOfC q sc s0.heap.objs.size f cd::outer)->B.get? b=some o:=fun g n=>by rw[hB];exact PySem.W.hideAll_get _ g n
 have bf:s.heap.FunFrames B (envOfC q sc s0.heap.objs.size f cd::outer):=by
  rw[hB];exact PySem.W.funFrames_hide I.stack fun env he a ha=>List.mem_filterMap.mpr ⟨env,he,ha⟩
 obtain⟨tt,om,_,_⟩:=hm.there;have ne:B.get? e=none:=by
  cases z:B.get? e with
  |none=>rfl
  |some o=>have:=bs e o z;rw[hm.new]at this;cases this
 refine wH (s:={ s with heap:=h' }) (B:=B) (outer:=outer) (L:=s0.heap.objs.size) I.ok.frames (.of_keeps (fun b o g nd=>⟨o,hm.keeps b o g,rfl⟩) bf) hL om (fun b o g=>hm.keeps b o (bs b o g)) ne ⟨rfl,rfl⟩ rfl rfl fun h2 fly up=>?_;have up1:∀b o,s.heap.get? b=some o->(∀vs:Array Z7,o.data≠.fields vs)->∃sl,h2.get? b=some { o with slots:=sl }:=fun b o g nd=>up b o (hm.keeps b o g) nd;have keep':∀b o,s0.heap.get? b=some o->H0 b=none->b∉frs outer->B.get? b=some o:=fun b o g z n=>bg (ub.keep b o g z n (hex b)) (nf g n);have old':∀b o,s0.heap.get? b=some o->b∉frs outer->∃o',B.get? b=some o':=fun b o g n=>by
  obtain⟨o1,h1⟩:=ub.there b o g (hex b);exact⟨o1,bg h1 (nf g n)⟩
 have hok:HOk P w H B:=fun a o ha=>d6.stay (I.hok a o ha) (fun b u hb g=>bg g fun z=>by
  have hz:=I.stkFree b z;rcases hb with rfl|hb
  ·rw[ha]at hz;cases hz
  ·rw[hb]at hz;cases hz) (fun _ z=>z) fun _ _ z=>z
 refine⟨e,CC,H,B,rfl,I.os,I.bare,?_,hok,old',keep',⟨fly.st,fly.nw,yp fly.ff,fly.tr⟩,hE⟩;refine⟨fun b o g z n _=>fly.st _ _ (keep' b o g z n),fun b o g z n _=>?_,fun b o g z _=>ub.free b o g z (hex b),fun b o g _=>?_,ub.tups,ub.frzs,ub.tbls⟩
 ·obtain⟨sl,e1⟩:=ub.slot b o g z n (hex b);have hb:b∈frs (envOfC q sc s0.heap.objs.size f cd::outer):=by rw[hst];exact ZJ _ n
  obtain⟨_,o3,e3,nd⟩:=bf.mem hb;rw[e1]at e3;cases e3;obtain⟨sl3,e4⟩:=up1 b _ e1 nd;exact⟨sl3,e4⟩
 ·by_cases n:b∈frs outer
  ·have hb:b∈frs (envOfC q sc s0.heap.objs.size f cd::outer):=by rw[hst];exact ZJ _ n
   obtain⟨_,o3,e3,nd⟩:=bf.mem hb;obtain⟨sl,e4⟩:=up1 b o3 e3 nd;exact⟨_,e4⟩
  ·obtain⟨o',e⟩:=old' b o g n;exact⟨o',fly.st _ _ e⟩
end
abbrev bmV:List Z7:=[.type "ValueError",.type "Exception",.type "BaseException",.type "object"]
abbrev IZ(K:Z6)(C:Addr):Prop:=PySem.W.excIn K C bmV "ValueError.__new__"=true
theorem Bx{K:Z6}{h:Heap}{C:Addr}{bmB:List Z7}{newId:String}(X:K.In h)(q:PySem.W.excIn K C bmB newId=true) :
  ∃bm N nm q bs hdct sn sub ab col dd k0 k1 k2 k3 k5,∃mN:Str->Option Z7,h.get? C=some (excClassObj nm q C N bs bm hdct sn sub ab col dd k0 k1 k2 k3 k5 newId)/\h.Ns N mN/\mN (Str.ofString "__init__")=none/\OwnTail h bmB bm:=by
 unfold PySem.W.excIn at q;split at q
 ·rename_i dict cd sl ho;split at q
  ·rename_i C' bm a b c d n e hm hs;simp only[Bool.and_eq_true,beq_iff_eq,Bool.not_eq_true']at q;obtain⟨⟨⟨⟨⟨q1,q2⟩,q3⟩,q4⟩,q5⟩,q6⟩:=q;subst q1 q2;obtain⟨nm,bs,mro,ns,qn,hd,sn,sub,ab,col,del⟩:=cd;dsimp only at hm q3 q5 q6;subst hm q3;have hsl:sl=#[a,b,c,d,some (Value.builtin n),e]:=by
    obtain⟨l⟩:=sl;dsimp only at hs;rw[hs]
   subst hsl;have hns:h.isNs ns=true:=PySem.W.isNs_of_in X q5;exact⟨bm,ns,nm,qn,bs,hd,sn,sub,ab,col,dict,a,b,c,d,e,h.nsMap ns,X _ _ ho,Heap.Ns.of_isNs hns,PySem.W.nsMap_none_of_in X q5 q6,PySem.W.tail_of_in X q4⟩
  ·cases q
 ·cases q
theorem wj{P:ZS}{w:Zg}{H:Hp}{h:Heap}{a:Addr}{o:HO}(x:d6 P w H h a o):∃ob,h.get? a=some ob:=by
 cases o with
 |lst xs=>obtain⟨_,_,_,_,e⟩:=x;exact⟨_,e⟩
 |tup xs=>obtain⟨_,_,_,_,e,_⟩:=x;exact⟨_,e⟩
 |dK kvs=>obtain⟨_,_,_,_,o,_,_,e,_⟩:=x;exact⟨_,e⟩
 |dT kvs=>obtain⟨_,_,_,_,o,_,_,e,_⟩:=x;exact⟨_,e⟩
 |set S n=>obtain⟨o,_,_,_,e,_⟩:=x;exact⟨_,e⟩
 |ins C dx fs=>obtain⟨_,_,_,e,_⟩:=x;exact⟨_,e⟩
 |own y=>exact x
 |xd fs=>obtain⟨_,⟨_,_,_,e,_⟩,_⟩:=x;exact⟨_,e⟩
 |rng lo hi=>obtain⟨_,_,_,e⟩:=x;exact⟨_,e⟩
 |frz ob u=>exact⟨_,x.1⟩
 |tbl ps=>exact⟨_,x⟩
 |met f y=>exact⟨_,x⟩
 |ext φ=>exact x.2.1
section
variable{P:ZS}{w:Zg}{K:Z6}{mg:Str->Option Z7}{base:Heap}{N:List Str}{q:Str}{sc:XA}{f:Addr}{cd:Z7}{A:Za}{outer:List Env}{s0:ZZ}{H0:Hp}{E:XK}
def Kn(C:Addr)(E:XK)(t:TA):TS:=fun D σ H=>t σ H fun vs H1=>vs.length<=ZP/\∀e,H1 e=none->E (.ref e) (some C) H1
theorem Dz{x:Str}{C:Addr}{np cpos pos:Pos}{arg:ZC}{es:List ZC}{t:TA}(hg:Gl (cx1 P w K mg base N q sc f cd A outer s0 H0 E) x)(hm:mg x=some (.ref C))(hx:IZ K C)(ha:PA (cx1 P w K mg base N q sc f cd A outer s0 H0 E) (arg::es) t)
  (hs:ZX (arg::es) (cx1 P w K mg base N q sc f cd A outer s0 H0 E).env=(false,eval arg (cx1 P w K mg base N q sc f cd A outer s0 H0 E).env)::ZX es (cx1 P w K mg base N q sc f cd A outer s0 H0 E).env:=by rfl)
  (hpl:(Zf cpos (ZX es (cx1 P w K mg base N q sc f cd A outer s0 H0 E).env)).any (·.1)=false:=by rfl) (hd:(x == ("__debug__":Str))=false:=by decide) :
  PS (cx1 P w K mg base N q sc f cd A outer s0 H0 E) (.Raise (some (.Call (.Name x np) (arg::es) [] cpos)) none pos) (Kn C E t):=by
 intro pins s σ H D I h;obtain⟨bm,Nn,nm,qn,bs,hdct,sn,sub,ab,col,dd,k0,k1,k2,k3,k5,mN,o1,o2,o3,o4⟩:=Bx I.ok.mod.kin hx;have hb:bm.contains (.type "BaseException")=true:=o4.hasType (by decide);refine wpAny_Raise_call_subT (nm:=nm) (q:=qn) (C:=C) (N:=Nn) (bs:=bs) (bm:=bm) (hdct:=hdct) (sn:=sn) (sub:=sub) (ab:=ab) (col:=col) (dd:=dd) (k0:=k0) (k1:=k1) (k2:=k2) (k3:=k3) (k5:=k5) PySem.F.excBase_ValueError hb (I.ok.hd rfl) (by rw[hs];show(false||(Zf cpos (ZX es _)).any (·.1))=false;rw[hpl];rfl) o3 (mY I hg hm ⟨rfl,?_⟩ hd);have hA:=ha cpos pins s σ H _ I h;rw[hs]at hA ⊢;refine Calls.evalArgs_plain (thn hA fun us s2 hz=>?_);obtain⟨vs,H2,I2,r2,hl,q⟩:=hz;refine⟨rfl,by rw[<-r2.length];exact hl,I2.bk _ _ o1,o2.keeps I2.bk,o4.keeps I2.bk,fun h' e hm2=>?_⟩;have he:H2 e=none:=by
  cases hz:H2 e with
  |none=>rfl
  |some o=>
   have hlt:=I2.hok.lt hz;have hn:=hm2.new;obtain⟨ob,ho⟩:∃ob,s2.heap.get? e=some ob:=wj (I2.hok e o hz);rw[ho]at hn;cases hn
 exact Dp I2 hm2 (q e he)
end
abbrev CR:=Rho->Sto->Option (Addr×Sto)
abbrev FnR:=List U->Sto->Option (Addr×Sto)
def Ce(K:Z6)(m:List Addr)(H:Hp)(E:XK)(c:Addr)(S':Sto):Prop:=∀m' ea H',Ext K m H m' H'->Sr K m' S' H'->H' ea=none->E (.ref ea) (some c) H'
theorem Ce.mono{K:Z6}{m m1:List Addr}{H H1:Hp}{E:XK}{c:Addr}{S':Sto}(h:Ce K m H E c S')(e:Ext K m H m1 H1):Ce K m1 H1 E c S':=fun m' ea H' e'=>h m' ea H' (e.trans e')
def tX(K:Z6)(E:XK)(x:CR)(σ:L2.St)(H:Hp):Prop:=∃m ρ S c S',Sr K m S H/\Lr K m H ρ σ/\x ρ S=some (c,S')/\Ce K m H E c S'
abbrev RE(X:Cx)(E:XK)(e:ZC)(x:CR):Prop:=WE X e fun σ H _=>tX X.K E x σ H
abbrev RS(X:Cx)(E:XK)(st:Zw)(x:CR):Prop:=WS X st fun _=>tX X.K E x
abbrev RSs(X:Cx)(E:XK)(sts:List Zw)(x:CR):Prop:=WSs X sts fun _=>tX X.K E x
def spX(K:Z6)(f:FnR):Sp:=fun vs H _ E=>∃m us S c S',IsL K m H vs us/\Sr K m S H/\f us S=some (c,S')/\Ce K m H E c S'
section
variable{X:Cx}{E:XK}{st:Zw}{sts s1 s2:List Zw}{x x1 x2:CR}{c1:CS}{c e:ZC}{t:CT}{pos:Pos}
def eW(h:RS X E st x):RSs X E (st::sts) x:=(lW h (rG (X:=X) (sts:=sts))).imp fun D σ H hz=>hz
def zZ(c1:CS)(x:CR):CR:=fun ρ S=>(c1 ρ S).bind fun r=>match r.1 with
 |.nx=>x r.2.1 r.2.2
 |_=>none
theorem rY(h1:QS X st c1)(h2:RSs X E sts x):RSs X E (st::sts) (zZ c1 x):=(lW h1 h2).imp fun D σ H hz=>by
 obtain⟨m,ρ,S,c,S',sr,lr,hc,post⟩:=hz;obtain⟨⟨o1,ρ1,S1⟩,h1,h2⟩:=Z0.mp hc;refine⟨m,ρ,S,o1,ρ1,S1,sr,lr,h1,?_⟩;cases o1 with
 |nx=>exact fun m1 σ1 H1 e1 sr1 lr1=>⟨m1,ρ1,S1,c,S',sr1,lr1,h2,post.mono e1⟩
 |_=>cases h2
def xIf(t:CT)(x1 x2:CR):CR:=fun ρ S=>(t ρ S).bind fun p=>if p.1=true then x1 ρ p.2 else x2 ρ p.2
theorem GY(hc:QT X c t)(h1:RSs X E s1 x1)(h2:RSs X E s2 x2):RS X E (.If c s1 s2 pos) (xIf t x1 x2):=(EZ hc h1 h2).imp fun D σ H hz=>by
 obtain⟨m,ρ,S,c,S',sr,lr,hc,post⟩:=hz;obtain⟨⟨k,S1⟩,h1,h2⟩:=Z0.mp hc;refine⟨m,ρ,S,k,S1,sr,lr,h1,fun m1 H1 e1 sr1=>?_⟩;cases k with
 |true=>exact Fv ⟨m1,ρ,S1,c,S',sr1,lr.mono e1,h2,post.mono e1⟩
 |false=>exact Fx ⟨m1,ρ,S1,c,S',sr1,lr.mono e1,h2,post.mono e1⟩
def xNo:CR:=fun _ _=>none
theorem GX:RSs X E sts xNo:=(rG (X:=X) (sts:=sts)).imp fun D σ H hz=>by
 obtain⟨m,ρ,S,c,S',sr,lr,hc,post⟩:=hz;cases hc
theorem KR{i:Nat}{y:Str}{np:Pos}(nd:X.N.Nodup)(hi:X.N[i]?=some y)(hx:Loc X.env.scope y)(he:RE X E e x)(hs:X7 e (some (.Name y np)) pos.line X.env=pure false:=by rfl)(hf:X.fn y=true\/X.env.scope.names.lookup y=some .local:=by first|exact .inl rfl|exact .inr rfl|assumption):RS X E (.Assign [.Name y np] e pos) x:=(vM nd hi hx he hs hf).imp fun D σ H hz=>hz
theorem sY(he:RE X E e x)(hs:X7 e none pos.line X.env=pure false:=by rfl):RS X E (.Expr e pos) x:=(xB he hs).imp fun D σ H hz=>hz
def E9(he:RE X E e x):RS X E (.Return (some e) pos) x:=(vN he).imp fun D σ H hz=>hz
end
structure mI(P:ZS)(w:Zg)(K:Z6)(mg:Str->Option Z7)(base:Heap)(c:Cl)(mn:Str)(k:Nat)(ps:List Str)(f:FnR):Prop where
 ex:∃fa fd,Cw K c.C mn fa/\lU P w K mg base (CX1 P w) k fa fd ps (spX K f)/\gW K fd ps []
open Classical in
def mK(c:Cl)(f:FnR)(ca:CE)(cr:CA):CR:=fun ρ S=>(ca ρ S).bind fun p=>match p.1 with
 |.ref l=>match p.2[l]? with
  |some (.ins c' _)=>if c'=c then(cr ρ p.2).bind fun q=>f (.ref l::q.1) q.2 else none
  |_=>none
 |_=>none
section
variable{X:Cx}{E:XK}{c:Cl}{mn:Str}{g:FnR}{k:Nat}{ps:List Str}{o e:ZC}{es:List ZC}{co:CE}{cr:CA}{apos pos:Pos}{pl:Sem Bool}
theorem u7{K:Z6}{Q:VK}{σ:L2.St}{H:Hp}(hmn:mn∉c.ns)(h:tX K E (mK c g co cr) σ H):vR c.C mn (spX K g) [] E (tE K co) (tA K cr) σ H Q:=by
 obtain⟨m,ρ,S,cl,S',sr,lr,hc,post⟩:=h;obtain⟨⟨x,S1⟩,h1,h2⟩:=Z0.mp hc;refine⟨m,ρ,S,x,S1,sr,lr,h1,fun m1 v1 H1 e1 sr1 i1=>?_⟩;cases x with
 |ref l=>
  simp only at h2;split at h2<;>try cases h2
  rename_i c' fus hS;split at h2<;>try cases h2
  rename_i hc';subst hc';obtain⟨⟨us,S2⟩,h3,h4⟩:=Z0.mp h2;obtain⟨a,ha,rfl⟩:=i1.of_ref;obtain⟨a',ha',dx,fs,hx,inf⟩:=sr1.get hS;rw[ha]at ha';cases ha';refine⟨a,dx,fs,rfl,hx,inf.none_ hmn,m1,ρ,S1,us,S2,sr1,lr.mono e1,h3,fun m2 vs H2 e2 sr2 i2=>?_⟩;exact⟨m2,_,S2,cl,S',.cons_ (i1.mono e2) (by simpa using i2),sr2,h4,post.mono (e1.trans e2)⟩
 |_=>cases h2
theorem vX(hcl:Cls X.K c.C)(F:mI X.prog X.w X.K X.mg X.base c mn k ps g)(hr:gS k X.A)(hp:ic (CX1 X.prog X.w) X E)(hmn:mn∉c.ns)(ho:QE X o co)(ha:QA X (e::es) cr)
  (hst:ZX (e::es) X.env=(false,eval e X.env)::ZX es X.env:=by rfl) (hpl:(Zf pos (ZX es X.env)).any (·.1)=false:=by rfl) (ht:eval (.Call (.Attribute o mn apos) (e::es) [] pos) X.env=(do
   let ov <-eval o X.env
   standAt apos.atName
   let (f,first) <-holding [ov] (getMethod ov mn pl)
   callWith pos f first (Zf pos (ZX (e::es) X.env)) (backToKw pos (keywordEach [] X.env))):=by rfl):RE X E (.Call (.Attribute o mn apos) (e::es) [] pos) (mK c g co cr):=by
 obtain⟨fa,fd,hm,F,hb⟩:=F.ex;exact(xE ho hcl hm F hr hb .nil hp ha.h hst hpl ht).imp fun σ H Q h=>u7 hmn h
end
def fnX(n k:Nat)(x:CR):FnR:=fun us S=>if us.length=k then x (rL n us) S else none
section
variable{P:ZS}{w:Zg}{K:Z6}{mg:Str->Option Z7}{base:Heap}{N ps:List Str}{q y:Str}{st:Zw}{k:Nat}{x:CR}{cl:Cl}
theorem Av{vs:List V}{H:Hp}{Q:VK}{E:XK}{n k:Nat}(h:spX K (fnX n k x) vs H Q E):vs.length=k:=by
 obtain⟨m,us,S,u,S',i,sr,hf,post⟩:=h;unfold fnX at hf;split at hf
 ·rename_i e;rw[i.length,e]
 ·cases hf
theorem yr{vs:List V}{H:Hp}{Q:VK}{E:XK}(h:spX K (fnX N.length ps.length x) vs H Q E):tX K E x (L2.kO N vs) H:=by
 obtain⟨m,us,S,c,S',i,sr,hf,post⟩:=h;unfold fnX at hf;split at hf
 ·exact⟨m,_,S,c,S',sr,yc i,hf,post⟩
 ·cases hf
theorem MtD.pureR(d:MtD K cl.C y q st ps)(S:aG N ps (ay st))
  (hb:∀(f:Addr) (cdv:Z7) (A:Za) (outer:List Env) (s:ZZ) (H:Hp) (E:XK),gS k (A.deeper (envOfC q (ay st) s.heap.objs.size f cdv))->RSs (cx1 P w K mg base N q (ay st) f cdv A outer s H E) E (dX st) x) :
  mI P w K mg base cl y (k+1) ps (fnX N.length ps.length x):=by
 obtain⟨fa,fd,F,b,m⟩:=d;obtain⟨oc,od,kV,doc,pm,an,cdv,ct,osl,rfl,lk,hcd⟩:=F.ex;exact⟨fa,_,m,IF lk hcd S (fun vs H Q E h=>Av h) fun A outer s H vs Q E hr h=>⟨_,(hb fa cdv A outer s H E hr).h,yr h⟩,b⟩
def xy(C:Addr)(cr:CA):CR:=fun ρ S=>(cr ρ S).bind fun p=>some (C,p.2)
theorem Dh{sc:XA}{f:Addr}{cd:Z7}{A:Za}{outer:List Env}{s0:ZZ}{H0:Hp}{E:XK}{C:Addr}{np cpos pos:Pos}{arg:ZC}{z:Str}{cr:CA}(hg:Gl (cx1 P w K mg base N q sc f cd A outer s0 H0 E) z)(hm:mg z=some (.ref C))(hx:IZ K C)(ha:QA (cx1 P w K mg base N q sc f cd A outer s0 H0 E) [arg] cr)
  (hs:ZX [arg] (cx1 P w K mg base N q sc f cd A outer s0 H0 E).env=(false,eval arg (cx1 P w K mg base N q sc f cd A outer s0 H0 E).env)::ZX [] (cx1 P w K mg base N q sc f cd A outer s0 H0 E).env:=by rfl) (hd:(z == ("__debug__":Str))=false:=by decide) :
  RS (cx1 P w K mg base N q sc f cd A outer s0 H0 E) E (.Raise (some (.Call (.Name z np) [arg] [] cpos)) none pos) (xy C cr):=
 (show WS _ _ _ from⟨Dz hg hm hx ha.h.h hs rfl hd⟩).imp fun D σ H hz=>by
 obtain⟨m,ρ,S,c,S',sr,lr,hc,post⟩:=hz;obtain⟨⟨us,S1⟩,h1,h2⟩:=Z0.mp hc;cases h2;refine⟨m,ρ,S,us,_,sr,lr,h1,fun m1 vs H1 e1 sr1 i1=>⟨?_,fun e he=>post m1 e H1 e1 sr1 he⟩⟩;rw[i1.length,ha.len _ _ _ _ h1];unfold ZP;simp
end
abbrev zr(X:Cx)(ea:Addr):Cx:={ X with A:=X.A.mark (some (.ref ea)),calm:=false }
section
variable{X:Cx}{pins:List (Addr×Obj)}{σ:L2.St}{H H':Hp}{s:ZZ}{ea CC:Addr}
theorem Inv.hold(I:Inv X pins σ H s)(ea:Addr):Inv (zr X ea) pins σ H s:=
 ⟨⟨I.ok.mod,I.ok.kind,I.ok.glob,I.ok.blt,I.ok.above,I.ok.inj,I.ok.has,I.ok.cab,(fun z=>by cases z),I.ok.frames,I.ok.stk,I.ok.exf,I.ok.bs,I.ok.bsz,I.ok.noex,I.ok.exfs,I.ok.funs,I.ok.frf⟩,I.os,I.bare,I.base,I.loc,I.cell,I.free,I.freeC,I.pin,I.hok,I.len⟩
theorem Inv.unhold(hh:X.Ok)(I:Inv (zr X ea) pins σ H s):Inv X pins σ H s:=⟨hh,I.os,I.bare,I.base,I.loc,I.cell,I.free,I.freeC,I.pin,I.hok,I.len⟩
theorem Inv.unset{i:Nat}{x:Str}{h':Heap}{m:Str->Option Z7}{u:Option Z7}(I:Inv X pins σ H s)(hN:X.N.Nodup)(hi:X.N[i]?=some x)(hk:X.env.scope.names.lookup x=some .local)(hn:s.heap.Ns X.env.locals m)
  (hl:∀(j:Nat) (y:Str) (v:V),X.N[j]?=some y->σ[j]?=some (some v)->Vis X.env.scope y->∃u,eM v u/\Rv X.env s.heap m y u)
  (hn':h'.Ns X.env.locals fun y=>if y=x then u else m y) (hs:Heap.SameBut X.env.locals s.heap h'):Inv X pins (σ.set i none) H { s with heap:=h' }:=by
 have cne:=I.cne;obtain⟨oL,_,_,hoL,_⟩:=id hn;have tracked:HOk X.prog X.w H h':=fun b ob e=>by
  refine(I.hok b ob e).stay (fun c w' hc q=>(hs.2 c ?_).trans q) (fun _ q=>q) fun _ _ q=>q;rintro rfl;rcases hc with rfl|hc
  ·rw[I.free]at e;cases e
  ·rw[I.free]at hc;cases hc
 refine⟨I.ok,I.os,I.bare,⟨fun b o e n hb hx=>?_,fun b o e n hb hx=>?_,I.base.free,fun b o e hx=>?_,I.base.tups,I.base.frzs,I.base.tbls⟩,⟨_,hn',fun j y v' e1 e2 e3=>?_⟩,fun y c e=>?_,I.free,I.freeC,fun p hp=>?_,tracked,by simpa using I.len⟩
 ·exact(hs.2 b (Zj (Zz (ZF e) I.ok.above))).trans (I.base.keep b o e n hb hx)
 ·obtain⟨sl,e1⟩:=I.base.slot b o e n hb hx;exact⟨sl,(hs.2 b (Zj (Zz (ZF e) I.ok.above))).trans e1⟩
 ·obtain⟨o',e1⟩:=I.base.there b o e hx;exact⟨o',(hs.2 b (Zj (Zz (ZF e) I.ok.above))).trans e1⟩
 ·by_cases hj:j=i
  ·subst hj;have hiσ:j < σ.length:=by rw[I.len];exact(Z9.mp hi).1
   rw[Zr hiσ]at e2;cases e2
  ·rw[ZH (Ne.symm hj)]at e2;obtain⟨u',r',q⟩:=hl j y v' e1 e2 e3;refine⟨u',r',?_⟩;rcases q with⟨k,e⟩|⟨k,c,e,z⟩
   ·refine .inl ⟨k,?_⟩;have:y≠x:=fun e=>hj (tF hN e1 (e▸hi));simp[this,e]
   ·exact .inr ⟨k,c,e,z.sameBut hs (cne y c e)⟩
 ·obtain⟨w',z⟩:=I.cell y c e;exact⟨w',z.sameBut hs (cne y c e)⟩
 ·obtain⟨e,n,ne,nf,d⟩:=I.pin p hp;exact⟨(hs.2 p.1 ne).trans e,n,ne,nf,d⟩
theorem E3{l:List Env}{s1:ZZ}{h h3 B:Heap}{H1:Hp}{C:Z7}(un:Un (frs l) [] H1 H' s1.heap h)(old:∀b o,s1.heap.get? b=some o->b∉frs l->∃o',B.get? b=some o')(keep:∀b o,s1.heap.get? b=some o->H1 b=none->b∉frs l->B.get? b=some o)
  (ff:h.FunFrames B l) (fl:Fly B l ea C h3) (up:h.UpToSlots h3):Un (frs l) [] H1 H' s1.heap h3:=by
 refine⟨fun b o g z n _=>fl.st _ _ (keep b o g z n),fun b o g z n hx=>?_,un.free,fun b o g _=>?_,un.tups,un.frzs,un.tbls⟩
 ·obtain⟨sl,e1⟩:=un.slot b o g z n hx;obtain⟨_,o3,e3,nd⟩:=ff.mem n;rw[e1]at e3;cases e3;obtain⟨sl3,e4⟩:=up b _ e1 nd;exact⟨sl3,e4⟩
 ·by_cases n:b∈frs l
  ·obtain⟨_,o3,e3,_⟩:=fl.ff.mem n;exact⟨o3,e3⟩
  ·obtain⟨o',e⟩:=old b o g n;exact⟨o',fl.st _ _ e⟩
theorem Kc{l:List Env}{s1:ZZ}{h3 B:Heap}{H1:Hp}{C:Z7}(un:Un (frs l) [] H1 H' s1.heap h3)(old:∀b o,s1.heap.get? b=some o->b∉frs l->∃o',B.get? b=some o')(he:H' ea=none)(fl:Fly B l ea C h3)(o:HO):Un (frs l) [] H1 (upd H' ea o) s1.heap h3:=by
 have ne:∀b ob,s1.heap.get? b=some ob->b≠ea:=fun b ob g z=>by
  by_cases n:b∈frs l
  ·obtain⟨_,o3,e3,nd⟩:=fl.ff.mem n;obtain⟨oe,vs,_,_,_,g1,_,g3,_⟩:=fl.tr;rw[z,g1]at e3;cases e3;exact nd vs g3
  ·obtain⟨o',e⟩:=old b ob g n;rw[z,fl.nw]at e;cases e
 have nt:∀b u,H' b=some u->b≠ea:=fun b u g z=>by rw[z,he]at g;cases g
 refine⟨un.keep,un.slot,fun b ob g z hx=>by rw[bN (ne b ob g)];exact un.free b ob g z hx,un.there,fun b xs z=>?_,fun b ob u z=>?_,fun b ps z=>?_⟩
 ·have:=un.tups b xs z;rw[bN (nt b _ this)];exact this
 ·have:=un.frzs b ob u z;rw[bN (nt b _ this)];exact this
 ·obtain⟨mo,this⟩:=un.tbls b ps z;exact⟨mo,by rw[bN (nt b _ this)];exact this⟩
theorem Iu{P:ZS}{w:Zg}{B h3:Heap}{l:List Env}(hok:HOk P w H' B)(he:H' ea=none)(fl:Fly B l ea (.ref CC) h3):HOk P w (upd H' ea (wX ea CC)) h3:=fun b o e=>by
 by_cases hb:b=ea
 ·subst hb;rw[bx]at e;cases e;obtain⟨oe,vs,_,_,_,g1,g2,g3,_⟩:=fl.tr;exact⟨⟨oe,g1,g2.1,g2.2,vs,g3⟩,⟨oe,g1⟩,fun h1 h2 ⟨o,g,r⟩ m=>⟨o,m o g,r⟩⟩
 ·rw[bN hb]at e;refine(hok b o e).stay (fun c u _ g=>fl.st c u g) (fun c z=>?_) fun c xs z=>?_
  ·rw[bN fun y=>by rw[y,he]at z;cases z];exact z
  ·rw[bN fun y=>by rw[y,he]at z;cases z];exact z
end
def Nh(X:Cx)(pins:List (Addr×Obj))(σ:L2.St)(E:XK)(e:Z7)(s':ZZ):Prop:=∃H1 s1,Inv X pins σ H1 s1/\CX1 X.prog X.w X.stack H1 s1 E e s'
def PXE(X:Cx)(e:ZC)(te:L2.St->Hp->XK->Prop):Prop:=∀(pins:List (Addr×Obj)) (s:ZZ) (σ:L2.St) (H:Hp) (E:XK),Inv X pins σ H s->te σ H E->wpAny (Zv X.prog X.w) X.A (eval e X.env) (fun _ _=>False) (Nh X pins σ E) s
def PXs(X:Cx)(sts:List Zw)(te:L2.St->Hp->XK->Prop):Prop:=∀(pins:List (Addr×Obj)) (s:ZZ) (σ:L2.St) (H:Hp) (E:XK),Inv X pins σ H s->te σ H E->wpAny (Zv X.prog X.w) X.A (execs sts X.env) (fun _ _=>False) (Nh X pins σ E) s
section
variable{X:Cx}{k:Nat}{f C:Addr}{fd:X5}{ps:List Str}{sp:Sp}{m:Str}{pos apos:Pos}{e o:ZC}{es:List ZC}{ta:TE}{t:TA}{te:L2.St->Hp->XK->Prop}
theorem Hi{pl:Sem Bool}(hx:∀e s,¬X.xe e s)(he:PE X o ta)(c:Cls X.K C)(hm:Cw X.K C m f)(F:lU X.prog X.w X.K X.mg X.base (CX1 X.prog X.w) k f fd ps sp)(hr:gS k X.A)(hb:gW X.K fd ps [])(ha:PA X (e::es) t)
  (hst:ZX (e::es) X.env=(false,eval e X.env)::ZX es X.env:=by rfl) (hpl:(Zf pos (ZX es X.env)).any (·.1)=false:=by rfl)
  (ht:eval (.Call (.Attribute o m apos) (e::es) [] pos) X.env=(do
   let ov <-eval o X.env
   standAt apos.atName
   let (f,first) <-holding [ov] (getMethod ov m pl)
   callWith pos f first (Zf pos (ZX (e::es) X.env)) (backToKw pos (keywordEach [] X.env))):=by rfl) :
  PXE X (.Call (.Attribute o m apos) (e::es) [] pos) (fun σ H E=>vR C m sp [] E ta t σ H fun _ _=>False):=by
 intro pins s σ H E I h;refine PySem.W.methodCall_KW (pl:=pl) (Zn (he pins s σ H _ I h) (fun u s1 hz=>?_) fun e s x=>(hx e s x).elim) ht;obtain⟨x,H1,I1,rx,a,dx,fs,ex,ea,l,q⟩:=hz;subst ex;obtain rfl:u=Value.ref a:=rx;refine nk I1 ea c hm l ?_;refine PySem.W.callWith_K (first:=[.ref a]) (h₀:=X.base) I.ok.mod.kin hm.kp (Zn (ha pos pins s1 σ H1 _ I1 q) (fun us s2 hz=>?_) fun e s x=>(hx e s x).elim) hst hpl;obtain⟨vs,H2,I2,r,q2⟩:=hz;refine⟨I2.kIn,?_⟩;have r2:cU (.ref a::vs) (.ref a::us):=.cons rfl r;rw[Zu]at q2;have hl:(Value.ref a::us).length=ps.length:=by rw[<-r2.length];exact F.len _ _ _ _ q2
 have hb':=hb s2 (.ref a::us) I2.kIn (by rw[Zu];exact hl);rw[Zu]at hb';refine wpAny_call (codeAny_mono (F.run X.A X.stack s2 H2 ⟨.ref a::us,[]⟩ (.ref a::us) (.ref a::vs) _ E hr I2.env0 hb' r2 q2) fun r s' hq=>?_);cases r with
 |error e=>exact⟨H2,s2,I2,hq⟩
 |ok fl=>
  cases fl with
  |ret u=>obtain⟨_,_,_,_,_,_,_,z⟩:=hq;exact z
  |next=>exact False.elim hq
  |brk=>exact False.elim hq
  |cont=>exact False.elim hq
theorem Lc{x:Str}{pos':Pos}(he:PXE X e te)(hs:X7 e (some (.Name x pos')) pos.line X.env=pure false:=by rfl):PXs X [.Assign [.Name x pos'] e pos] te:=by
 intro pins s σ H E I h;refine wpAny_execs_cons ?_;exact wpAny_Assign_Name (Zn (he pins s σ H E I h) (fun _ _ z=>z.elim) fun _ _ z=>z) hs
end
def MR(i:Nat)(D:Co):Co:={ nx:=fun σ' H'=>D.nx (σ'.set i none) H',rt:=fun _ _=>False }
def eX(X:Cx)(CG:Addr)(i:Nat)(ts:TS)(D:Co)(σ:L2.St):XK:=fun e c H'=>∃ea CC,e=.ref ea/\c=some CC/\H' ea=none/\PySem.W.exmOne X.K (.ref CC) (.ref CG)=some true/\ts (MR i D) (σ.set i (some (.ref ea))) (upd H' ea (wX ea CC))
theorem sL{h1 h2 h3:Heap}(a:h1.UpToSlots h2)(b:h2.UpToSlots h3):h1.UpToSlots h3:=fun c o g nd=>by
 obtain⟨sl,g1⟩:=a c o g nd;obtain⟨sl2,g2⟩:=b c _ g1 nd;exact⟨sl2,g2⟩
theorem Ek{B h:Heap}{l:List Env}{ea CC:Addr}(fl:Fly B l ea (.ref CC) h):∃ox,PySem.W.InstAt h ea ox CC none:=by
 obtain⟨oe,vs,_,_,_,g1,g2,g3,_⟩:=fl.tr;refine⟨oe,g1,g2.1,by unfold PySem.W.notCls;rw[g3],?_⟩;rw[g2.2];trivial
section
variable{X:Cx}{body suite:List Zw}{b0:Zw}{tb ts:TS}{te:L2.St->Hp->XK->Prop}{g n:Str}{i:Nat}{CG:Addr}{gp hpos pos:Pos}
theorem Hn(hx:∀e s,¬X.xe e s)(hst:X.stack=X.env::X.outer)(hfr:X.env.frame=some X.env.locals)(hN:X.N.Nodup)(hi:X.N[i]?=some n)(hk:X.env.scope.names.lookup n=some .local)(hg:L2.Gl X g)(hm:X.mg g=some (.ref CG))
  (hbN:PSs X body tb) (hbR:PXs X body te) (hsu:∀ea,PSs (zr X ea) (b0::suite) ts) (hd:(g == ("__debug__":Str))=false:=by decide) :
  PS X (.Try body [.ExceptHandler (some (.Name g gp)) (some n) (b0::suite) hpos] [] [] pos) (fun D σ H=>tb D σ H\/te σ H (eX X CG i ts D σ)):=by
 intro pins s σ H D I h;rcases h with h|h
 ·refine wpAny_Try_except (Zn (hbN pins s σ H D I h) (fun f s1 q=>?_) fun e s1 x=>(hx e s1 x).elim);cases f with
  |next=>exact wpAny_execs_nil q
  |_=>exact q
 refine wpAny_Try_except (Zn (hbR pins s σ H _ I h) (fun f s1 z=>z.elim) fun e s1 hz=>?_);obtain⟨H1,s0,I1,ea,CC,H',B,rfl,os,bare,un,hok,old,keep,fl,ea2,CC2,e1,e2,he,hex,hts⟩:=hz;cases e1;cases e2;rw[hst]at un old keep fl;have hfs:X.A.frames=some (X.env::X.outer):=by rw[<-hst];exact I.ok.frames
 refine uU (B:=B) (outer:=X.outer) (L:=X.env.locals) hfs fl.ff hfr fl.st fl.nw fl.tr fun h2 a1 a2 a3 a4=>?_;refine jr (s:={ s1 with heap:=h2 }) a1 a2 fl.nw a3 fun h3 fl3 up3=>?_;have u3:=E3 un old keep fl.ff fl3 (sL a4 up3);have I3:Inv X pins σ H' { s1 with heap:=h3 }:=I1.call' (s':={ s1 with heap:=h3 }) os (by rw[hst];exact u3) (hok.kept fl3.st) bare (fun b z=>by cases z);refine wpAny_handleBy_cons (codeAny_handlers_test ?_) (by unfold byPass;intro z;cases z);refine mY (X:=zr X ea) (Inv.hold I3 ea) hg hm ?_ hd;obtain⟨ox,hin⟩:=Ek fl3;refine(PySem.W.exm_one (K:=X.K) I3.kIn hin.type hex) _ _ _ _ (fun b o z=>z) ?_;show codeAny _ _ _ _ _;refine codeAny_handlers_suite_as (jr (s:={ s1 with heap:=h3 }) fl3.st fl3.ff fl3.nw fl3.tr fun h4 fl4 up4=>?_);have u4:=Kc (E3 un old keep fl.ff fl4 (sL (sL a4 up3) up4)) old he fl4 (wX ea CC);have I4:Inv X pins σ (upd H' ea (wX ea CC)) { s1 with heap:=h4 }:=I1.call' (s':={ s1 with heap:=h4 }) os (by rw[hst];exact u4) (Iu hok he fl4) bare (fun b z=>by cases z);refine oP (X:=zr X ea) (Inv.hold I4 ea) hN hi (.inl hk) (v:=.ref ea) rfl (fun s5 I5=>?_) (.inr hk);refine Zn (hsu ea pins s5 _ _ (MR i D) I5 hts) (fun f s6 hz=>?_) fun e s x=>(hx e s x).elim;cases f with
 |next=>
  obtain⟨σ',H6,I6,q⟩:=hz;have I6':=Inv.unhold I.ok I6;refine ZQ (wpAny_bindName (oP I6' hN hi (.inl hk) (v:=.non) rfl (fun s7 I7=>?_) (.inr hk)));unfold unbindBehindTheSuite;refine wpAny_onRaise ?_;obtain⟨m,hn,hl⟩:=id I7.loc;have hiσ:i < σ'.length:=by rw[I6.len];exact(Z9.mp hi).1
  obtain⟨u,ru,lk⟩:=hl i n .non hi (by rw[Zr hiσ]) (.inl hk);have hmn:∃v,m n=some v:=by
   rcases lk with⟨_,z⟩|⟨z,_⟩
   ·exact⟨_,z⟩
   ·rcases z with z|z
    ·have z':X.env.scope.names.lookup n=some .cell:=z;rw[hk]at z';cases z'
    ·have z':X.env.scope.names.lookup n=some .free:=z;rw[hk]at z';cases z'
  obtain⟨v,hmn⟩:=hmn;refine wpAny_unbindName_local hk hn hmn (by rw[I.ok.kind];rfl) fun h8 u hn8 hs8=>?_;refine⟨_,H6,Inv.unset I7 hN hi hk hn hl hn8 hs8,?_⟩;rw[List.set_set];exact q
 |brk=>obtain⟨_,_,_,q⟩:=hz;exact q.elim
 |cont=>obtain⟨_,_,_,q⟩:=hz;exact q.elim
 |ret u=>obtain⟨_,_,_,_,_,q⟩:=hz;exact q.elim
end
abbrev RXs(X:Cx)(sts:List Zw)(x:CR):Prop:=PXs X sts fun σ H E=>tX X.K E x σ H
abbrev RXE(X:Cx)(e:ZC)(x:CR):Prop:=PXE X e fun σ H E=>tX X.K E x σ H
open Classical in
def Jh(Cs:List Addr)(i:Nat)(c:CS)(x:CR)(h:CS):CS:=fun ρ S=>match c ρ S with
 |some r=>some r
 |none=>(x ρ S).bind fun p=>if p.1∈Cs then(h (ρ.set i (some (.ref p.2.length))) (p.2++[.exc p.1])).bind fun r=>match r.1 with
  |.nx=>some (.nx,r.2.1.set i none,r.2.2)
  |_=>none else none
theorem Lr.unset{K:Z6}{m:List Addr}{H:Hp}{ρ:Rho}{σ:L2.St}(h:Lr K m H ρ σ)(i:Nat):Lr K m H (ρ.set i none) (σ.set i none):=by
 refine⟨by simp[h.len],fun j w e=>?_⟩;by_cases c:i=j
 ·subst c;rw[List.getElem?_set]at e;simp at e
 ·rw[ZH c]at e;rw[ZH c];exact h.at_ j w e
section
variable{X:Cx}{body suite:List Zw}{b0:Zw}{c h:CS}{x:CR}{g n:Str}{i:Nat}{CG:Addr}{gp hpos pos:Pos}{Cs:List Addr}
theorem Hf(hx:∀e s,¬X.xe e s)(hst:X.stack=X.env::X.outer)(hfr:X.env.frame=some X.env.locals)(hN:X.N.Nodup)(hi:X.N[i]?=some n)(hk:X.env.scope.names.lookup n=some .local)(hg:L2.Gl X g)(hm:X.mg g=some (.ref CG))
  (hCs:∀C∈Cs,PySem.W.exmOne X.K (.ref C) (.ref CG)=some true)
  (hbN:QSs X body c) (hbR:RXs X body x) (hsu:∀ea,QSs (zr X ea) (b0::suite) h) (hd:(g == ("__debug__":Str))=false:=by decide) :
  QS X (.Try body [.ExceptHandler (some (.Name g gp)) (some n) (b0::suite) hpos] [] [] pos) (Jh Cs i c x h):=
 (show WS X _ _ from⟨Hn (ts:=tS X.K h) hx hst hfr hN hi hk hg hm hbN.h hbR (fun ea=>(hsu ea).h) hd⟩).imp fun D σ H hz=>wY hz fun m ρ S o ρ' S' sr lr hc post=>by
 unfold Jh at hc;split at hc
 ·rename_i r hr;cases hc;exact .inl ⟨m,ρ,S,o,ρ',S',sr,lr,hr,post⟩
 ·obtain⟨⟨CC,S1⟩,h1,h2⟩:=Z0.mp hc;dsimp only at h2;split at h2
  ·rename_i hin;obtain⟨⟨o2,ρ2,S2⟩,h3,h4⟩:=Z0.mp h2;cases o2 with
   |nx=>
    cases h4;refine .inr ⟨m,ρ,S,CC,S1,sr,lr,h1,fun m' ea H' e1 sr1 he=>⟨ea,CC,rfl,rfl,he,hCs CC hin,?_⟩⟩;have en:Ext X.K m' H' (m'++[ea]) (upd H' ea (wX ea CC)):=.new (dc he _);refine⟨m'++[ea],_,S1++[.exc CC],.nx,ρ2,S2,sr1.new (o:=.exc CC) he (show upd H' ea (wX ea CC) ea=some (wX ea CC)from bx),(lr.mono (e1.trans en)).set i (.ref_ (gM sr1.len)),h3,fun m1 σ1 H1 e2 sr2 lr2=>?_⟩;exact post m1 (σ1.set i none) H1 ((e1.trans en).trans e2) sr2 (lr2.unset i)
   |_=>cases h4
  ·cases h2
end
section
variable{X:Cx}{c:Cl}{mn:Str}{g:FnR}{k:Nat}{ps:List Str}{o e:ZC}{es:List ZC}{co:CE}{cr:CA}{apos pos:Pos}{pl:Sem Bool}{x:CR}
theorem GV(hx:∀e s,¬X.xe e s)(hcl:Cls X.K c.C)(F:mI X.prog X.w X.K X.mg X.base c mn k ps g)(hr:gS k X.A)(hmn:mn∉c.ns)(ho:QE X o co)(ha:QA X (e::es) cr)
  (hst:ZX (e::es) X.env=(false,eval e X.env)::ZX es X.env:=by rfl) (hpl:(Zf pos (ZX es X.env)).any (·.1)=false:=by rfl) (ht:eval (.Call (.Attribute o mn apos) (e::es) [] pos) X.env=(do
   let ov <-eval o X.env
   standAt apos.atName
   let (f,first) <-holding [ov] (getMethod ov mn pl)
   callWith pos f first (Zf pos (ZX (e::es) X.env)) (backToKw pos (keywordEach [] X.env))):=by rfl):RXE X (.Call (.Attribute o mn apos) (e::es) [] pos) (mK c g co cr):=by
 obtain⟨fa,fd,hm,F,hb⟩:=F.ex;exact fun pins s σ H E I h=>Hi hx ho.h hcl hm F hr hb ha.h.h hst hpl ht pins s σ H E I (u7 hmn h)
theorem KQ{y:Str}{pos':Pos}(he:RXE X e x)(hs:X7 e (some (.Name y pos')) pos.line X.env=pure false:=by rfl):RXs X [.Assign [.Name y pos'] e pos] x:=Lc he hs
end
structure EL(K:Z6)(C:Addr):Prop where
 ga:PySem.W.findIn K (.ref C) "__getattribute__"=some (some (.builtin "BaseException.__getattribute__"))
 gn:PySem.W.findIn K (.ref C) "__getattr__"=some none
 mb:PySem.W.mroIn K C (.type "BaseException")=some true
 hd:PySem.W.hasDictIn K C=true
 fc:PySem.W.findIn K (.ref C) "__class__"=some (some (.builtin "object.__class__"))
 sp:PySem.W.specialIn K (.builtin "object.__class__") "__get__"=some (some (.builtin "getset_descriptor.__get__"))
 tk:PySem.W.takesIn K (.builtin "object.__class__")=some true
 mo:PySem.W.mroIn K C (.type "object")=some true
 ks:PySem.W.kitCls K (.ref C) (.ref C)=some true
 ex:IZ K C
theorem wR{K:Z6}{C:Addr}{odo:Option Obj}{name:Str}{a g:Z7}(hc:(PySem.W.clsIn K C).isSome=true)(ha:PySem.W.findIn K (.ref C) name=some (some a))(hs:PySem.W.specialIn K a "__get__"=some (some g))(ht:PySem.W.takesIn K a=some true):PySem.W.findObj K C odo name=some (.bind g a):=by
 obtain⟨cd,hc⟩:=XU.mp hc;unfold PySem.W.findObj;have hs':PySem.W.specialIn K a (Str.ofString "__get__")=some (some g):=hs;simp only[hc,ha,Z8,hs',ht]
theorem By{prog:ZS}{w:Zg}{A:Za}{E:Z7->ZZ->Prop}{s:ZZ}{K:Z6}{x C:Addr}{ox:Obj}{Q:Option Z7->ZZ->Prop}(X:K.In s.heap)(I:PySem.W.InstAt s.heap x ox C none)
  (hga:PySem.W.findIn K (.ref C) "__getattribute__"=some (some (.builtin "BaseException.__getattribute__"))) (hgn:PySem.W.findIn K (.ref C) "__getattr__"=some none) (hb:PySem.W.mroIn K C (.type "BaseException")=some true) (hm:PySem.W.mroIn K C (.type "object")=some true)
  (hf:PySem.W.findObj K C none "__class__"=some (.bind (.builtin "getset_descriptor.__get__") (.builtin "object.__class__")))
  (k:Q (some (.ref C)) { s with toks:=s.toks+1 }):wpAny (Zv prog w) A (getAttr? (.ref x) "__class__") Q E s:=by
 obtain⟨hh,g,d,t,os⟩:=s;have L0:=I.type (M:=Zv prog w);have L1:=PySem.W.looks_findIn (M:=Zv prog w) X hga;have L2:=PySem.W.looks_findIn (M:=Zv prog w) X hgn;have L3:=PySem.W.looks_find (M:=Zv prog w) X I hf;have L4:=PySem.W.looks_mroIn (M:=Zv prog w) X hb;have LI:PySem.W.Looks (Zv prog w) hh (isInstance (.ref x) (.type "BaseException")) true:=L0.andThen L4;have f3:=PySem.F.attr_ValueError.ga.bind (.ref x);have nn:(onTheHeap (Value.ref C)&&Value.builtin "BaseException.__getattribute__" == Value.builtin "object.__getattribute__")=false:=by
  have h2:(Value.builtin "BaseException.__getattribute__" == Value.builtin "object.__getattribute__")=false:=by decide +kernel
  rw[h2];rfl
 unfold getAttr? getAttrBy? getAttrBy;refine ZQ (wpAny_mkText (ZQ (wpAny_attempt (wpAny_holding (ZQ (L0.at ?_))))));refine ZQ (L1.at ?_);dsimp only;rw[nn,if_neg ZL];unfold getAttrByItsOwn;refine ZQ (L2.at ?_);refine ZQ (wpAny_attempt (wpAny_holding ?_));show wpAny _ _ (boundAndCalled _ _ _) _ _ _;unfold boundAndCalled;rw[f3];refine ZQ (ZO ?_);refine wpAny_call (codeAny_call_builtin PySem.F.attr_ValueError.ga.plain F.entry_bexc_ga ?_);have hk:builtinKind "BaseException.__getattribute__"=some .slot:=by decide +kernel
 have hsplit:splitId "BaseException.__getattribute__"=some ("BaseException","__getattribute__"):=by decide +kernel
 have ha:=F.args_bexc_ga (.ref x) (.str "__class__" t);simp only[checkBuiltinCall,hk,hsplit];refine ZQ (LI.at ?_);rw[if_neg (by decide)];unfold argsOk at ha;refine Eq.mpr (congrArg (fun m=>wpAny (Zv prog w) A.in1 m _ _ _) ha) (ZO ?_);unfold Builtin.«object.__getattribute__»;refine ZQ (ZO ?_);refine ZQ (ZO ?_);refine ZQ (L0.at ?_);refine ZQ (L3.at ?_);show wpAny _ _ (holding [.builtin "object.__class__"] (call (.builtin "getset_descriptor.__get__") [.builtin "object.__class__",.ref x,.ref C]) >>= ret) _ _ _;refine ZQ (wpAny_holding (wpAny_call (PySem.W.class_get X I hm ?_)));refine ZO (PySem.W.handed_on rfl (ZO k))
theorem tH{K:Z6}{C e:Addr}(x:EL K C):PySem.W.KitX K (.ref e) (.ref C) (fun h=>∃ox,PySem.W.InstAt h e ox C none) where
 ty:=fun M h X ⟨ox,I⟩=>I.type
 it:=fun M h X _=>(PySem.W.kit_cls X x.ks).2.1
 ne:=fun h tp dd its n sl X htp=>by
  rw[Bool.eq_false_iff];intro q;have e:=Value.ref.inj (beq_iff_eq.mp q);subst e;obtain⟨_,_,_,_,_,_,_,_,_,_,_,_,_,_,_,_,_,o1,_⟩:=Bx X x.ex;rw[o1]at htp;have z:Value.type "type"=Value.type "tuple":=congrArg Obj.cls (Option.some.inj htp);exact absurd z (by decide)
 ca:=fun{prog w A E Q s} X ⟨ox,I⟩ k=>by
  have hf:=wR (K:=K) (C:=C) (odo:=none) (by
   have:=x.hd;unfold PySem.W.hasDictIn at this;cases hz:PySem.W.clsIn K C with
   |none=>rw[hz]at this;cases this
   |some cd=>rfl) x.fc x.sp x.tk
  exact By X I x.ga x.gn x.mb x.mo hf k
section
variable{X:Cx}{K:Z6}
theorem En{P:ZS}{w:Zg}{H:Hp}{h:Heap}{a D:Addr}(hok:HOk P w H h)(hH:H a=some (wX a D)):∃ox,PySem.W.InstAt h a ox D none:=by
 obtain⟨⟨o,g1,g2,g3,vs,g4⟩,_,_⟩:d6 P w H h a (wX a D):=hok a _ hH;refine⟨o,g1,g2,by unfold PySem.W.notCls;rw[g4],?_⟩;rw[g3];trivial
def Pj(K:Z6):List V->Hp->VK->Prop:=fun xs H Q=>∃a D,H a=some (wX a D)/\EL K D/\((∃c b,xs=[.ref a,.ref c]/\PySem.W.kitOne K (.ref D) (.ref c)=some b/\Q (.bl b) H)\/(∃T b,xs=[.ref a,.ty T]/\PySem.W.kitOne K (.ref D) (.type T)=some b/\Q (.bl b) H)\/
 ∃(p:Addr) (cs:List Addr) (b:Bool),xs=[.ref a,.ref p]/\SqT K H p (cs.map V.ref)/\PySem.W.kitAny K (.ref D) (cs.map Value.ref)=some b/\Q (.bl b) H)
theorem uz:∀{cs:List Addr} {us:List Z7},cU (cs.map V.ref) us->us=cs.map Value.ref
 |[],us,r=>by cases r;rfl
 |c::cs,us,r=>by
  cases r with
  |cons r1 r2=>
   cases r1;rw[uz r2];rfl
theorem Fl:gU X (.builtin "isinstance") (Pj X.K):=by
 rintro pins s σ H xs us Q I r ⟨a,D,hH,xc,h⟩;have hin:=En I.hok hH;rcases h with⟨c,b,rfl,hk,q⟩|⟨T,b,rfl,hk,q⟩|⟨p,cs,b,rfl,sq,hk,q⟩
 ·obtain⟨u,w',rfl,ru,rw'⟩:=yU r;cases ru;cases rw';exact PySem.W.kia_one (tH xc) I.kIn hin hk (fun z=>nomatch z) fun tk=>⟨.bl b,H,I.tok tk,rfl,q⟩
 ·obtain⟨u,w',rfl,ru,rw'⟩:=yU r;cases ru;cases rw';exact PySem.W.kia_one (tH xc) I.kIn hin hk (fun z=>nomatch z) fun tk=>⟨.bl b,H,I.tok tk,rfl,q⟩
 ·obtain⟨u,w',rfl,ru,rw'⟩:=yU r;cases ru;cases rw';obtain⟨its,rv,⟨ob,g,c,n,d⟩,_⟩:=I.tuple sq;obtain⟨oc,od,oda,osl⟩:=ob;dsimp only at c d;subst c d;have ei:=uz rv;subst ei;exact PySem.W.kia_tup (tH xc) I.kIn hin g hk (fun z=>nomatch z) fun tk=>⟨.bl b,H,I.tok tk,rfl,q⟩
end
theorem Eo{prog:ZS}{w:Zg}{A:Za}{E:Z7->ZZ->Prop}{s:ZZ}{a b:Bool}{Q:Bool->ZZ->Prop}(q:Q (a == b) s):wpAny (Zv prog w) A (eqBool (.bool a) (.bool b)) Q E s:=by
 unfold eqBool;refine wpAny_holding ?_;by_cases h:a=b
 ·subst h;rw[if_pos (by simp)];refine ZQ (wpAny_rule (ZO ?_));simpa using q
 ·rw[if_neg (by simpa using h)];show wpAny _ _ (do let v <-richCompare .Eq (.bool a) (.bool b);truthOfDropped v) _ _ s;refine ZQ (PyProof.Rows.eq_bool ?_);have e:decide (a=b)=(a == b):=by rw[Bool.eq_iff_iff];simp
  wp_walk
  simpa [e] using q
section
variable{X:Cx}{K:Z6}
def K1:V->List V->Hp->VK->Prop:=fun x vs H Q=>∃(l:Addr) (bs:List Bool),x=.ref l/\vs=[.bl true]/\H l=some (.lst (bs.map V.bl))/\Q (.int (bs.count true:Nat)) H
def K0:V->List V->Hp->VK->Prop:=fun x vs H Q=>∃(l:Addr) (bs:List Bool),x=.ref l/\vs=[.bl true]/\H l=some (.lst (bs.map V.bl))/\true∈bs/\bs.length<1000/\Q (.int (bs.idxOf true:Nat)) H
theorem sJ:∀{bs:List Bool} {us:List Z7},cU (bs.map V.bl) us->us=bs.map Value.bool
 |[],us,r=>by cases r;rfl
 |c::cs,us,r=>by
  cases r with
  |cons r1 r2=>
   cases r1;rw[sJ r2];rfl
def Jd:Z7->Bool
 |.bool b=>b
 |_=>false
theorem Kh{A:Za}{s:ZZ}{bs:List Bool}:∀y∈bs.map Value.bool,SeqAt.EqAt A s y (.bool true) (Jd y):=fun y hy=>by
 obtain⟨b,_,rfl⟩:=XW.mp hy;intro prog w E Q q;refine Eo ?_;have:(b == true)=Jd (.bool b):=by cases b<;>rfl
 rw[this];exact q
theorem Ie:MtM X "list.count" K1:=by
 intro pins s σ H x vs v us Q I rx rv h;obtain⟨l,bs,rfl,rfl,hH,q⟩:=h;cases rx;obtain⟨u,rfl,ru⟩:=rv.one;cases ru;obtain⟨_,its,n,r,hl,e⟩:=I.lstM hH;have ei:=sJ r;subst ei;refine call_meets PySem.F.slot_list_count ⟨_,e,rfl⟩ PySem.F.entry_list_count (PySem.F.args_list_count_2 _ _) (SeqAt.list_countAt l _ n none #[] (.bool true) Jd) ⟨e,fun y hy=>Kh y (by simpa using hy),?_⟩;have ec:List.countP Jd (bs.map Value.bool).toArray.toList=bs.count true:=by
  show List.countP Jd (bs.map Value.bool)=_;rw[List.countP_map,List.count];exact congrFun (congrArg List.countP (funext fun b=>by cases b<;>rfl)) bs
 rw[ec];exact⟨.int _,H,I.tok _,⟨_,rfl⟩,q⟩
theorem Ib:MtM X "list.index" K0:=by
 intro pins s σ H x vs v us Q I rx rv h;obtain⟨l,bs,rfl,rfl,hH,hin,hlen,q⟩:=h;cases rx;obtain⟨u,rfl,ru⟩:=rv.one;cases ru;obtain⟨_,its,n,r,hl,e⟩:=I.lstM hH;have ei:=sJ r;subst ei;have hj:bs.idxOf true<bs.length:=List.idxOf_lt_length_iff.mpr hin;refine call_meets PySem.F.slot_list_index ⟨_,e,rfl⟩ PySem.F.entry_list_index (PySem.F.args_list_index_2 _ _) (SeqAt.list_indexAt l _ n none #[] (.bool true) Jd (bs.idxOf true) (by simpa using hj) (by omega) ?_ fun m hm1 hm2=>?_) ⟨e,fun y hy=>Kh y (by simpa using hy),⟨.int _,H,I.tok _,⟨_,rfl⟩,q⟩⟩
 ·have:(bs.map Value.bool).toArray[bs.idxOf true]'(by simpa using hj)=.bool true:=by simp
  rw[this];rfl
 ·have hm:m<bs.length:=by simpa using hm1
  have hne:bs[m]≠true:=fun z=>by
   have:=List.not_of_lt_findIdx (p:=(· == true)) (xs:=bs) hm2;simp[z]at this
  have:(bs.map Value.bool).toArray[m]'hm1=.bool bs[m]:=by simp
  rw[this];cases hb:bs[m]with
  |true=>exact absurd hb hne
  |false=>rfl
def wW:U->List U->Sto->Option (U×Sto)
 |.ref l,[.bl true],S=>match S[l]? with
  |some (.lst us)=>(Cv us).bind fun bs=>some (.int (bs.count true:Nat),S)
  |_=>none
 |_,_,_=>none
def wU:U->List U->Sto->Option (U×Sto)
 |.ref l,[.bl true],S=>match S[l]? with
  |some (.lst us)=>(Cv us).bind fun bs=>if true∈bs/\bs.length<1000 then some (.int (bs.idxOf true:Nat),S)else none
  |_=>none
 |_,_,_=>none
theorem t5:∀{us:List U} {bs:List Bool},Cv us=some bs->us=bs.map U.bl
 |[],bs,h=>by cases h;rfl
 |.bl b::us,bs,h=>by
  simp only[Cv]at h;obtain⟨r,h1,h2⟩:=X2.mp h;rw[<-h2,t5 h1];rfl
 |.non::_,_,h=>by cases h
 |.int _::_,_,h=>by cases h
 |.str _::_,_,h=>by cases h
 |.tup _::_,_,h=>by cases h
 |.ref _::_,_,h=>by cases h
 |.kl _::_,_,h=>by cases h
theorem LQ:MtP K K1 wW:=by
 intro m S H x v us vs u S' Q sr ix i hf post;unfold wW at hf;split at hf
 ·rename_i l;split at hf
  ·rename_i ws hS;obtain⟨bs,hb,h2⟩:=Z0.mp hf;cases h2;obtain⟨a,ha,rfl⟩:=ix.of_ref;obtain⟨a',ha',xs,hx,la⟩:=sr.get hS;rw[ha]at ha';cases ha';rw[t5 hb]at la;obtain⟨y,rfl,iy⟩:=i.one;exact⟨a,bs,rfl,by rw[iy.of_bl],by rw[hx,IsL.bls la],post m _ H .refl sr .int_⟩
  ·cases hf
 ·cases hf
theorem LO:MtP K K0 wU:=by
 intro m S H x v us vs u S' Q sr ix i hf post;unfold wU at hf;split at hf
 ·rename_i l;split at hf
  ·rename_i ws hS;obtain⟨bs,hb,h2⟩:=Z0.mp hf;split at h2
   ·rename_i hc;cases h2;obtain⟨a,ha,rfl⟩:=ix.of_ref;obtain⟨a',ha',xs,hx,la⟩:=sr.get hS;rw[ha]at ha';cases ha';rw[t5 hb]at la;obtain⟨y,rfl,iy⟩:=i.one;exact⟨a,bs,rfl,by rw[iy.of_bl],by rw[hx,IsL.bls la],hc.1,hc.2,post m _ H .refl sr .int_⟩
   ·cases h2
  ·cases hf
 ·cases hf
variable{e:ZC}{es:List ZC}{co:CE}{cr:CA}{o:ZC}{apos cpos:Pos}
theorem Lb (ho : QE X o co) (ha : QA X (e :: es) cr) (hbase : attributeBase o "count" X.env (eval o X.env) = eval o X.env := by rfl) (hfew : ((Zf cpos (ZX (e :: es) X.env)).all (fun x => !x.1) && (backToKw cpos (keywordEach [] X.env)).all (fun x => x.1.isSome)
   && decide ((e::es).length+([]:List Keyword).length+(if ([]:List Keyword).isEmpty then 0 else 1)<30))=true:=by rfl) (hline:(apos.endLine == cpos.line)=true:=by rfl) (hs:ZX (e::es) X.env=(false,eval e X.env)::ZX es X.env:=by rfl) (hplain:(Zf cpos (ZX es X.env)).any (·.1)=false:=by rfl) :
  QE X (.Call (.Attribute o "count" apos) (e::es) [] cpos) (cBM wW co cr):=(uw PySem.F.plainAttrs_list PySem.F.slot_list_count PySem.F.type_list_count Ie ho ha.h hbase hfew hline hs hplain).imp (BZ LQ)
theorem K8 (ho : QE X o co) (ha : QA X (e :: es) cr) (hbase : attributeBase o "index" X.env (eval o X.env) = eval o X.env := by rfl) (hfew : ((Zf cpos (ZX (e :: es) X.env)).all (fun x => !x.1) && (backToKw cpos (keywordEach [] X.env)).all (fun x => x.1.isSome)
   && decide ((e::es).length+([]:List Keyword).length+(if ([]:List Keyword).isEmpty then 0 else 1)<30))=true:=by rfl) (hline:(apos.endLine == cpos.line)=true:=by rfl) (hs:ZX (e::es) X.env=(false,eval e X.env)::ZX es X.env:=by rfl) (hplain:(Zf cpos (ZX es X.env)).any (·.1)=false:=by rfl) :
  QE X (.Call (.Attribute o "index" apos) (e::es) [] cpos) (cBM wU co cr):=(uw PySem.F.plainAttrs_list PySem.F.slot_list_index PySem.F.type_list_index Ib ho ha.h hbase hfew hline hs hplain).imp (BZ LO)
end
section
variable{X:Cx}{e ec:ZC}{ce:CE}{C:Addr}{f:Addr->Option Bool}{p pos:Pos}
def rC(f:Addr->Option Bool)(ce:CE):CE:=fun ρ S=>(ce ρ S).bind fun p=>match p.1 with
 |.ref l=>match p.2[l]? with
  |some (.exc D)=>(f D).bind fun b=>some (.bl b,p.2)
  |_=>none
 |_=>none
theorem se(hk:∀D b,f D=some b->EL X.K D/\PySem.W.kitOne X.K (.ref D) (.ref C)=some b)(he:QE X e ce)(hc:WE X ec (tC (.ref C)))(hg:Gl X "isinstance")(hm:X.mg "isinstance"=none)
  (h1:ZX [e,ec] X.env=(false,eval e X.env)::ZX [ec] X.env:=by rfl) (h2:ZX [ec] X.env=(false,eval ec X.env)::ZX [] X.env:=by rfl) (hpl:(Zf pos (ZX [ec] X.env)).any (·.1)=false:=by rfl) :
  QE X (.Call (.Name "isinstance" p) [e,ec] [] pos) (rC f ce):=(lX Fl hg hm OG.ib (cZ he (cZ hc jE h2) h1) (by decide) (by decide) h1 hpl).imp fun σ H Q hz=>qC hz fun m ρ S u S' sr lr hc post=>by
 obtain⟨⟨x,S1⟩,h1,h2⟩:=Z0.mp hc;refine⟨m,ρ,S,x,S1,sr,lr,h1,fun m1 v1 H1 e1 sr1 i1=>?_⟩;cases x with
 |ref l=>
  simp only at h2;split at h2<;>try cases h2
  rename_i D hS;obtain⟨b,hb,h3⟩:=Z0.mp h2;cases h3;obtain⟨a,ha,rfl⟩:=i1.of_ref;obtain⟨a',ha',ho⟩:=sr1.get hS;rw[ha]at ha';cases ha';obtain⟨xc,hk⟩:=hk D b hb;exact⟨a,D,ho,xc,.inl ⟨C,b,rfl,hk,post m1 _ H1 e1 sr1 .bl_⟩⟩
 |_=>cases h2
theorem K7{T:String}(hk:∀D b,f D=some b->EL X.K D/\PySem.W.kitOne X.K (.ref D) (.type T)=some b)(he:QE X e ce)(hc:WE X ec (tC (.ty T)))(hg:Gl X "isinstance")(hm:X.mg "isinstance"=none)
  (h1:ZX [e,ec] X.env=(false,eval e X.env)::ZX [ec] X.env:=by rfl) (h2:ZX [ec] X.env=(false,eval ec X.env)::ZX [] X.env:=by rfl) (hpl:(Zf pos (ZX [ec] X.env)).any (·.1)=false:=by rfl) :
  QE X (.Call (.Name "isinstance" p) [e,ec] [] pos) (rC f ce):=(lX Fl hg hm OG.ib (cZ he (cZ hc jE h2) h1) (by decide) (by decide) h1 hpl).imp fun σ H Q hz=>qC hz fun m ρ S u S' sr lr hc post=>by
 obtain⟨⟨x,S1⟩,h1,h2⟩:=Z0.mp hc;refine⟨m,ρ,S,x,S1,sr,lr,h1,fun m1 v1 H1 e1 sr1 i1=>?_⟩;cases x with
 |ref l=>
  simp only at h2;split at h2<;>try cases h2
  rename_i D hS;obtain⟨b,hb,h3⟩:=Z0.mp h2;cases h3;obtain⟨a,ha,rfl⟩:=i1.of_ref;obtain⟨a',ha',ho⟩:=sr1.get hS;rw[ha]at ha';cases ha';obtain⟨xc,hk⟩:=hk D b hb;exact⟨a,D,ho,xc,.inr (.inl ⟨T,b,rfl,hk,post m1 _ H1 e1 sr1 .bl_⟩)⟩
 |_=>cases h2
end
def fX(CA CS:Addr)(a b:Bool):Addr->Option Bool:=fun D=>if D=CA then some a else if D=CS then some b else none
theorem hkX{K:Z6}{CA CS:Addr}{a b:Bool}{φ:Addr->Bool->Prop}(xa:EL K CA)(xs:EL K CS)(ha:φ CA a)(hb:φ CS b):∀D c,fX CA CS a b D=some c->EL K D/\φ D c:=fun D c h=>by
 unfold fX at h;split at h
 ·rename_i e;subst e;cases h;exact⟨xa,ha⟩
 ·split at h
  ·rename_i e;subst e;cases h;exact⟨xs,hb⟩
  ·cases h
def Cq(x1 x2:CR):CR:=fun ρ S=>match x1 ρ S with
 |some r=>some r
 |none=>x2 ρ S
theorem AH{X:Cx}{E:XK}{sts:List Zw}{x1 x2:CR}(h1:RSs X E sts x1)(h2:RSs X E sts x2):RSs X E sts (Cq x1 x2):=⟨fun pins s σ H D I h=>by
 obtain⟨m,ρ,S,c,S',sr,lr,hc,post⟩:=h;unfold Cq at hc;split at hc
 ·rename_i r hr;cases hc;exact h1.h pins s σ H D I ⟨m,ρ,S,c,S',sr,lr,hr,post⟩
 ·exact h2.h pins s σ H D I ⟨m,ρ,S,c,S',sr,lr,hc,post⟩⟩
theorem mI.mono{P:ZS}{w:Zg}{K:Z6}{mg:Str->Option Z7}{base:Heap}{c:Cl}{mn:Str}{j k:Nat}{ps:List Str}{f:FnR}(h:mI P w K mg base c mn j ps f)(l:j<=k):mI P w K mg base c mn k ps f:=by
 obtain⟨fa,fd,a,b,d⟩:=h.ex;exact⟨fa,fd,a,b.mono l,d⟩
structure Cy(P:ZS)(w:Zg)(K:Z6)(mg:Str->Option Z7)(base:Heap)(x:Str)(k:Nat)(ps:List Str)(f:FnR):Prop where
 ex:∃fa fd,lU P w K mg base (CX1 P w) k fa fd ps (spX K f)/\gW K fd ps []/\PySem.W.keepIn K (.ref fa)=true/\mg x=some (.ref fa)
theorem Cy.mono{P:ZS}{w:Zg}{K:Z6}{mg:Str->Option Z7}{base:Heap}{x:Str}{j k:Nat}{ps:List Str}{f:FnR}(h:Cy P w K mg base x j ps f)(l:j<=k):Cy P w K mg base x k ps f:=by
 obtain⟨fa,fd,a,b,c,d⟩:=h.ex;exact⟨fa,fd,a.mono l,b,c,d⟩
theorem DfD.pureX{P:ZS}{w:Zg}{K:Z6}{mg:Str->Option Z7}{base:Heap}{N ps:List Str}{y:Str}{st:Zw}{k:Nat}{x:CR}(d:Def K mg y st ps)(S:aG N ps (ay st))
  (hb:∀(f:Addr) (cdv:Z7) (A:Za) (outer:List Env) (s:ZZ) (H:Hp) (E:XK),gS k (A.deeper (envOfC y (ay st) s.heap.objs.size f cdv))->RSs (cx1 P w K mg base N y (ay st) f cdv A outer s H E) E (dX st) x) :
  Cy P w K mg base y (k+1) ps (fnX N.length ps.length x):=by
 obtain⟨fa,fd,F,b,m⟩:=d;have kp:=F.kp;obtain⟨oc,od,kV,doc,pm,an,cdv,ct,osl,rfl,lk,hcd⟩:=F.ex;exact⟨fa,_,IF lk hcd S (fun vs H Q E h=>Av h) fun A outer s H vs Q E hr h=>⟨_,(hb fa cdv A outer s H E hr).h,yr h⟩,b,kp,m⟩
section
variable{X:Cx}{E:XK}{e a:ZC}{es:List ZC}{x:CR}{ca ce:CE}{cr:CA}{g:FnR}{k:Nat}{ps:List Str}{y:Str}{p pos:Pos}
def qV(g:FnR)(cr:CA):CR:=fun ρ S=>(cr ρ S).bind fun q=>g q.1 q.2
theorem sZ(F:Cy X.prog X.w X.K X.mg X.base y k ps g)(hr:gS k X.A)(hp:ic (CX1 X.prog X.w) X E)(hg:Gl X y)(ha:QA X (e::es) cr)
  (hdb:(y == ("__debug__":Str))=false:=by decide) (he:ZX (e::es) X.env=(false,eval e X.env)::ZX es X.env:=by rfl) (hpl:(Zf pos (ZX es X.env)).any (·.1)=false:=by rfl) :
  RE X E (.Call (.Name y p) (e::es) [] pos) (qV g cr):=by
 obtain⟨fa,fd,a,b,c,d⟩:=F.ex;exact(show WE X _ _ from⟨AV a hr hg d c b .nil hp ha.h.h hdb he hpl⟩).imp fun σ H Q h=>by
  obtain⟨m,ρ,S,cl,S',sr,lr,hc,post⟩:=h;obtain⟨⟨us,S1⟩,h1,h2⟩:=Z0.mp hc;exact⟨m,ρ,S,us,S1,sr,lr,h1,fun m1 vs H1 e1 sr1 i1=>⟨m1,us,S1,cl,S',by simpa using i1,sr1,h2,post.mono e1⟩⟩
abbrev RA(X:Cx)(E:XK)(es:List ZC)(x:CR):Prop:=WA X es fun σ H _=>tX X.K E x σ H
def zY(ce:CE)(x:CR):CR:=fun ρ S=>(ce ρ S).bind fun p=>x ρ p.2
def O4:∀es:List ZC,WA X es fun _ _ _=>False:=fun es=>⟨fun _ _ _ _ _ _ _ h=>h.elim⟩
theorem Hb(he:RE X E e x)(hs:ZX (e::es) X.env=(false,eval e X.env)::ZX es X.env:=by rfl):RA X E (e::es) x:=(cZ he (O4 es) hs).imp fun σ H Q h=>h
theorem Ha(ha:QE X e ce)(hr:RA X E es x)(hs:ZX (e::es) X.env=(false,eval e X.env)::ZX es X.env:=by rfl):RA X E (e::es) (zY ce x):=(cZ ha hr hs).imp fun σ H Q h=>by
 obtain⟨m,ρ,S,cl,S',sr,lr,hc,post⟩:=h;obtain⟨⟨u,S1⟩,h1,h2⟩:=Z0.mp hc;exact⟨m,ρ,S,u,S1,sr,lr,h1,fun m1 v1 H1 e1 sr1 i1=>⟨m1,ρ,S1,cl,S',sr1,lr.mono e1,h2,post.mono e1⟩⟩
theorem G7{f:Fn}(F:Has X.prog X.w X.K X.mg X.base y k ps (Aw X.K f))(hr:gS k X.A)(hg:Gl X y)(ha:RA X E (e::es) x)
  (hdb:(y == ("__debug__":Str))=false:=by decide) (he:ZX (e::es) X.env=(false,eval e X.env)::ZX es X.env:=by rfl) (hpl:(Zf pos (ZX es X.env)).any (·.1)=false:=by rfl) :
  RE X E (.Call (.Name y p) (e::es) [] pos) x:=(Ab F hr hg ha hdb he hpl).imp fun σ H Q h=>h
theorem Pf(ha:QE X a ca)(hb:RE X E e x)(hs:uf e):RE X E (.Subscript a e pos) (zY ca x):=(E1 (Be.or Fu) ha hb hs).imp fun σ H Q h=>by
 obtain⟨m,ρ,S,cl,S',sr,lr,hc,post⟩:=h;obtain⟨⟨u,S1⟩,h1,h2⟩:=Z0.mp hc;exact⟨m,ρ,S,u,S1,sr,lr,h1,fun m1 v1 H1 e1 sr1 i1=>⟨m1,ρ,S1,cl,S',sr1,lr.mono e1,h2,post.mono e1⟩⟩
end
structure EU(K:Z6)(mg:Str->Option Z7)(CA CG CT CM CN CS:Addr):Prop where
 ga:mg "NoRow"=some (.ref CA)
 gg:mg "GlanceError"=some (.ref CG)
 gt:mg "NoText"=some (.ref CT)
 gm:mg "TooMany"=some (.ref CM)
 gn:mg "NoAttempt"=some (.ref CN)
 gs:mg "NoStep"=some (.ref CS)
 gv:mg "ValueError"=none
 xa:EL K CA
 ea:PySem.W.exmOne K (.ref CA) (.ref CG)=some true
 aa:PySem.W.kitOne K (.ref CA) (.ref CA)=some true
 va:PySem.W.kitOne K (.ref CA) (.type "ValueError")=some true
 ot:PySem.W.kitOne K (.ref CA) (.ref CT)=some false
 om:PySem.W.kitOne K (.ref CA) (.ref CM)=some false
 on:PySem.W.kitOne K (.ref CA) (.ref CN)=some false
 os:PySem.W.kitOne K (.ref CA) (.ref CS)=some false
theorem EU.cs{K:Z6}{mg:Str->Option Z7}{CA CG CT CM CN CS:Addr}(V:EU K mg CA CG CT CM CN CS):∀C∈[CA,CA],PySem.W.exmOne K (.ref C) (.ref CG)=some true:=fun C hC=>by
 have:C=CA:=by simpa using hC
 rw[this];exact V.ea
structure QH(K:Z6)(CA CG CT CM CN CS:Addr):Prop where
 ga:PySem.W.nsIn K mainGlobals "NoRow"=some (some (.ref CA))
 gg:PySem.W.nsIn K mainGlobals "GlanceError"=some (some (.ref CG))
 gt:PySem.W.nsIn K mainGlobals "NoText"=some (some (.ref CT))
 gm:PySem.W.nsIn K mainGlobals "TooMany"=some (some (.ref CM))
 gn:PySem.W.nsIn K mainGlobals "NoAttempt"=some (some (.ref CN))
 gs:PySem.W.nsIn K mainGlobals "NoStep"=some (some (.ref CS))
 gv:PySem.W.nsIn K mainGlobals "ValueError"=some none
 xa:EL K CA
 ea:PySem.W.exmOne K (.ref CA) (.ref CG)=some true
 aa:PySem.W.kitOne K (.ref CA) (.ref CA)=some true
 va:PySem.W.kitOne K (.ref CA) (.type "ValueError")=some true
 ot:PySem.W.kitOne K (.ref CA) (.ref CT)=some false
 om:PySem.W.kitOne K (.ref CA) (.ref CM)=some false
 on:PySem.W.kitOne K (.ref CA) (.ref CN)=some false
 os:PySem.W.kitOne K (.ref CA) (.ref CS)=some false
theorem QH.k{K:Z6}{mg:Str->Option Z7}{h:Heap}{CA CG CT CM CN CS:Addr}(V:QH K CA CG CT CM CN CS)(X:K.In h)(G:h.Ns mainGlobals mg):EU K mg CA CG CT CM CN CS:=
 ⟨PySem.W.mg_of X G V.ga,PySem.W.mg_of X G V.gg,PySem.W.mg_of X G V.gt,PySem.W.mg_of X G V.gm,PySem.W.mg_of X G V.gn,PySem.W.mg_of X G V.gs,PySem.W.mg_none_of X G V.gv,V.xa,V.ea,V.aa,V.va,V.ot,V.om,V.on,V.os⟩
end OP
namespace OQ
open PySem PySem.Spec PyProof.Rows L2 OG OP
def bJ:CS:=
 (aV (b5 2 (jw (ag (cC (.int 0)) (ag (cOp oG (cOp fIx (ao 0) (cC (.int 0))) (cC (.int 1))) aD))))
  (aV (dC (aL (cOp fEq (ao 1) (cC (.str "look")))) (cT (jw (ag (cC (.tup [.int 0,.int 3])) (ag (ao 2) aD)))) bB)
  (aV (dC (aL (cOp fEq (ao 1) (cC (.str "put")))) (cT (jw (ag (ao 2) (ag (cC (.tup [.int 0,.int 3])) aD)))) bB)
  (aV (dC (aL (cOp fEq (ao 1) (cC (.str "set")))) (cT (jw (ag (cC (.tup [.int 0,.int 3])) (ag (jw (ag (cC (.int 0)) (ag (cOp oG (cOp fIx (ao 0) (cC (.int 1))) (cC (.int 1))) aD))) aD)))) bB)
  (aV (dC (aL (cOp fEq (ao 1) (cC (.str "plus")))) (cT (jw (ag (cC (.tup [.int 0,.int 3])) (ag (cC (.tup [.int 0,.int 3])) aD)))) bB)
  (aV (dC (aL (cOp fEq (ao 1) (cC (.str "leap")))) (cT (jw (ag (cC (.tup [.int 0,.int 3])) (ag (cC (.tup [.int 1,.int 12])) aD)))) bB)
  (aV (dC (aL (cOp fEq (ao 1) (cC (.str "wait")))) (cT (jw aD)) bB)
  (cT (cC .non)))))))))
def lJ:CS:=
 (aV (dC (cOr (aL (cOp fEq (cCB zD (ag (ao 0) aD)) (cC (.int 0)))) (cOr (aL (cOp fGt (cCB zD (ag (ao 0) aD)) (cC (.int 4)))) (xi (aL (cCB FC (ag (gE (NH (ao 0)) (gNm 0) (cOp FA (ao 0) (cC (.str "0123456789"))) 1 []) aD)))))) (cT (cC .non)) bB)
  (aV (dC (rD (aL (cOp fEq (cOp Jf (ao 0) (cC (.int 0))) (cC (.str "0")))) (aL (cOp fNe (ao 0) (cC (.str "0"))))) (cT (cC .non)) bB)
  (cT (cCB Bw (ag (ao 0) aD)))))
def jv(cReader:Cl):CS:=
 (aV (fj cReader 0 (ao 0) (ao 1))
  (aV (fj cReader 1 (ao 0) (ao 2))
  (aV (fj cReader 2 (ao 0) (cC (.int 0)))
  (fj cReader 3 (ao 0) (cC (.int 0))))))
def ju(cReader:Cl):CS:=
 (aV (dC (aL (cOp fLt (gh cReader 2 (ao 0)) (cCB fx (ag (gh cReader 1 (ao 0)) aD)))) (cT (cOp fIx (gh cReader 1 (ao 0)) (gh cReader 2 (ao 0)))) bB)
  (cT (cC (.str ""))))
def i8:CS:=
 (dC (xi (aL (ao 1))) mD bB)
def i7(cReader:Cl):CS:=
 (fj cReader 2 (ao 0) (cOp cX (gh cReader 2 (ao 0)) (cC (.int 1))))
def dZ(dg aT aE aH:Fn)(cReader:Cl):CS:=
 (aV (b5 2 (cCB dg (ag (bH cReader aT (ao 0) aD) aD)))
  (aV (cP (bH cReader aE (ao 0) (ag (lP (cOp ik (ao 2) (cC .non)) (j9 fLe fLe (cOp fIx (ao 1) (cC (.int 0))) (ao 2) (cOp fIx (ao 1) (cC (.int 1))))) aD)))
  (aV (cP (bH cReader aH (ao 0) aD))
  (cT (ao 2)))))
def d0(fN aT cg aE aH bK:Fn)(cReader:Cl):CS:=
 (cP (cBM cN (ao 4) (ag (bH cReader bK (ao 0) (ag (ao 5) aD)) aD)))
def dB(fN aT cg aE aH bK:Fn)(cReader:Cl):CS:=
 (aV (b5 2 (bH cReader aT (ao 0) aD))
  (aV (dC (aL (cOp fEq (ao 2) (cC (.str "try")))) (cT (bH cReader cg (ao 0) (ag (ao 1) aD))) bB)
  (aV (b5 3 (cCB fN (ag (gh cReader 0 (ao 0)) (ag (ao 2) aD))))
  (aV (cP (bH cReader aE (ao 0) (ag (cOp ik (ao 3) (cC .non)) aD)))
  (aV (cP (bH cReader aH (ao 0) aD))
  (aV (b5 4 (kr (ag (ao 2) aD)))
  (aV (oX (iTp (ao 3)) (gNm 5) (d0 fN aT cg aE aH bK cReader))
  (cT (cCB iN (ag (ao 4) aD))))))))))
def fO(aE aH bc:Fn)(cReader:Cl):CS:=
 (aV (cP (bH cReader aE (ao 0) (ag (cOp fGt (ao 1) (cC (.int 0))) aD)))
  (aV (cP (bH cReader aH (ao 0) aD))
  (aV (b5 2 (bH cReader bc (ao 0) (ag (cOp oG (ao 1) (cC (.int 1))) aD)))
  (aV (b5 3 (bH cReader bc (ao 0) (ag (cOp oG (ao 1) (cC (.int 1))) aD)))
  (cT (jw (ag (cC (.str "try")) (ag (ao 2) (ag (ao 3) aD)))))))))
def eG(aE aT aH bV:Fn)(cReader:Cl)(fuel:Nat):CS:=
 (aV (cP (bH cReader aE (ao 0) (ag (lP (cOp fLt (cCB fx (ag (ao 2) aD)) (cC (.int 12))) (cOp fLt (gh cReader 3 (ao 0)) (cC (.int 40)))) aD)))
  (aV (fj cReader 3 (ao 0) (cOp cX (gh cReader 3 (ao 0)) (cC (.int 1))))
  (cP (cBM cN (ao 2) (ag (bH cReader bV (ao 0) (ag (ao 1) aD)) aD)))))
def fP(aE aT aH bV:Fn)(cReader:Cl)(fuel:Nat):CS:=
 (aV (cP (bH cReader aE (ao 0) (ag (cOp fEq (bH cReader aT (ao 0) aD) (cC (.str "("))) aD)))
  (aV (cP (bH cReader aH (ao 0) aD))
  (aV (b5 2 (kr aD))
  (aV (d5 (aL (cOp fNe (bH cReader aT (ao 0) aD) (cC (.str ")")))) (eG aE aT aH bV cReader fuel) fuel)
  (aV (cP (bH cReader aH (ao 0) aD))
  (cT (cCB iN (ag (ao 2) aD))))))))
def fQ(bc aE:Fn)(cReader:Cl):CS:=
 (aV (b5 1 (bH cReader bc (ao 0) (ag (cC (.int 3)) aD)))
  (aV (cP (bH cReader aE (ao 0) (ag (cOp fEq (gh cReader 2 (ao 0)) (cCB fx (ag (gh cReader 1 (ao 0)) aD))) aD)))
  (cT (ao 1))))
def iZ(dJ gP:Fn)(cReader:Cl):CS:=
 (cT (bH cReader dJ (cCB (rA cReader gP) (ag (ao 0) (ag (cBS jf (ao 1) (ag (cC (.str " ")) aD)) aD))) aD))
def dr(aW:Fn):CS:=
 (dC (aL (cOp fEq (cOp fIx (ao 2) (cC (.int 0))) (cC (.str "try")))) (b5 1 (cOp cX (cOp cX (cOp cX (ao 1) (kr (ag (cC (.str "try")) aD))) (cCB aW (ag (cOp fIx (ao 2) (cC (.int 1))) aD))) (cCB aW (ag (cOp fIx (ao 2) (cC (.int 2))) aD)))) (b5 1 (cOp cX (cOp cX (ao 1) (kr (ag (cOp fIx (ao 2) (cC (.int 0))) aD))) (gE (iTp (cSl (ao 2) (some (cC (.int 1))) none)) (gNm 0) (cCB qU (ag (ao 0) aD)) 1 []))))
def j4(aW:Fn):CS:=
 (aV (b5 1 (kr (ag (cC (.str "(")) aD)))
  (aV (oX (iTp (ao 0)) (gNm 2) (dr aW))
  (cT (cOp cX (ao 1) (kr (ag (cC (.str ")")) aD))))))
def js:CS:=
 (aV (dC (aL (cOp fEq (cOp fIx (ao 0) (cC (.int 2))) (cC (.int 0)))) (aV (b5 2 (cOp fIx (ao 0) (cC (.int 1))))
  (aV (n6 (ao 0) (cC (.int 1)) (cOp cX (ao 2) (cC (.int 1))))
  (aV (b5 3 (cC (.int 0)))
  (aV (dC (aL (cOp fLt (ao 2) (cCB fx (ag (cOp fIx (ao 0) (cC (.int 0))) aD)))) (b5 3 (cOp fIx (cOp fIx (ao 0) (cC (.int 0))) (ao 2))) (dC (aL (cOp fGt (cCB fx (ag (cOp fIx (ao 0) (cC (.int 0))) aD)) (cC (.int 0)))) (b5 3 (cOp cX (cOp uq (cOp fIx (cOp fIx (ao 0) (cC (.int 0))) (cOp uq (cOp qz (ao 2) (cC (.int 3))) (cCB fx (ag (cOp fIx (ao 0) (cC (.int 0))) aD)))) (cC (.int 1000003))) (cOp qz (cC (.int 97)) (ao 2)))) bB))
  (aV (b5 4 (cOp uq (cOp qz (cOp cX (cOp cX (cOp uq (ao 3) (cC (.int 998244353))) (cOp qz (cC (.int 53)) (ao 2))) (cC (.int 1))) (cC (.int 48271))) (cC (.int 2147483647))))
  (aV (b5 5 (cOp uq (cOp cX (cOp cX (cOp qz (ao 4) (ao 4)) (cOp qz (cC (.int 69621)) (ao 2))) (cC (.int 5))) (cC (.int 1000000007))))
  (aV (b5 6 (cOp uq (cOp cX (cOp qz (ao 5) (ao 5)) (ao 4)) (cC (.int 998244353))))
  (aV (n6 (ao 0) (cC (.int 2)) (cOp cX (cOp Em (cOp cX (cOp qz (ao 5) (cC (.int 998244353))) (ao 6)) (cC (.int 16))) (cC (.int 1))))
  (dC (aL (cOp fGe (ao 3) (cOp Je (cC (.int 10)) (cC (.int 18))))) (n6 (ao 0) (cC (.int 2)) (cOp Em (ao 3) (cOp Je (cC (.int 10)) (cC (.int 18))))) bB))))))))) bB)
  (aV (b5 7 (cOp uq (cOp fIx (ao 0) (cC (.int 2))) (ao 1)))
  (aV (n6 (ao 0) (cC (.int 2)) (cOp Em (cOp fIx (ao 0) (cC (.int 2))) (ao 1)))
  (cT (ao 7)))))
def j3(aw:Fn):CS:=
 (cT (jw (ag (cOp cX (cC (.int 1)) (cCB aw (ag (ao 0) (ag (cC (.int 6)) aD)))) (ag (cOp fIx (kr (ag (cC (.int 2)) (ag (cC (.int 3)) (ag (cC (.int 5)) (ag (cC (.int 10)) (ag (cOp cX (cC (.int 2)) (cCB aw (ag (ao 0) (ag (cC (.int 999)) aD)))) aD)))))) (cCB aw (ag (ao 0) (ag (cC (.int 5)) aD)))) aD))))
def j5(aw:Fn):CS:=
 (cT (cCB iN (ag (gE (fM (ag (cOp fIx (ao 1) (cC (.int 0))) aD)) (gNm 0) (cCB aw (ag (ao 1) (ag (cOp fIx (ao 2) (cC (.int 1))) aD))) 1 [0,1]) aD)))
def gR(bj:Fn):CS:=
 (aV (b5 1 (cOp cX (ao 1) (cC (.int 1))))
  (dC (aL (cOp fEq (cOp fIx (ao 2) (cC (.int 0))) (cC (.str "try")))) (b5 1 (cOp cX (cOp cX (ao 1) (cCB bj (ag (cOp fIx (ao 2) (cC (.int 1))) aD))) (cCB bj (ag (cOp fIx (ao 2) (cC (.int 2))) aD)))) bB))
def lM(bj:Fn):CS:=
 (aV (b5 1 (cC (.int 0)))
  (aV (oX (iTp (ao 0)) (gNm 2) (gR bj))
  (cT (ao 1))))
def bM(aw:Fn):CS:=
 (aV (dC (aL (cOp fLt (ao 2) (cC (.int 4)))) (cT (jw (ag (cC (.str "look")) (ag (ao 3) (ag (cCB aw (ag (ao 0) (ag (cOp fIx (ao 1) (cC (.int 0))) aD))) aD))))) bB)
  (aV (dC (aL (cOp fLt (ao 2) (cC (.int 7)))) (cT (jw (ag (cC (.str "put")) (ag (cCB aw (ag (ao 0) (ag (cOp fIx (ao 1) (cC (.int 0))) aD))) (ag (ao 3) aD))))) bB)
  (aV (dC (aL (cOp fLt (ao 2) (cC (.int 9)))) (cT (jw (ag (cC (.str "set")) (ag (ao 3) (ag (cCB aw (ag (ao 0) (ag (cOp fIx (ao 1) (cC (.int 1))) aD))) aD))))) bB)
  (aV (dC (aL (cOp fLt (ao 2) (cC (.int 11)))) (cT (jw (ag (cC (.str "plus")) (ag (ao 3) (ag (cCB aw (ag (ao 0) (ag (cC (.int 4)) aD))) aD))))) bB)
  (cT (jw (ag (cC (.str "leap")) (ag (ao 3) (ag (cOp cX (cC (.int 1)) (cCB aw (ag (ao 0) (ag (cOp fIx (kr (ag (cC (.int 2)) (ag (cC (.int 12)) aD))) (cCB aw (ag (ao 0) (ag (cC (.int 2)) aD)))) aD)))) aD)))))))))
def eC(aw bA aK bj:Fn):CS:=
 (aV (b5 7 (cCB aw (ag (ao 0) (ag (cC (.int 16)) aD))))
  (aV (b5 8 (cCB aw (ag (ao 0) (ag (cC (.int 4)) aD))))
  (dC (rD (aL (cOp fGt (ao 5) (cC (.int 0)))) (rD (aL (cOp fLt (cCB fx (ag (ao 4) aD)) (cC (.int 12)))) (aL (cOp fLt (ao 7) (cC (.int 13)))))) (aV (cP (cBM cN (ao 4) (ag (cCB bA (ag (ao 0) (ag (ao 1) (ag (ao 7) (ag (ao 8) aD))))) aD)))
  (b5 5 (cOp oG (ao 5) (cC (.int 1))))) (dC (rD (aL (cOp fGt (ao 5) (cC (.int 0)))) (rD (aL (cOp fLt (cCB fx (ag (ao 4) aD)) (cC (.int 12)))) (cOr (aL (cOp fEq (ao 7) (cC (.int 13)))) (aL (cOp fEq (ao 3) (cC (.int 0))))))) (aV (dC (rD (aL (cOp fGt (ao 5) (cC (.int 1)))) (rD (aL (cOp fLt (cCB fx (ag (ao 4) aD)) (cC (.int 11)))) (aL (cOp fGt (cCB aw (ag (ao 0) (ag (cC (.int 4)) aD))) (cC (.int 0)))))) (aV (cP (cBM cN (ao 4) (ag (jw (ag (cC (.str "leap")) (ag (ao 8) (ag (cC (.int 1)) aD)))) aD)))
  (b5 5 (cOp oG (ao 5) (cC (.int 1))))) bB)
  (aV (cP (cBM cN (ao 4) (ag (jw (ag (cC (.str "wait")) aD)) aD)))
  (b5 5 (cOp oG (ao 5) (cC (.int 1)))))) (dC (rD (aL (cOp fGt (ao 5) (cC (.int 0)))) (aL (cOp fLt (cCB fx (ag (ao 4) aD)) (cC (.int 12))))) (aV (b5 9 (cCB aK (ag (ao 0) (ag (ao 1) (ag (cCB aw (ag (ao 0) (ag (ao 5) aD))) (ag (cOp oG (ao 3) (cC (.int 1))) aD))))))
  (aV (b5 5 (cOp oG (cOp oG (ao 5) (cC (.int 1))) (cCB bj (ag (ao 9) aD))))
  (aV (b5 10 (cCB aK (ag (ao 0) (ag (ao 1) (ag (cCB aw (ag (ao 0) (ag (cOp cX (ao 5) (cC (.int 1))) aD))) (ag (cOp oG (ao 3) (cC (.int 1))) aD))))))
  (aV (b5 5 (cOp oG (ao 5) (cCB bj (ag (ao 10) aD))))
  (cP (cBM cN (ao 4) (ag (jw (ag (cC (.str "try")) (ag (ao 9) (ag (ao 10) aD)))) aD))))))) bB)))))
def i6(aw bA aK bj:Fn):CS:=
 (aV (b5 4 (kr aD))
  (aV (b5 5 (ao 2))
  (aV (oX (fM (ag (cCB aw (ag (ao 0) (ag (cOp cX (cCB Ql (ag (cC (.int 12)) (ag (ao 2) aD))) (cC (.int 1))) aD))) aD)) (gNm 6) (eC aw bA aK bj))
  (cT (cCB iN (ag (ao 4) aD))))))
def qJ:CS:=
 (cT (cOp cX (cOp cX (cSl (ao 0) none (some (ao 1))) (jw (ag (ao 2) aD))) (cSl (ao 0) (some (cOp cX (ao 1) (cC (.int 1)))) none)))
def lQ(fuel:Nat):CS:=
 (b5 1 (cOp fIx (ao 1) (cC (.int 2))))
def qK(fuel:Nat):CS:=
 (aV (b5 1 (ao 0))
  (aV (d5 (rD (aL (cOp fGe (cOp fIx (ao 1) (cC (.int 1))) (cCB fx (ag (cOp fIx (ao 1) (cC (.int 0))) aD)))) (aL (cOp ik (cOp fIx (ao 1) (cC (.int 2))) (cC .non)))) (lQ fuel) fuel)
  (cT (ao 1))))
def iO(aA:Cl):CS:=
 (aV (dC (aL (cOp fGe (cOp fIx (gh aA 3 (ao 0)) (cC (.int 1))) (cCB fx (ag (cOp fIx (gh aA 3 (ao 0)) (cC (.int 0))) aD)))) (cT (cC .non)) bB)
  (cT (cOp fIx (cOp fIx (gh aA 3 (ao 0)) (cC (.int 0))) (cOp fIx (gh aA 3 (ao 0)) (cC (.int 1))))))
def iP(aQ:Fn)(aA:Cl):CS:=
 (aV (b5 1 (bH aA aQ (ao 0) aD))
  (cT (lP (cOp fEq (cOp fIx (ao 1) (cC (.int 0))) (cC (.str "look"))) (cOp MO (cOp fIx (gh aA 2 (ao 0)) (cOp fIx (ao 1) (cC (.int 2)))) (cC .non)))))
def j7(fe:Fn)(aA:Cl):CS:=
 (fj aA 1 (ao 0) (cCB fe (ag (gh aA 1 (ao 0)) (ag (ao 1) (ag (ao 2) aD)))))
def eF(aA:Cl):CS:=
 (aV (b5 2 (gh aA 3 (ao 0)))
  (cT (jw (ag (cOp fIx (ao 2) (cC (.int 0))) (ag (cOp cX (cOp cX (cOp fIx (ao 2) (cC (.int 1))) (cC (.int 1))) (ao 1)) (ag (cOp fIx (ao 2) (cC (.int 2))) (ag (cOp fIx (ao 2) (cC (.int 3))) aD)))))))
def fS(cu aZ:Fn)(aA:Cl):CS:=
 (fj aA 3 (ao 0) (cCB cu (ag (bH aA aZ (ao 0) (ag (ao 1) aD)) aD)))
def j8(bS aQ bt:Fn)(aA:Cl):CS:=
 (aV (cP (bH aA bS (ao 0) (ag (cOp fIx (bH aA aQ (ao 0) aD) (cC (.int 1))) (ag (ao 1) aD))))
  (cP (bH aA bt (ao 0) (ag (cC (.int 0)) aD))))
def fT(cu aZ:Fn)(aA:Cl):CS:=
 (aV (b5 3 (bH aA aZ (ao 0) (ag (cC (.int 0)) aD)))
  (aV (b5 4 (cCB cu (ag (jw (ag (ao 2) (ag (cC (.int 0)) (ag (ao 3) (ag (cOp fIx (ao 3) (cC (.int 3))) aD))))) aD)))
  (fj aA 3 (ao 0) (cCB cu (ag (jw (ag (ao 1) (ag (cC (.int 0)) (ag (ao 3) (ag (jw (ag (gh aA 1 (ao 0)) (ag (gh aA 2 (ao 0)) (ag (ao 4) aD)))) aD))))) aD)))))
def dQ(aA:Cl):CS:=
 (aV (b5 1 (cOp fIx (gh aA 3 (ao 0)) (cC (.int 3))))
  (aV (dC (aL (cOp MO (ao 1) (cC .non))) (cT (cC (.bl false))) bB)
  (aV (fj aA 1 (ao 0) (cOp fIx (ao 1) (cC (.int 0))))
  (aV (fj aA 2 (ao 0) (cOp fIx (ao 1) (cC (.int 1))))
  (aV (fj aA 3 (ao 0) (cOp fIx (ao 1) (cC (.int 2))))
  (cT (cC (.bl true))))))))
def bw(fe aQ dM dN bS bt:Fn)(aA:Cl):CS:=
 (aV (b5 1 (bH aA aQ (ao 0) aD))
  (aV (b5 2 (cOp fIx (ao 1) (cC (.int 0))))
  (aV (dC (aL (cOp fEq (ao 2) (cC (.str "wait")))) (cT (bH aA dM (ao 0) aD)) bB)
  (aV (dC (aL (cOp fEq (ao 2) (cC (.str "try")))) (aV (cP (bH aA dN (ao 0) (ag (cOp fIx (ao 1) (cC (.int 1))) (ag (cOp fIx (ao 1) (cC (.int 2))) aD))))
  (cT (cC (.bl true)))) bB)
  (aV (b5 3 (cC (.int 0)))
  (aV (dC (aL (cOp fEq (ao 2) (cC (.str "look")))) (cP (bH aA bS (ao 0) (ag (cOp fIx (ao 1) (cC (.int 1))) (ag (cOp fIx (gh aA 2 (ao 0)) (cOp fIx (ao 1) (cC (.int 2)))) aD)))) (dC (aL (cOp fEq (ao 2) (cC (.str "put")))) (fj aA 2 (ao 0) (cCB fe (ag (gh aA 2 (ao 0)) (ag (cOp fIx (ao 1) (cC (.int 1))) (ag (cOp fIx (gh aA 1 (ao 0)) (cOp fIx (ao 1) (cC (.int 2)))) aD))))) (dC (aL (cOp fEq (ao 2) (cC (.str "set")))) (cP (bH aA bS (ao 0) (ag (cOp fIx (ao 1) (cC (.int 1))) (ag (cOp fIx (ao 1) (cC (.int 2))) aD)))) (dC (aL (cOp fEq (ao 2) (cC (.str "plus")))) (cP (bH aA bS (ao 0) (ag (cOp fIx (ao 1) (cC (.int 1))) (ag (cOp uq (cOp cX (cOp fIx (gh aA 1 (ao 0)) (cOp fIx (ao 1) (cC (.int 1)))) (cOp fIx (gh aA 1 (ao 0)) (cOp fIx (ao 1) (cC (.int 2))))) (gh aA 0 (ao 0))) aD)))) (dC (aL (cOp fEq (cOp fIx (gh aA 1 (ao 0)) (cOp fIx (ao 1) (cC (.int 1)))) (cC (.int 0)))) (b5 3 (cOp fIx (ao 1) (cC (.int 2)))) bB)))))
  (aV (cP (bH aA bt (ao 0) (ag (ao 3) aD)))
  (cT (cC (.bl true))))))))))
def fR(aA:Cl):CS:=
 (cT (t4 (zq (gh aA 2 (ao 0))) (gTp [0,1]) (aL (cOp ik (ao 1) (cC .non))) (jw (ag (ao 0) (ag (ao 1) aD))) 2 []))
def j6(cu:Fn)(aA:Cl):CS:=
 (aV (fj aA 0 (ao 0) (cOp fIx (ao 1) (cC (.int 1))))
  (aV (fj aA 1 (ao 0) (jw (ag (cC (.int 0)) (ag (cC (.int 0)) (ag (cC (.int 0)) (ag (cC (.int 0)) aD))))))
  (aV (fj aA 2 (ao 0) (cOp Bu (jw (ag (cC .non) aD)) (cOp fIx (ao 1) (cC (.int 0)))))
  (fj aA 3 (ao 0) (cCB cu (ag (jw (ag (ao 2) (ag (cC (.int 0)) (ag (cC .non) (ag (cC .non) aD))))) aD))))))
def bX(aQ eK eJ cW:Fn)(aA:Cl)(fuel:Nat):CS:=
 (dC (aL (bH aA eK (ao 0) aD)) (aV (b5 3 (cOp fIx (bH aA aQ (ao 0) aD) (cC (.int 2))))
  (aV (n6 (ao 2) (ao 3) (cC (.bl true)))
  (cP (bH aA eJ (ao 0) (ag (cOp fIx (ao 1) (ao 3)) aD))))) (dC (xi (aL (bH aA cW (ao 0) aD))) (cT (cC (.bl false))) bB))
def f7(aQ eK eJ cW:Fn)(aA:Cl)(fuel:Nat):CS:=
 (aV (d5 (aL (cOp ik (bH aA aQ (ao 0) aD) (cC .non))) (bX aQ eK eJ cW aA fuel) fuel)
  (cT (cC (.bl true))))
def qO(dq cm eI:Fn)(aA:Cl):CS:=
 (n6 (ao 5) (ao 6) (ao 7))
def tZ(dq cm eI:Fn)(aA:Cl):CS:=
 (aV (b5 3 (cCB (rA aA eI) (ag (ao 0) (ag (ao 1) aD))))
  (aV (b5 4 IP)
  (aV (dC (xi (aL (cCB dq (ag (ao 3) (ag (ao 2) (ag (ao 4) aD)))))) (cT (jw (ag (cC (.str "waits")) (ag (cCB qw (ag (ao 4) aD)) aD)))) bB)
  (aV (b5 5 (cCB vm (ag (ao 2) aD)))
  (aV (oX (iTp (bH aA cm (ao 3) aD)) (gTp [6,7]) (qO dq cm eI aA))
  (cT (jw (ag (cC (.str "done")) (ag (cCB iN (ag (ao 5) aD)) (ag (gh aA 1 (ao 3)) aD))))))))))
def fU(cw:Fn):CS:=
 (aV (b5 7 (cCB cw (ag (ao 0) (ag (cOp fIx (ao 1) (ao 6)) (ag (ao 4) aD)))))
  (aV (dC (aL (cOp fEq (cOp fIx (ao 7) (cC (.int 0))) (cC (.str "waits")))) (cT (jw (ag (cC (.str "waits")) (ag (ao 5) (ag (cOp fIx (ao 7) (cC (.int 1))) aD))))) bB)
  (b5 4 (cOp fIx (ao 7) (cC (.int 1))))))
def oW(cw:Fn):CS:=
 (aV (b5 4 (ao 2))
  (aV (oX (zq (ao 3)) (gTp [5,6]) (fU cw))
  (cT (jw (ag (cC (.str "done")) (ag (ao 4) aD))))))
end OQ
local macro_rules
 | `(tactic| rwa $s:rwRuleSeq) => do
  let ts : Array (Lean.TSyntax `term) := s.raw[1].getSepArgs.map fun r => ⟨r[1]⟩
  let us : Array (Lean.TSyntax `term) := (("NT Jn x_c Nt CD FR Js FQ O0 J1 J0 RH N9 N8 Oa JE JZ F7 F6 N7 JC JB JD FT vK o7 kN kM NU Jr JH EX QL JW Ow JO Jt CB EW Jy Jx Jw JT F2 vJ Jz yQ JQ EY RT OB OA vI EV OY JY JX OD OC J3 J2 Ry N2 NZ NY NX Oq Ot Ou Ov NW Ju Jv JJ JK JL JI O1 NV QK JM RU RV OJ Oe OI Oc OK Of OF OE at0 at1 at2 at3 ix0 ix1 ix2 Option.bind_some List.getElem?_cons_zero List.getElem?_cons_succ List.set_cons_zero List.set_cons_succ List.length_cons List.length_nil List.map_cons List.map_nil decide_true decide_false Bool.not_true Bool.not_false OH JS JR Rz N5 N4 N3 JG FW FV FU FX Ox Oy Oo JN RX OX OW OV OZ RW OS OR OO ON OM JU RG x_p RF RD RC JV F5 F4 Jo Jp Jq FY FZ F0 JP ga ga0 gs gs0 Option.join_some Nat.add_zero List.cons_append List.nil_append List.append_assoc" : String).splitOn " ").toArray.map fun x => ⟨(Lean.mkIdent ((x.splitOn ".").foldl Lean.Name.str Lean.Name.anonymous)).raw⟩
  let vs:=ts++us
  `(tactic| simp only [$[$vs:term],*])
namespace OQ
open PySem PySem.Spec PyProof.Rows L2 OG OP
def pen(a c:Int):O:=.lst [.ref 0,.int a,.int c]
section
variable{S:Sto}{j k:Int}
def zX(h:-(2^64)<k/\k<2^64):qz (.int j) (.int k) S=some (.int (j*k),S):=JF (.inr h)
def ur(h:-(2^64)<j/\j<2^64):qz (.int j) (.int k) S=some (.int (j*k),S):=JF (.inl h)
def RQ:qz (.int j) (.int 3) S=some (.int (j*3),S):=zX (by decide)
def Ol:qz (.int 97) (.int k) S=some (.int (97*k),S):=ur (by decide)
def Om:qz (.int 53) (.int k) S=some (.int (53*k),S):=ur (by decide)
def RP:qz (.int j) (.int 48271) S=some (.int (j*48271),S):=zX (by decide)
def RO:qz (.int 69621) (.int k) S=some (.int (69621*k),S):=ur (by decide)
def RN:qz (.int j) (.int 998244353) S=some (.int (j*998244353),S):=zX (by decide)
theorem Oh:qz (.int (j % 2147483647)) (.int k) S=some (.int (j % 2147483647*k),S):=ur (by have:=XD j (show(2147483647:Int)≠0 by decide);have:=Int.emod_lt_of_pos j (show(0:Int)<2147483647 by decide);omega)
theorem Og:qz (.int (j % 1000000007)) (.int k) S=some (.int (j % 1000000007*k),S):=ur (by have:=XD j (show(1000000007:Int)≠0 by decide);have:=Int.emod_lt_of_pos j (show(0:Int)<1000000007 by decide);omega)
def RM:uq (.int j) (.int 998244353) S=some (.int (j % 998244353),S):=vL (by decide)
def RL:uq (.int j) (.int 2147483647) S=some (.int (j % 2147483647),S):=vL (by decide)
def RK:uq (.int j) (.int 1000000007) S=some (.int (j % 1000000007),S):=vL (by decide)
def RJ:uq (.int j) (.int 1000003) S=some (.int (j % 1000003),S):=vL (by decide)
def OU:Em (.int j) (.int 16) S=some (.int (j / 16),S):=F3 ⟨by decide,by decide +kernel⟩
theorem JA:Je (.int 10) (.int 18) S=some (.int 1000000000000000000,S):=N6 (j:=10) (k:=18) ⟨by decide,by decide,by decide⟩
theorem OT:Em (.int j) (.int 1000000000000000000) S=some (.int (j / 1000000000000000000),S):=F3 ⟨by decide,by decide +kernel⟩
theorem atU{ns:List Int}{k:Int}(h0:0<=k)(h1:k<(ns.length:Int)):∃v:Int,atI (ns.map U.int) k=some (.int v):=by
 have hk:k.toNat<ns.length:=by omega
 exact⟨ns[k.toNat],sy h0 (by rw[Zk,ZR hk];rfl)⟩
end
def fk:Fn:=fnU 8 2 js
theorem dD(ns:List Int)(T:Sto){a c m:Int}(ha:0<=a)(hc:0<=c)(hm:0<m)(hb:m.natAbs.log2<9000) :
  ∃f a' c',fk [.ref 1,.int m] (.lst (ns.map U.int)::pen a c::T)=some (.int f,.lst (ns.map U.int)::pen a' c'::T)/\0<=f/\f<m/\0<=a'/\0<=c':=by
 unfold fk;rw[Qp];have dm:∀{j:Int} {S:Sto},Em (.int j) (.int m) S=some (.int (j / m),S):=F3 ⟨hm,hb⟩;have mm:∀{j:Int} {S:Sto},uq (.int j) (.int m) S=some (.int (j % m),S):=vL hm;have fin:∀{a' c':Int},0<=a'->0<=c'->0<=c' % m/\c' % m<m/\0<=a'/\0<=c' / m:=fun h1 h2=>⟨XD _ (by omega),Int.emod_lt_of_pos _ hm,h1,Int.ediv_nonneg h2 (by omega)⟩;by_cases c0:c=0
 ·subst c0;have cell : ∃ z : Int, (dC (aL (cOp fLt (ao 2) (cCB fx (ag (cOp fIx (ao 0) (cC (U.int 0))) aD))))
              (b5 3 (cOp fIx (cOp fIx (ao 0) (cC (U.int 0))) (ao 2)))
              (dC
               (aL (cOp fGt (cCB fx (ag (cOp fIx (ao 0) (cC (U.int 0))) aD)) (cC (U.int 0))))
               (b5 3
                (cOp cX
                 (cOp uq
                  (cOp fIx (cOp fIx (ao 0) (cC (U.int 0)))
                   (cOp uq (cOp qz (ao 2) (cC (U.int 3)))
                    (cCB fx (ag (cOp fIx (ao 0) (cC (U.int 0))) aD))))
                  (cC (U.int 1000003)))
                 (cOp qz (cC (U.int 97)) (ao 2))))
               bB)) [some (.ref 1),some (.int m),some (.int a),some (.int 0),none,none,none,none] (O.lst (ns.map U.int)::.lst [.ref 0,.int (a+1),.int 0]::T)=some (.nx,[some (.ref 1),some (.int m),some (.int a),some (.int z),none,none,none,none],O.lst (ns.map U.int)::.lst [.ref 0,.int (a+1),.int 0]::T):=by
   by_cases h1:a<(ns.length:Int)
   ·obtain⟨z,hz⟩:=atU ha h1;exact⟨z,by rwa[hz,h1,ZN]⟩
   ·by_cases h2:(0:Int)<(ns.length:Int)
    ·obtain⟨z,hz⟩:=atU (ns:=ns) (k:=a*3 % (ns.length:Int)) (XD _ (by omega)) (Int.emod_lt_of_pos _ h2);exact⟨z % 1000003+97*a,by rwa[h1,h2,RQ,vL h2,hz,RJ,Ol,ZN]⟩
    ·exact⟨0,by rwa[h1,h2,ZN]⟩
  obtain⟨z,hz⟩:=cell;rwa[js,pen,hz,RM,RL,RK,Om,RP,RO,RN,Oh,Og,OU,JA];by_cases h3:(1000000000000000000:Int)<=z
  ·rwa[h3,JA,OT,mm,dm];exact⟨_,_,_,rfl,fin (by omega) (Int.ediv_nonneg (by omega) (by omega))⟩
  ·rwa[h3,mm,dm];refine⟨_,_,_,rfl,fin (by omega) ?_⟩;exact Int.add_nonneg (Int.ediv_nonneg (Int.add_nonneg (Int.mul_nonneg (XD _ (by decide)) (by decide)) (XD _ (by decide))) (by decide)) (by decide)
 ·rwa[js,pen,c0,mm,dm];exact⟨_,_,_,rfl,fin ha hc⟩
def l9{m:Int}(h0:0<=m)(h:m<2^60):m.natAbs.log2<9000:=A5 h0 h
abbrev scr(ns:List Int):O:=.lst (ns.map U.int)
theorem Pw{f g:Int}(g0:0<=g)(g1:g<999)(f0:0<=f)(f1:f<5):∃v:Int,atI [U.int 2,U.int 3,U.int 5,U.int 10,U.int (2+g)] f=some (.int v)/\2<=v/\v<=1000:=by
 have:f=0\/f=1\/f=2\/f=3\/f=4:=by omega
 rcases this with rfl|rfl|rfl|rfl|rfl
 ·exact⟨2,rfl,by omega,by omega⟩
 ·exact⟨3,rfl,by omega,by omega⟩
 ·exact⟨5,rfl,by omega,by omega⟩
 ·exact⟨10,rfl,by omega,by omega⟩
 ·exact⟨2+g,rfl,by omega,by omega⟩
def ug:Fn:=fnU 1 1 (j3 fk)
theorem CW(ns:List Int)(T:Sto){a c:Int}(ha:0<=a)(hc:0<=c) :
  ∃n w a' c' G,ug [.ref 1] (scr ns::pen a c::T)=some (.tup [.int n,.int w],scr ns::pen a' c'::(T++G))/\1<=n/\n<=6/\2<=w/\w<=1000/\0<=a'/\0<=c':=by
 unfold ug;rw[qD];obtain⟨f1,a1,c1,h1,p1,q1,ha1,hc1⟩:=dD ns T (m:=6) ha hc (by decide) (by decide +kernel);obtain⟨f2,a2,c2,h2,p2,q2,ha2,hc2⟩:=dD ns T (m:=999) ha1 hc1 (by decide) (by decide +kernel);obtain⟨f3,a3,c3,h3,p3,q3,ha3,hc3⟩:=dD ns (T++[.lst [.int 2,.int 3,.int 5,.int 10,.int (2+f2)]]) (m:=5) ha2 hc2 (by decide) (by decide +kernel);obtain⟨v,hv,v0,v1⟩:=Pw p2 q2 p3 q3;refine⟨1+f1,v,a3,c3,[.lst [.int 2,.int 3,.int 5,.int 10,.int (2+f2)]],?_,by omega,by omega,v0,v1,ha3,hc3⟩;rwa[j3,h1,h2,h3,hv]
def uh:Fn:=fnU 2 2 (j5 fk)
theorem As(ns:List Int)(T:Sto){n w:Int}(w0:2<=w)(w1:w<=1000):∀(us:List U) (r:Option U) (ys:List Int) {a c:Int},0<=a->0<=c->ys.length+us.length<=1000->
  ∃zs a' c',j1 (fun _=>True) (gNm 0) (cCB fk (ag (ao 1) (ag (cOp fIx (ao 2) (cC (.int 1))) aD))) (T.length+1+1) us [r,some (.ref 1),some (.tup [.int n,.int w])] (scr ns::pen a c::(T++[.lst (ys.map U.int)]))
   = some (scr ns::pen a' c'::(T++[.lst ((ys++zs).map U.int)]))/\zs.length=us.length/\(∀z∈zs,0<=z/\z<w)/\0<=a'/\0<=c'
 |[],r,ys,a,c,ha,hc,hl=>⟨[],a,c,by simp[j1],rfl,by simp,ha,hc⟩
 |u::us,r,ys,a,c,ha,hc,hl=>by
  obtain⟨f,a1,c1,h1,p1,q1,ha1,hc1⟩:=dD ns (T++[.lst (ys.map U.int)]) (m:=w) ha hc (by omega) (l9 (by omega) (by omega));obtain⟨zs,a2,c2,h2,e2,b2,ha2,hc2⟩:=As ns T (n:=n) w0 w1 us (some u) (ys++[f]) ha1 hc1 (by simp at hl ⊢;omega);refine⟨f::zs,a2,c2,?_,by simp[e2],fun z hz=>?_,ha2,hc2⟩
  ·have hlen:(ys.map U.int).length<LIM:=by unfold LIM;simp at hl ⊢;omega
   unfold j1;rwa[h1,if_true,hlen];rw[Zp]at h2;simp only[ZG,Ze]at h2;rw[h2];simp
  ·rcases Zx.mp hz with rfl|hz
   ·exact⟨p1,q1⟩
   ·exact b2 z hz
theorem C6(ns:List Int)(T:Sto){a c n w:Int}(ha:0<=a)(hc:0<=c)(n0:1<=n)(n1:n<=6)(w0:2<=w)(w1:w<=1000) :
  ∃(zs:List Int) (a' c':Int) (G:Sto),uh [.ref 1,.tup [.int n,.int w]] (scr ns::pen a c::T)=some (.tup (zs.map U.int),scr ns::pen a' c'::(T++G))/\zs.length=n.toNat/\(∀z∈zs,0<=z/\z<w)/\0<=a'/\0<=c':=by
 unfold uh;rw[oJ];obtain⟨zs,a',c',h,e,b,ha',hc'⟩:=As ns T (n:=n) w0 w1 (hU 0 n.toNat) none [] ha hc (by simp[hU];omega);refine⟨zs,a',c',[.lst (zs.map U.int)],?_,by rw[e];simp[hU],b,ha',hc'⟩;have hr:-(2^62)<=n/\n<2^62:=by omega
 simp only[Ze,Zo]at h;rwa[j5,gE,fM,vF,hr,h,if_true,and_self,ZU,XH]
inductive fq where
 |look (h b:Int)|put (b h:Int)|set (h v:Int)|plus (h g:Int)|leap (h k:Int)|wait
def fq.u:fq->U
 |.look h b=>.tup [.str "look",.int h,.int b]
 |.put b h=>.tup [.str "put",.int b,.int h]
 |.set h v=>.tup [.str "set",.int h,.int v]
 |.plus h g=>.tup [.str "plus",.int h,.int g]
 |.leap h k=>.tup [.str "leap",.int h,.int k]
 |.wait=>.tup [.str "wait"]
def fq.ok(n w:Int):fq->Prop
 |.look h b=>0<=h/\h<4/\0<=b/\b<n
 |.put b h=>0<=h/\h<4/\0<=b/\b<n
 |.set h v=>0<=h/\h<4/\0<=v/\v<w
 |.plus h g=>0<=h/\h<4/\0<=g/\g<4
 |.leap h k=>0<=h/\h<4/\1<=k/\k<=12
 |.wait=>True
def nD:Fn:=fnU 4 4 (bM fk)
theorem DC(ns:List Int)(T:Sto){a c n w way hand:Int}(ha:0<=a)(hc:0<=c)(n0:1<=n)(n1:n<=6)(w0:2<=w)(w1:w<=1000)(y0:0<=way)(h0:0<=hand)(h1:hand<4) :
  ∃(d:fq) (a' c':Int) (G:Sto),nD [.ref 1,.tup [.int n,.int w],.int way,.int hand] (scr ns::pen a c::T)=some (d.u,scr ns::pen a' c'::(T++G))/\d.ok n w/\0<=a'/\0<=c':=by
 unfold nD;rw[Qr];by_cases c4:way<4
 ·obtain⟨f,a1,c1,e1,p1,q1,ha1,hc1⟩:=dD ns T (m:=n) ha hc (by omega) (l9 (by omega) (by omega));exact⟨.look hand f,a1,c1,[],by rwa[bM,c4,e1,fq.u,Zu],⟨h0,h1,p1,q1⟩,ha1,hc1⟩
 by_cases c7:way<7
 ·obtain⟨f,a1,c1,e1,p1,q1,ha1,hc1⟩:=dD ns T (m:=n) ha hc (by omega) (l9 (by omega) (by omega));exact⟨.put f hand,a1,c1,[],by rwa[bM,c4,c7,e1,fq.u,Zu],⟨h0,h1,p1,q1⟩,ha1,hc1⟩
 by_cases c9:way<9
 ·obtain⟨f,a1,c1,e1,p1,q1,ha1,hc1⟩:=dD ns T (m:=w) ha hc (by omega) (l9 (by omega) (by omega));exact⟨.set hand f,a1,c1,[],by rwa[bM,c4,c7,c9,e1,fq.u,Zu],⟨h0,h1,p1,q1⟩,ha1,hc1⟩
 by_cases c11:way<11
 ·obtain⟨f,a1,c1,e1,p1,q1,ha1,hc1⟩:=dD ns T (m:=4) ha hc (by omega) (l9 (by omega) (by omega));exact⟨.plus hand f,a1,c1,[],by rwa[bM,c4,c7,c9,c11,e1,fq.u,Zu],⟨h0,h1,p1,q1⟩,ha1,hc1⟩
 obtain⟨f,a1,c1,e1,p1,q1,ha1,hc1⟩:=dD ns (T++[.lst [.int 2,.int 12]]) (m:=2) ha hc (by decide) (by decide +kernel);have key:∃z:Int,atI [U.int 2,U.int 12] f=some (.int z)/\0<z/\z<=12:=by
  have:f=0\/f=1:=by omega
  rcases this with rfl|rfl
  ·exact⟨2,rfl,by omega,by omega⟩
  ·exact⟨12,rfl,by omega,by omega⟩
 obtain⟨z,hz,z0,z1⟩:=key;obtain⟨g,a2,c2,e2,p2,q2,ha2,hc2⟩:=dD ns (T++[.lst [.int 2,.int 12]]) (m:=z) ha1 hc1 z0 (l9 (by omega) (by omega));exact⟨.leap hand (1+g),a2,c2,[.lst [.int 2,.int 12]],by rwa[bM,c4,c7,c9,c11,e1,e2,hz,fq.u],⟨h0,h1,by omega,by omega⟩,ha2,hc2⟩
def yO(fd fs:Fn):Fn:=fnU 11 4 (i6 fk nD fd fs)
def nI:decide (("wait":Str)="leap")=false:=by decide +kernel
def pd:decide (("wait":Str)="try")=false:=by decide +kernel
def nH:decide (("wait":Str)="look")=false:=by decide +kernel
def ph:decide (("wait":Str)="put")=false:=by decide +kernel
def pf:decide (("wait":Str)="set")=false:=by decide +kernel
def nG:decide (("wait":Str)="plus")=false:=by decide +kernel
def nQ:decide (("leap":Str)="wait")=false:=by decide +kernel
def pN:decide (("leap":Str)="try")=false:=by decide +kernel
def nS:decide (("leap":Str)="look")=false:=by decide +kernel
def pQ:decide (("leap":Str)="put")=false:=by decide +kernel
def pO:decide (("leap":Str)="set")=false:=by decide +kernel
def nR:decide (("leap":Str)="plus")=false:=by decide +kernel
def pj:decide (("try":Str)="wait")=false:=by decide +kernel
def pA:decide (("try":Str)="leap")=false:=by decide +kernel
def px:decide (("try":Str)="look")=false:=by decide +kernel
def rO:decide (("try":Str)="put")=false:=by decide +kernel
def rN:decide (("try":Str)="set")=false:=by decide +kernel
def pq:decide (("try":Str)="plus")=false:=by decide +kernel
def nM:decide (("look":Str)="wait")=false:=by decide +kernel
def nO:decide (("look":Str)="leap")=false:=by decide +kernel
def kR:decide (("look":Str)="try")=false:=by decide +kernel
def pM:decide (("look":Str)="put")=false:=by decide +kernel
def pL:decide (("look":Str)="set")=false:=by decide +kernel
def nN:decide (("look":Str)="plus")=false:=by decide +kernel
def pF:decide (("put":Str)="wait")=false:=by decide +kernel
def pI:decide (("put":Str)="leap")=false:=by decide +kernel
def mP:decide (("put":Str)="try")=false:=by decide +kernel
def pH:decide (("put":Str)="look")=false:=by decide +kernel
def rQ:decide (("put":Str)="set")=false:=by decide +kernel
def pG:decide (("put":Str)="plus")=false:=by decide +kernel
def pB:decide (("set":Str)="wait")=false:=by decide +kernel
def pE:decide (("set":Str)="leap")=false:=by decide +kernel
def mO:decide (("set":Str)="try")=false:=by decide +kernel
def pD:decide (("set":Str)="look")=false:=by decide +kernel
def rP:decide (("set":Str)="put")=false:=by decide +kernel
def pC:decide (("set":Str)="plus")=false:=by decide +kernel
def nJ:decide (("plus":Str)="wait")=false:=by decide +kernel
def nL:decide (("plus":Str)="leap")=false:=by decide +kernel
def kQ:decide (("plus":Str)="try")=false:=by decide +kernel
def nK:decide (("plus":Str)="look")=false:=by decide +kernel
def pK:decide (("plus":Str)="put")=false:=by decide +kernel
def pJ:decide (("plus":Str)="set")=false:=by decide +kernel
theorem SNX:type_of% @nI/\type_of% @pd/\type_of% @nH/\type_of% @ph/\type_of% @pf/\type_of% @nG/\type_of% @nQ/\type_of% @pN/\type_of% @nS/\type_of% @pQ/\type_of% @pO/\type_of% @nR/\type_of% @pj/\type_of% @pA/\type_of% @px/\type_of% @rO/\type_of% @rN/\type_of% @pq/\type_of% @nM/\type_of% @nO/\type_of% @kR/\type_of% @pM/\type_of% @pL/\type_of% @nN/\type_of% @pF/\type_of% @pI/\type_of% @mP/\type_of% @pH/\type_of% @rQ/\type_of% @pG/\type_of% @pB/\type_of% @pE/\type_of% @mO/\type_of% @pD/\type_of% @rP/\type_of% @pC/\type_of% @nJ/\type_of% @nL/\type_of% @kQ/\type_of% @nK/\type_of% @pK/\type_of% @pJ:=⟨@nI,@pd,@nH,@ph,@pf,@nG,@nQ,@pN,@nS,@pQ,@pO,@nR,@pj,@pA,@px,@rO,@rN,@pq,@nM,@nO,@kR,@pM,@pL,@nN,@pF,@pI,@mP,@pH,@rQ,@pG,@pB,@pE,@mO,@pD,@rP,@pC,@nJ,@nL,@kQ,@nK,@pK,@pJ⟩
structure M where
 hs:List Int
 ps:List (Int×Int)
 lk:List Int
def Ca(lk:List Int)(b:Int):List Int:=if b∈lk then lk else lk++[b]
def zk(first:List Int)(m:M)(b:Int):Int:=(gG m.ps b).getD (first.getD b.toNat 0)
def step(w:Int)(first:List Int)(m:M):fq->M
 |.look h b=>⟨m.hs.set h.toNat (zk first m b),m.ps,if (gG m.ps b).isSome then m.lk else Ca m.lk b⟩
 |.put b h=>⟨m.hs,tu m.ps b (m.hs.getD h.toNat 0),m.lk⟩
 |.set h v=>⟨m.hs.set h.toNat v,m.ps,m.lk⟩
 |.plus h g=>⟨m.hs.set h.toNat ((m.hs.getD h.toNat 0+m.hs.getD g.toNat 0) % w),m.ps,m.lk⟩
 |.leap _ _=>m
 |.wait=>m
def zF(lk:List Int):List (Key×U):=lk.map fun b=>(.inl b,.bl true)
theorem Dv(b:Int)(lk:List Int):tu (zF lk) (.inl b) (.bl true)=zF (Ca lk b):=by
 have ha:((zF lk).any fun kv=>decide (kv.1=Sum.inl b))=decide (b∈lk):=by
  unfold zF;induction lk with
  |nil=>rfl
  |cons k r ih=>
   simp only[ZG,List.any_cons,ih];by_cases e:k=b
   ·subst e;simp
   ·rw[decide_eq_false (fun z:(Sum.inl k:Key)=Sum.inl b=>e (Sum.inl.inj z))];simp[Ne.symm e]
 unfold tu Ca;rw[ha];by_cases c:b∈lk
 ·rw[if_pos (decide_eq_true c),if_pos c];unfold zF;rw[XX];refine List.map_congr_left fun p _=>?_;simp only[Function.comp];split<;>rfl
 ·rw[if_neg (by simpa using c),if_neg c];simp[zF]
theorem at4{hs:List Int}{h:Int}(l:hs.length=4)(h0:0<=h)(h1:h<4):atI (hs.map U.int) h=some (.int (hs.getD h.toNat 0)):=by
 have hk:h.toNat<hs.length:=by omega
 refine sy h0 ?_;rw[Zk,ZR hk,Zs,ZR hk];rfl
theorem atF{first:List Int}{b n:Int}(l:first.length=n.toNat)(h0:0<=b)(h1:b<n):atI (first.map U.int) b=some (.int (first.getD b.toNat 0)):=by
 have hk:b.toNat<first.length:=by omega
 refine sy h0 ?_;rw[Zk,ZR hk,Zs,ZR hk];rfl
def map_set{hs:List Int}{k:Nat}{v:Int}:(hs.map U.int).set k (.int v)=(hs.set k v).map U.int:=by rw[List.map_set]
inductive DF(α:Type) where
 |pl (d:fq)|tr (a b:List α)
def DF.u{α:Type}(f:α->U):DF α->U
 |.pl d=>d.u
 |.tr a b=>.tup [.str "try",.tup (a.map f),.tup (b.map f)]
section
variable{α:Type}(w:Int)(first:List Int)(rn:List α->M->Bool×M)
def Kg(a b:List α)(m:M):Bool×M:=match rn a m with
 |(true,m')=>(true,m')
 |(false,m')=>rn b ⟨m.hs,m.ps,m'.lk⟩
def jc:List (DF α)->Nat->M->Bool×M
 |[],_,m=>(true,m)
 |_::r,k+1,m=>jc r k m
 |.tr a b::r,0,m=>match Kg rn a b m with
  |(true,m')=>jc r 0 m'
  |(false,m')=>(false,m')
 |.pl .wait::_,0,m=>(false,m)
 |.pl (.leap h k)::r,0,m=>jc r (if m.hs.getD h.toNat 0=0 then k.toNat else 0) m
 |.pl (.look h b)::r,0,m=>jc r 0 (step w first m (.look h b))
 |.pl (.put h b)::r,0,m=>jc r 0 (step w first m (.put h b))
 |.pl (.set h b)::r,0,m=>jc r 0 (step w first m (.set h b))
 |.pl (.plus h b)::r,0,m=>jc r 0 (step w first m (.plus h b))
theorem uL:∀(ds:List (DF α)) (k:Nat) (m:M),jc w first rn ds k m=jc w first rn (ds.drop k) 0 m
 |[],k,m=>by simp[jc]
 |d::r,0,m=>by simp
 |d::r,k+1,m=>by rw[jc,uL r k m];rfl
end
def Dl:Nat->Type
 |0=>DF Empty
 |j+1=>DF (Dl j)
def Dl.u:(j:Nat)->Dl j->U
 |0,d=>DF.u (fun x=>nomatch x) d
 |j+1,d=>DF.u (Dl.u j) d
def DF.ok{α:Type}(n w:Int)(k:List α->Prop):DF α->Prop
 |.pl d=>d.ok n w
 |.tr a b=>k a/\k b
structure Wf(n:Int)(m:M):Prop where
 h4:m.hs.length=4
 pk:(m.ps.map (·.1)).Nodup
 pb:∀k∈m.ps.map (·.1),0<=k/\k<n
 lk:m.lk.Nodup
 lb:∀k∈m.lk,0<=k/\k<n
theorem few:∀(n:Nat) (l:List Int),l.Nodup->(∀k∈l,0<=k/\k<n)->l.length<=n
 |0,l,_,h=>by
  cases l with
  |nil=>simp
  |cons a r=>have:=h a (by simp);omega
 |n+1,l,nd,h=>by
  have ih:=few n (l.erase (n:Int)) (nd.erase _) fun k hk=>by
   have h1:=h k (List.mem_of_mem_erase hk);have h2:k≠(n:Int):=fun z=>by subst z;exact(nd.not_mem_erase) hk
   omega
  rw[List.length_erase]at ih;split at ih<;>omega
theorem Wf.few{n:Int}{m:M}(h:Wf n m)(n0:0<=n)(n1:n<=6):m.ps.length<=6/\m.lk.length<=6:=by
 have a:=OQ.few n.toNat _ h.pk fun k hk=>by have:=h.pb k hk;omega
 have b:=OQ.few n.toNat _ h.lk fun k hk=>by have:=h.lb k hk;omega
 rw[ZN]at a;omega
theorem B9{l:List Int}{b:Int}(h:l.Nodup):(Ca l b).Nodup:=by
 unfold Ca;split
 ·exact h
 ·rename_i c;rw[List.nodup_append];exact⟨h,by simp,fun x hx y hy z=>by simp at hy;subst hy;subst z;exact c hx⟩
theorem yE{l:List Int}{b k:Int}(h:k∈Ca l b):k∈l\/k=b:=by
 unfold Ca at h;split at h
 ·exact .inl h
 ·simpa using h
theorem uO(b v:Int)(ps:List (Int×Int)):(tu ps b v).map (·.1)=Ca (ps.map (·.1)) b:=by
 have ha:(ps.any fun kv=>decide (kv.1=b))=decide (b∈ps.map (·.1)):=by
  induction ps with
  |nil=>rfl
  |cons p r ih=>
   simp only[List.any_cons,ih,ZG];by_cases e:p.1=b
   ·simp[e]
   ·simp[e,Ne.symm e]
 unfold tu Ca;rw[ha];by_cases c:b∈ps.map (·.1)
 ·rw[if_pos (decide_eq_true c),if_pos c,XX];refine List.map_congr_left fun p _=>?_;simp only[Function.comp];split<;>rfl
 ·rw[if_neg (by simpa using c),if_neg c];simp
theorem GI{n w:Int}{first:List Int}{m:M}{d:fq}(h:Wf n m)(od:d.ok n w):Wf n (step w first m d):=by
 cases d with
 |look g b=>
  obtain⟨_,_,b0,b1⟩:=od;refine⟨by simpa [step] using h.h4,h.pk,h.pb,?_,?_⟩
  ·simp only[step];split
   ·exact h.lk
   ·exact B9 h.lk
  ·simp only[step];split
   ·exact h.lb
   ·exact fun k hk=>(yE hk).elim (h.lb k) fun e=>by subst e;exact⟨b0,b1⟩
 |put b g=>
  obtain⟨b0,b1,b2,b3⟩:=od;refine⟨h.h4,?_,?_,h.lk,h.lb⟩
  ·simp only[step];rw[uO];exact B9 h.pk
  ·simp only[step];rw[uO];exact fun k hk=>(yE hk).elim (h.pb k) fun e=>by subst e;constructor<;>omega
 |set g v=>exact⟨by simpa [step] using h.h4,h.pk,h.pb,h.lk,h.lb⟩
 |plus g v=>exact⟨by simpa [step] using h.h4,h.pk,h.pb,h.lk,h.lb⟩
 |leap g k=>exact h
 |wait=>exact h
def gf{α:Type}{l:List α}{k:Nat}{x:α}(h:l[k]?=some x):k<l.length:=(Z9.mp h).1
def aX{α:Type}{l r:List α}{k:Nat}{x:α}(h:l[k]?=some x):(l++r)[k]?=some x:=by rw[Zq (gf h)];exact h
def uM(w:Int)(first:List Int):(j:Nat)->List (Dl j)->M->Bool×M
 |0,ds,m=>jc w first (fun _ m=>(true,m)) ds 0 m
 |j+1,ds,m=>jc w first (uM w first j) ds 0 m
def OkL(n w:Int):(j:Nat)->List (Dl j)->Prop
 |0,ds=>ds.length<=30/\∀d∈ds,DF.ok n w (fun _=>False) d
 |j+1,ds=>ds.length<=30/\∀d∈ds,DF.ok n w (OkL n w j) d
def m0:M:=⟨[0,0,0,0],[],[]⟩
theorem vb:∀lk:List Int,zo (zF lk)=some lk
 |[]=>rfl
 |b::r=>by
  have ih:=vb r;unfold zF at ih ⊢;simp only[ZG,zo,ih,XQ]
def beh(first:List Int)(ps:List (Int×Int))(k:Nat):List Int:=(first.zipIdx k).map fun p=>(gG ps (p.2:Int)).getD p.1
def told(r:Bool×M)(first:List Int)(l:Nat):U:=match r with
 |(true,m)=>.tup [.str "done",.tup ((beh first m.ps 0).map U.int),.tup (m.hs.map U.int)]
 |(false,_)=>.tup [.str "waits",.ref l]
theorem MM{ls:List Nat}{S0 S':Sto}(len:S0.length<=S'.length)(old:∀l,l<S0.length->S'[l]?=S0[l]?):∃G,S'=S0++G:=by
 refine⟨S'.drop S0.length,X6 fun l=>?_⟩;by_cases c:l<S0.length
 ·rw[old l c,Zq c]
 ·rw[Zb (by omega),List.getElem?_drop];congr 1;omega
theorem GC(b v j:Int)(ps:List (Int×Int)):gG (tu ps b v) j=if j=b then some v else gG ps j:=by
 have e1:∀ps:List (Int×Int),gG ps j=(l7 (ps.map fun p=>(p.1,V.int p.2)) j).map fun x=>match x with|.int i=>i|_=>0:=fun ps=>by
  unfold gG l7;induction ps with
  |nil=>rfl
  |cons p r ih=>
   simp only[ZG,XZ];by_cases e:p.1=j
   ·simp[e]
   ·rw[decide_eq_false e];exact ih
 have e2:(tu ps b v).map (fun p=>(p.1,V.int p.2))=um (ps.map fun p=>(p.1,V.int p.2)) b (.int v):=by
  unfold tu um;have:(ps.map fun p=>(p.1,V.int p.2)).any (fun kv=>decide (kv.1=b))=ps.any fun kv=>decide (kv.1=b):=by rw[List.any_map];rfl
  rw[this];split
  ·rw[XX,XX];refine List.map_congr_left fun p _=>?_;simp only[Function.comp];split<;>rfl
  ·simp
 rw[e1,e2,C1];split
 ·rfl
 ·exact(e1 ps).symm
def xl(first:List Int)(ps:List (Int×Int))(k:Nat):(beh first ps k).length=first.length:=by simp[beh]
theorem IS(first:List Int)(ps:List (Int×Int))(k i:Nat)(h:i<first.length):(beh first ps k)[i]?=some ((gG ps ((k+i:Nat):Int)).getD (first.getD i 0)):=by
 unfold beh;rw[Zk,List.getElem?_zipIdx,ZR h];simp[Zs,ZR h]
theorem Dc{α:Type}{l:List α}{k:Nat}{x:α}(h:l[k]?=some x):l.set k x=l:=by
 refine X6 fun j=>?_;by_cases c:k=j
 ·subst c;rw[Zr (gf h),h]
 ·rw[ZH c]
def F1{x:U}{S:Sto}:MO x .non S=some (.bl (tK x),S):=rfl
section
variable{α:Type}{n w:Int}{f:α->U}{k:List α->Prop}{s:List α->Int}
def szF(s:List α->Int):List (DF α)->Int
 |[]=>0
 |.pl _::r=>1+szF s r
 |.tr a b::r=>1+s a+s b+szF s r
theorem sO(s:List α->Int):∀(x y:List (DF α)),szF s (x++y)=szF s x+szF s y
 |[],y=>by simp[szF]
 |.pl d::r,y=>by simp only[Zt,szF,sO s r y];omega
 |.tr a b::r,y=>by simp only[Zt,szF,sO s r y];omega
def HsT(fs:Fn)(f:α->U)(k:List α->Prop)(s:List α->Int):Prop:=∀(a:List α) (S:Sto),k a->fs [.tup (a.map f)] S=some (.int (s a),S)
def yH(fs:Fn):Fn:=fnU 3 1 (lM fs)
theorem pS{fs:Fn}(Hs:HsT fs f k s)(x:U):∀(ds:List (DF α)) (many:Int) (r2:Option U) (S:Sto),(∀d∈ds,d.ok n w k)->
  ∃r2',fv (fun _=>True) (gNm 2) (gR fs) (ds.map (DF.u f)) [some x,some (.int many),r2] S=some (.nx,[some x,some (.int (many+szF s ds)),r2'],S)
 |[],many,r2,S,_=>⟨r2,by simp only[szF,Int.add_zero,Ze];exact iL trivial⟩
 |d::r,many,r2,S,oa=>by
  have od:=oa d ZE;cases d with
  |pl d=>
   obtain⟨r2',ih⟩:=pS Hs x r (many+1) (some d.u) S fun y hy=>oa y (ZJ _ hy);have e:many+szF s (.pl d::r)=many+1+szF s r:=by simp only[szF];omega
   rw[e];refine⟨r2',(dz trivial rfl ?_).trans ih⟩;have h0:∃y rr,d.u=.tup (.str y::rr)/\decide (y=("try":Str))=false:=by
    cases d<;>first|exact⟨_,_,rfl,kR⟩|exact⟨_,_,rfl,mP⟩|exact⟨_,_,rfl,mO⟩|exact⟨_,_,rfl,kQ⟩|exact⟨_,_,rfl,by decide +kernel⟩
   obtain⟨y,rr,e0,e1⟩:=h0;simp only[DF.u];rw[e0];rwa[gR,e1]
  |tr a b=>
   obtain⟨ka,kb⟩:=od;obtain⟨r2',ih⟩:=pS Hs x r (many+1+s a+s b) (some (DF.u f (.tr a b))) S fun y hy=>oa y (ZJ _ hy);have e:many+szF s (.tr a b::r)=many+1+s a+s b+szF s r:=by simp only[szF];omega
   rw[e];refine⟨r2',(dz trivial rfl ?_).trans ih⟩;rwa[gR,DF.u,Hs a _ ka,Hs b _ kb,SNX]
theorem vT{fs:Fn}(Hs:HsT fs f k s)(ds:List (DF α))(S:Sto)(oa:∀d∈ds,d.ok n w k):yH fs [.tup (ds.map (DF.u f))] S=some (.int (szF s ds),S):=by
 unfold yH;rw[MT];obtain⟨r2,e⟩:=pS Hs (.tup (ds.map (DF.u f))) ds 0 none S oa;rw[Int.zero_add]at e;rwa[lM,oX,iTp,e]
end
def zL:Nat->Fn
 |0=>yH fun _ _=>none
 |j+1=>yH (zL j)
def kx:(j:Nat)->List (Dl j)->Int
 |0,ds=>szF (fun _=>0) ds
 |j+1,ds=>szF (kx j) ds
section
variable{α:Type}{f:α->U}{k:List α->Prop}{s:List α->Int}
def HdT(n w t:Int)(fd:Fn)(f:α->U)(k:List α->Prop)(s:List α->Int):Prop:=∀(ns:List Int) (T:Sto) (a c room:Int),0<=a->0<=c->0<=room->room<=40->
 ∃(ds:List α) (a' c':Int) (G:Sto),fd [.ref 1,.tup [.int n,.int w],.int room,.int t] (scr ns::pen a c::T)=some (.tup (ds.map f),scr ns::pen a' c'::(T++G))/\k ds/\s ds<=room/\0<=s ds/\0<=a'/\0<=c'/\ds.length<=12
def kG(aw bA aK bj:Fn):CS:=
 (dC (rD (aL (cOp fGt (ao 5) (cC (.int 0)))) (rD (aL (cOp fLt (cCB fx (ag (ao 4) aD)) (cC (.int 12)))) (aL (cOp fLt (ao 7) (cC (.int 13)))))) (aV (cP (cBM cN (ao 4) (ag (cCB bA (ag (ao 0) (ag (ao 1) (ag (ao 7) (ag (ao 8) aD))))) aD)))
  (b5 5 (cOp oG (ao 5) (cC (.int 1))))) (dC (rD (aL (cOp fGt (ao 5) (cC (.int 0)))) (rD (aL (cOp fLt (cCB fx (ag (ao 4) aD)) (cC (.int 12)))) (cOr (aL (cOp fEq (ao 7) (cC (.int 13)))) (aL (cOp fEq (ao 3) (cC (.int 0))))))) (aV (dC (rD (aL (cOp fGt (ao 5) (cC (.int 1)))) (rD (aL (cOp fLt (cCB fx (ag (ao 4) aD)) (cC (.int 11)))) (aL (cOp fGt (cCB aw (ag (ao 0) (ag (cC (.int 4)) aD))) (cC (.int 0)))))) (aV (cP (cBM cN (ao 4) (ag (jw (ag (cC (.str "leap")) (ag (ao 8) (ag (cC (.int 1)) aD)))) aD)))
  (b5 5 (cOp oG (ao 5) (cC (.int 1))))) bB)
  (aV (cP (cBM cN (ao 4) (ag (jw (ag (cC (.str "wait")) aD)) aD)))
  (b5 5 (cOp oG (ao 5) (cC (.int 1)))))) (dC (rD (aL (cOp fGt (ao 5) (cC (.int 0)))) (aL (cOp fLt (cCB fx (ag (ao 4) aD)) (cC (.int 12))))) (aV (b5 9 (cCB aK (ag (ao 0) (ag (ao 1) (ag (cCB aw (ag (ao 0) (ag (ao 5) aD))) (ag (cOp oG (ao 3) (cC (.int 1))) aD))))))
  (aV (b5 5 (cOp oG (cOp oG (ao 5) (cC (.int 1))) (cCB bj (ag (ao 9) aD))))
  (aV (b5 10 (cCB aK (ag (ao 0) (ag (ao 1) (ag (cCB aw (ag (ao 0) (ag (cOp cX (ao 5) (cC (.int 1))) aD))) (ag (cOp oG (ao 3) (cC (.int 1))) aD))))))
  (aV (b5 5 (cOp oG (ao 5) (cCB bj (ag (ao 10) aD))))
  (cP (cBM cN (ao 4) (ag (jw (ag (cC (.str "try")) (ag (ao 9) (ag (ao 10) aD)))) aD))))))) bB)))
theorem M9{f g h i:Fn}:eC f g h i=aV (b5 7 (cCB f (ag (ao 0) (ag (cC (.int 16)) aD)))) (aV (b5 8 (cCB f (ag (ao 0) (ag (cC (.int 4)) aD)))) (kG f g h i)):=rfl
theorem dP(ns:List Int)(T:Sto){n w room t:Int}{fd fs:Fn}(Hs:HsT fs f k s)(Hd:t≠0->HdT n w (t-1) fd f k s)(n0:1<=n)(n1:n<=6)(w0:2<=w)(w1:w<=1000)(rm:room<=40):∀(us:List U) (r6 r7 r8 r9 r10:Option U) (left:Int) (ds:List (DF α)) (G:Sto) {a c:Int},0<=a->0<=c->ds.length<=12->(∀d∈ds,d.ok n w k)->0<=left->szF s ds+left<=room->0<=szF s ds->
  ∃(ds':List (DF α)) (ρ:Rho) (a' c':Int) (G':Sto),fv (fun _=>True) (gNm 6) (eC fk nD fd fs) us [some (.ref 1),some (.tup [.int n,.int w]),some (.int room),some (.int t),some (.ref (T.length+1+1)),some (.int left),r6,r7,r8,r9,r10] (scr ns::pen a c::(T++.lst (ds.map (DF.u f))::G))
   = some (.nx,some (.ref 1)::some (.tup [.int n,.int w])::some (.int room)::some (.int t)::some (.ref (T.length+1+1))::ρ,scr ns::pen a' c'::(T++.lst (ds'.map (DF.u f))::G'))/\ds'.length<=12/\(∀d∈ds',d.ok n w k)/\szF s ds'<=room/\0<=szF s ds'/\0<=a'/\0<=c'
 |[],r6,r7,r8,r9,r10,left,ds,G,a,c,ha,hc,hl,hd,l0,sz,s0=>⟨ds,_,a,c,G,by simp[fv];rfl,hl,hd,by omega,s0,ha,hc⟩
 |u::us,r6,r7,r8,r9,r10,left,ds,G,a,c,ha,hc,hl,hd,l0,sz,s0=>by
  obtain⟨f1,a1,c1,e1,p1,q1,ha1,hc1⟩:=dD ns (T++.lst (ds.map (DF.u f))::G) (m:=16) ha hc (by decide) (by decide +kernel);obtain⟨f2,a2,c2,e2,p2,q2,ha2,hc2⟩:=dD ns (T++.lst (ds.map (DF.u f))::G) (m:=4) ha1 hc1 (by decide) (by decide +kernel);have pre:eC fk nD fd fs [some (.ref 1),some (.tup [.int n,.int w]),some (.int room),some (.int t),some (.ref (T.length+1+1)),some (.int left),some u,r7,r8,r9,r10] (scr ns::pen a c::(T++.lst (ds.map (DF.u f))::G))
    = kG fk nD fd fs [some (.ref 1),some (.tup [.int n,.int w]),some (.int room),some (.int t),some (.ref (T.length+1+1)),some (.int left),some u,some (.int f1),some (.int f2),r9,r10] (scr ns::pen a2 c2::(T++.lst (ds.map (DF.u f))::G)):=by
   rw[M9];rwa[e1,e2]
  by_cases hL:0<left;case neg=>
   obtain⟨ds',ρ,a',c',G',h,kk⟩:=dP ns T (room:=room) (t:=t) (fd:=fd) (fs:=fs) Hs Hd n0 n1 w0 w1 rm us (some u) (some (.int f1)) (some (.int f2)) r9 r10 left ds G ha2 hc2 hl hd l0 sz s0;exact⟨ds',ρ,a',c',G',(dz trivial rfl (pre.trans (by rwa[kG,hL]))).trans h,kk⟩
  by_cases hN:(ds.length:Int)<12;case neg=>
   obtain⟨ds',ρ,a',c',G',h,kk⟩:=dP ns T (room:=room) (t:=t) (fd:=fd) (fs:=fs) Hs Hd n0 n1 w0 w1 rm us (some u) (some (.int f1)) (some (.int f2)) r9 r10 left ds G ha2 hc2 hl hd l0 sz s0;exact⟨ds',ρ,a',c',G',(dz trivial rfl (pre.trans (by rwa[kG,hL,hN,ZN]))).trans h,kk⟩
  have hlm:(ds.map (DF.u f)).length<LIM:=by unfold LIM;simp;omega
  have okd:∀{ds:List (DF α)} {d:DF α},(∀d∈ds,d.ok n w k)->d.ok n w k->∀x∈ds++[d],x.ok n w k:=fun h1 h2 x hx=>by
   rcases X8.mp hx with z|z
   ·exact h1 x z
   ·simp at z;subst z;exact h2
  have s1:∀(x:List (DF α)) (d:fq),szF s (x++[.pl d])=szF s x+1:=fun x d=>by rw[sO];simp[szF]
  by_cases hW:f1<13
  ·obtain⟨d,a3,c3,G3,e3,od,ha3,hc3⟩:=DC ns (T++.lst (ds.map (DF.u f))::G) ha2 hc2 n0 n1 w0 w1 p1 p2 q2;obtain⟨ds',ρ,a',c',G',h,kk⟩:=dP ns T (room:=room) (t:=t) (fd:=fd) (fs:=fs) Hs Hd n0 n1 w0 w1 rm us (some u) (some (.int f1)) (some (.int f2)) r9 r10 (left-1) (ds++[.pl d]) (G++G3) ha3 hc3 (by simp;omega) (okd hd (show DF.ok n w k (.pl d)from od)) (by omega) (by rw[s1];omega) (by rw[s1];omega);simp only[Zp,ZG,Ze,DF.u]at h;exact⟨ds',ρ,a',c',G',(dz trivial rfl (pre.trans (by rwa[kG,e3,hL,hN,hW,lV hlm,ZN]))).trans h,kk⟩
  ·have wt:DF.u f (.pl .wait)=U.tup [.str "wait"]:=rfl;obtain⟨bE,hE⟩:∃b,decide (f1=13)=b:=⟨_,rfl⟩;obtain⟨bT,hT⟩:∃b,decide (t=0)=b:=⟨_,rfl⟩;by_cases hX:bE=false/\bT=false
   ·obtain⟨rfl,rfl⟩:=hX;have tz:t≠0:=of_decide_eq_false hT;obtain⟨f3,a3,c3,e3,p3,q3,ha3,hc3⟩:=dD ns (T++.lst (ds.map (DF.u f))::G) (m:=left) ha2 hc2 hL (l9 (by omega) (by omega));obtain⟨A,a4,c4,G4,e4,kA,sA,sA0,ha4,hc4,_⟩:=Hd tz ns (T++.lst (ds.map (DF.u f))::G) a3 c3 f3 ha3 hc3 p3 (by omega);obtain⟨f5,a5,c5,e5,p5,q5,ha5,hc5⟩:=dD ns (T++.lst (ds.map (DF.u f))::(G++G4)) (m:=left-1-s A+1) ha4 hc4 (by omega) (l9 (by omega) (by omega));obtain⟨B,a6,c6,G6,e6,kB,sB,sB0,ha6,hc6,_⟩:=Hd tz ns (T++.lst (ds.map (DF.u f))::(G++G4)) a5 c5 f5 ha5 hc5 p5 (by omega);have s2:szF s (ds++[.tr A B])=szF s ds+1+s A+s B:=by rw[sO];simp only[szF];omega
    obtain⟨ds',ρ,a',c',G',h,kk⟩:=dP ns T (room:=room) (t:=t) (fd:=fd) (fs:=fs) Hs Hd n0 n1 w0 w1 rm us (some u) (some (.int f1)) (some (.int f2)) (some (.tup (A.map f))) (some (.tup (B.map f))) (left-1-s A-s B) (ds++[.tr A B]) (G++(G4++G6)) ha6 hc6 (by simp;omega) (okd hd (show DF.ok n w k (.tr A B)from⟨kA,kB⟩)) (by omega) (by rw[s2];omega) (by rw[s2];omega);simp only[Zp,ZG,Ze,DF.u]at h;simp only[ZV,Zt]at e4 e6;exact⟨ds',ρ,a',c',G',(dz trivial rfl (pre.trans (by rwa[kG,e3,e4,e5,e6,Hs A _ kA,Hs B _ kB,hL,hN,hW,hE,hT,lV hlm,ZN]))).trans h,kk⟩
   have hO:(bE||bT)=true:=by cases bE<;>cases bT<;>simp_all
   have hC:∀S':Sto,(cOr (aL (cOp fEq (ao 7) (cC (.int 13)))) (aL (cOp fEq (ao 3) (cC (.int 0))))) [some (.ref 1),some (.tup [.int n,.int w]),some (.int room),some (.int t),some (.ref (T.length+1+1)),some (.int left),some u,some (.int f1),some (.int f2),r9,r10] S'=some (true,S'):=fun S'=>by
    cases bE<;>cases bT<;>first|(exact absurd hO (by decide))|rwa[hE,hT]
   by_cases hM:1<left;case neg=>
    obtain⟨ds',ρ,a',c',G',h,kk⟩:=dP ns T (room:=room) (t:=t) (fd:=fd) (fs:=fs) Hs Hd n0 n1 w0 w1 rm us (some u) (some (.int f1)) (some (.int f2)) r9 r10 (left-1) (ds++[.pl .wait]) G ha2 hc2 (by simp;omega) (okd hd (show DF.ok n w k (.pl .wait)from trivial)) (by omega) (by rw[s1];omega) (by rw[s1];omega);simp only[Zp,ZG,Ze]at h;refine⟨ds',ρ,a',c',G',(dz trivial rfl ?_).trans h,kk⟩;refine pre.trans ?_;rwa[kG,hC,hL,hN,hW,hM,wt,lV hlm,ZN]
   by_cases hK:(ds.length:Int)<11;case neg=>
    obtain⟨ds',ρ,a',c',G',h,kk⟩:=dP ns T (room:=room) (t:=t) (fd:=fd) (fs:=fs) Hs Hd n0 n1 w0 w1 rm us (some u) (some (.int f1)) (some (.int f2)) r9 r10 (left-1) (ds++[.pl .wait]) G ha2 hc2 (by simp;omega) (okd hd (show DF.ok n w k (.pl .wait)from trivial)) (by omega) (by rw[s1];omega) (by rw[s1];omega);simp only[Zp,ZG,Ze]at h;refine⟨ds',ρ,a',c',G',(dz trivial rfl ?_).trans h,kk⟩;refine pre.trans ?_;rwa[kG,hC,hL,hN,hW,hM,hK,wt,lV hlm,ZN]
   obtain⟨f3,a3,c3,e3,p3,q3,ha3,hc3⟩:=dD ns (T++.lst (ds.map (DF.u f))::G) (m:=4) ha2 hc2 (by decide) (by decide +kernel);by_cases hZ:0<f3
   ·have lp:DF.u f (.pl (.leap f2 1))=U.tup [.str "leap",.int f2,.int 1]:=rfl;have hlm2:(ds.map (DF.u f)++[U.tup [.str "leap",.int f2,.int 1]]).length<LIM:=by unfold LIM;simp;omega
    obtain⟨ds',ρ,a',c',G',h,kk⟩:=dP ns T (room:=room) (t:=t) (fd:=fd) (fs:=fs) Hs Hd n0 n1 w0 w1 rm us (some u) (some (.int f1)) (some (.int f2)) r9 r10 (left-1-1) (ds++[.pl (.leap f2 1)]++[.pl .wait]) G ha3 hc3 (by simp;omega) (okd (okd hd (show DF.ok n w k (.pl (.leap f2 1))from⟨p2,q2,by omega,by omega⟩)) (show DF.ok n w k (.pl .wait)from trivial)) (by omega) (by rw[s1,s1];omega) (by rw[s1,s1];omega);simp only[Zp,ZG,Ze]at h;refine⟨ds',ρ,a',c',G',(dz trivial rfl ?_).trans h,kk⟩;refine pre.trans ?_;rwa[kG,hC,e3,hL,hN,hW,hM,hK,hZ,lp,wt,lV hlm,lV hlm2,ZN]
   ·obtain⟨ds',ρ,a',c',G',h,kk⟩:=dP ns T (room:=room) (t:=t) (fd:=fd) (fs:=fs) Hs Hd n0 n1 w0 w1 rm us (some u) (some (.int f1)) (some (.int f2)) r9 r10 (left-1) (ds++[.pl .wait]) G ha3 hc3 (by simp;omega) (okd hd (show DF.ok n w k (.pl .wait)from trivial)) (by omega) (by rw[s1];omega) (by rw[s1];omega);simp only[Zp,ZG,Ze]at h;refine⟨ds',ρ,a',c',G',(dz trivial rfl ?_).trans h,kk⟩;refine pre.trans ?_;rwa[kG,hC,e3,hL,hN,hW,hM,hK,hZ,wt,lV hlm,ZN]
theorem oV{n w t:Int}{fd fs:Fn}(Hs:HsT fs f k s)(Hd:t≠0->HdT n w (t-1) fd f k s)(n0:1<=n)(n1:n<=6)(w0:2<=w)(w1:w<=1000):HdT n w t (yO fd fs) (DF.u f) (fun ds=>ds.length<=30/\∀d∈ds,DF.ok n w k d) (szF s):=by
 intro ns T a c room ha hc r0 r1;unfold yO;rw[MU];have hm:Ql [.int 12,.int room]=fun S=>some (.int (if room<12 then room else 12),S):=rfl;have hk:0<=(if room<12 then room else 12)/\(if room<12 then room else 12)<=12:=by split<;>omega
 generalize (if room<12 then room else 12)=mm at hm hk;obtain⟨f1,a1,c1,e1,p1,q1,ha1,hc1⟩:=dD ns (T++[.lst []]) (m:=mm+1) ha hc (by omega) (l9 (by omega) (by omega));obtain⟨ds,ρ,a',c',G,h,k1,k2,k3,k4,k5,k6⟩:=dP ns T (room:=room) (t:=t) (fd:=fd) (fs:=fs) Hs Hd n0 n1 w0 w1 r1 (hU 0 f1.toNat) none none none none none room [] [] ha1 hc1 (by simp) (by simp) r0 (by simp[szF]) (by simp[szF]);refine⟨ds,a',c',.lst (ds.map (DF.u f))::G,?_,⟨by omega,k2⟩,k3,k4,k5,k6,k1⟩;have hr:-(2^62)<=f1/\f1<2^62:=by omega
 simp only[Ze]at h;rwa[i6,oX,fM,hm,e1,hr,h,if_true,and_self]
end
def vE:Nat->Fn
 |0=>yO (fun _ _=>none) fun _ _=>none
 |j+1=>yO (vE j) (zL j)
def yP{x:U}{S:Sto}:ik x .non S=some (.bl (!tK x),S):=rfl
def yo:tK .non=true:=rfl
def Bj{us:List U}:tK (.tup us)=false:=rfl
def MG{i:Int}:tK (.int i)=false:=rfl
theorem GL{us:List U}{k:Nat}{S:Sto}(h:k<us.length):fSl (.tup us) none (some (k:Int)) S=some (.tup (us.take k),S):=by
 have e:HT.sIx us.length us.length (some (k:Int))=k:=by rw[HT.sIx_nat];omega
 simp only[fSl,HT.sIx_none,e,Ct,List.drop_zero,Nat.sub_zero];rw[if_neg (by omega)]
theorem pR{us:List U}{k:Nat}{S:Sto}(h0:0<k)(h:k<=us.length):fSl (.tup us) (some (k:Int)) none S=some (.tup (us.drop k),S):=by
 have e:HT.sIx us.length 0 (some (k:Int))=k:=by rw[HT.sIx_nat];omega
 simp only[fSl,HT.sIx_none,e,Ct];rw[if_neg (by omega),List.take_of_length_le (by simp)]
def yG:Fn:=fnU 3 3 qJ
theorem Ae{us:List U}{k:Int}{v:U}{S:Sto}(k0:0<=k)(h:k<us.length)(hl:us.length<=50):yG [.tup us,.int k,v] S=some (.tup (us.set k.toNat v),S):=by
 unfold yG;rw[BC];have ek:k=((k.toNat:Nat):Int):=by omega
 have hk:k.toNat<us.length:=by omega
 have e1:k+1=((k.toNat+1:Nat):Int):=by omega
 have a1:fSl (.tup us) none (some k) S=some (.tup (us.take k.toNat),S):=by rw[ek];exact GL hk
 have a2:fSl (.tup us) (some (k+1)) none S=some (.tup (us.drop (k.toNat+1)),S):=by rw[e1];exact pR (by omega) (by omega)
 have b1:cX (.tup (us.take k.toNat)) (.tup [v]) S=some (.tup (us.take k.toNat++[v]),S):=by
  unfold cX;simp only;rw[if_pos (by simp;unfold LIM;omega)]
 have b2:cX (.tup (us.take k.toNat++[v])) (.tup (us.drop (k.toNat+1))) S=some (.tup (us.take k.toNat++[v]++us.drop (k.toNat+1)),S):=by
  unfold cX;simp only;rw[if_pos (by simp;unfold LIM;omega)]
 rw[List.set_eq_take_append_cons_drop,if_pos hk];rwa[qJ,cSl,BV,a1,a2,b1,b2]
def pt(ds:List U)(q:Int)(A B:U):U:=.tup [.tup ds,.int q,A,B]
inductive Onw:Nat->U->U->Prop
 |stop {d:Nat} {ds:List U} {q:Int} {A B:U}:q<ds.length->Onw d (pt ds q A B) (pt ds q A B)
 |top {d:Nat} {ds:List U} {q:Int} {B:U}:Onw d (pt ds q .non B) (pt ds q .non B)
 |up {d:Nat} {ds ds':List U} {q q':Int} {A' B B' y:U}:(ds.length:Int)<=q->Onw d (pt ds' q' A' B') y->Onw (d+1) (pt ds q (pt ds' q' A' B') B) y
def zO:Fn:=fnU 2 1 (qK 100)
theorem DW{F:Nat}{d:Nat}{x y:U}{S:Sto}{r:Option U}(h:Onw d x y):∀(fuel:Nat),d<fuel->
  d5 (rD (aL (cOp fGe (cOp fIx (ao 1) (cC (.int 1))) (cCB fx (ag (cOp fIx (ao 1) (cC (.int 0))) aD)))) (aL (cOp ik (cOp fIx (ao 1) (cC (.int 2))) (cC .non)))) (lQ F) fuel [r,some x] S=some (.nx,[r,some y],S):=by
 induction h with
 |@stop d ds q A B h=>
  intro fuel hf;obtain⟨f,rfl⟩:∃f,fuel=f+1:=⟨fuel-1,by omega⟩;have c:¬(ds.length:Int)<=q:=by omega
  refine lZ ?_;unfold pt;rwa[c]
 |@top d ds q B=>
  intro fuel hf;obtain⟨f,rfl⟩:∃f,fuel=f+1:=⟨fuel-1,by omega⟩;refine lZ ?_;unfold pt;by_cases c:(ds.length:Int)<=q
  ·rwa[c,yP,yo]
  ·rwa[c]
 |@up d ds ds' q q' A' B B' y h _ ih=>
  intro fuel hf;obtain⟨f,rfl⟩:∃f,fuel=f+1:=⟨fuel-1,by omega⟩;refine(sG (ρ1:=[r,some (pt ds' q' A' B')]) (S1:=S) (S0:=S) ?_ ?_).trans (ih f (by omega))
  ·unfold pt;rwa[h,yP,Bj]
  ·unfold pt;rwa[lQ]
theorem xZ{d:Nat}{x y:U}{S:Sto}(h:Onw d x y)(hd:d<100):zO [x] S=some (y,S):=by
 unfold zO;rw[w4];rwa[qK,DW h 100 hd]
def wZ(n:Nat)(ps:List (Int×Int)):List U:=(List.range n).map fun b:Nat=>((gG ps (b:Int)).map U.int).getD .non
def mB{n:Nat}{ps:List (Int×Int)}:(wZ n ps).length=n:=by simp[wZ]
theorem BB{n:Nat}{ps:List (Int×Int)}{b:Int}(b0:0<=b)(b1:b<n):atI (wZ n ps) b=some (((gG ps b).map U.int).getD .non):=by
 refine sy b0 ?_;unfold wZ;rw[Zk,XG (by omega)];have:((b.toNat:Nat):Int)=b:=by omega
 simp[this]
theorem Es{n:Nat}{ps:List (Int×Int)}{b v:Int}(b0:0<=b)(b1:b<n):(wZ n ps).set b.toNat (.int v)=wZ n (tu ps b v):=by
 refine X6 fun i=>?_;by_cases hi:i<n
 ·rw[List.getElem?_set,mB];unfold wZ;rw[Zk,Zk,XG hi];simp only[XQ,GC];by_cases e:b.toNat=i
  ·have:(i:Int)=b:=by omega
   rw[if_pos e,if_pos (by omega),this,if_pos rfl];rfl
  ·rw[if_neg e,if_neg (by omega)]
 ·rw[Zm (by rw[List.length_set,mB];omega),Zm (by rw[mB];omega)]
theorem Et{n:Nat}:wZ n []=ZU n .non:=by
 unfold wZ;refine X6 fun i=>?_;by_cases hi:i<n
 ·rw[Zk,XG hi,X4,if_pos hi];rfl
 ·rw[Zm (by simp;omega),Zm (by simp;omega)]
def dO(cD:Cl)(w:Int)(n:Nat)(m:M)(x:U):O:=.ins cD [some (.int w),some (.tup (m.hs.map U.int)),some (.tup (wZ n m.ps)),some x]
structure Cf(cD:Cl)(w:Int)(n i ll:Nat)(m:M)(x:U)(S:Sto):Prop where
 ei:S[i]?=some (dO cD w n m x)
 el:S[ll]?=some (.dic (zF m.lk))
structure Kp(ls:List Nat)(S S':Sto):Prop where
 len:S'.length=S.length
 old:∀l,l∉ls->S'[l]?=S[l]?
def Kp.refl{ls:List Nat}{S:Sto}:Kp ls S S:=⟨rfl,fun _ _=>rfl⟩
theorem Kp.set{ls:List Nat}{S:Sto}{l:Nat}{o:O}(h:l∈ls):Kp ls S (S.set l o):=⟨by simp,fun k hk=>by rw[ZH (fun z=>hk (by subst z;exact h))]⟩
theorem Kp.trans{ls:List Nat}{S S' S'':Sto}(a:Kp ls S S')(b:Kp ls S' S''):Kp ls S S'':=⟨b.len.trans a.len,fun l hn=>by rw[b.old l hn,a.old l hn]⟩
section
variable{cD:Cl}{w:Int}{n i ll:Nat}{m:M}{x A B:U}{S:Sto}{ds:List U}{q:Int}
def Cf.ne(h:Cf cD w n i ll m x S):i≠ll:=fun z=>by have a:=h.ei;have b:=h.el;rw[z,b]at a;cases a
theorem Cf.setI(h:Cf cD w n i ll m x S)(hs:List Int)(ps:List (Int×Int))(y:U):Cf cD w n i ll ⟨hs,ps,m.lk⟩ y (S.set i (dO cD w n ⟨hs,ps,m.lk⟩ y)):=
 ⟨Zr (gf h.ei),by rw[ZH h.ne];exact h.el⟩
theorem Cf.setL(h:Cf cD w n i ll m x S)(lk:List Int):Cf cD w n i ll ⟨m.hs,m.ps,lk⟩ x (S.set ll (.dic (zF lk))):=
 ⟨by rw[ZH (Ne.symm h.ne)];exact h.ei,Zr (gf h.el)⟩
def kJ(cD:Cl):Fn:=fnU 1 1 (iO cD)
theorem j0{u:U}(h:Cf cD w n i ll m (pt ds q A B) S)(q0:0<=q)(hu:ds[q.toNat]?=some u):kJ cD [.ref i] S=some (u,S):=by
 unfold kJ;rw[qD];have hl:=gf hu;have c:¬(ds.length:Int)<=q:=by omega
 have ha:atI ds q=some u:=sy q0 hu;have e:=h.ei;unfold dO pt at e;rwa[iO,e,c,ha]
theorem Ez(h:Cf cD w n i ll m (pt ds q A B) S)(hq:(ds.length:Int)<=q):kJ cD [.ref i] S=some (.non,S):=by
 unfold kJ;rw[qD];have e:=h.ei;unfold dO pt at e;rwa[iO,e,hq]
def yL(cD:Cl):Fn:=fnU 3 3 (j7 yG cD)
theorem tM{k v:Int}(h:Cf cD w n i ll m x S)(h4:m.hs.length=4)(k0:0<=k)(k1:k<4):yL cD [.ref i,.int k,.int v] S=some (.non,S.set i (dO cD w n ⟨m.hs.set k.toNat v,m.ps,m.lk⟩ x)):=by
 unfold yL;rw[BC];have e:=h.ei;unfold dO at e ⊢;have hw:=Ae (us:=m.hs.map U.int) (v:=.int v) (S:=S) k0 (by simp;omega) (by simp;omega);rw[map_set]at hw;rwa[j7,e,hw]
def NO(cD:Cl):Fn:=fnU 3 2 (eF cD)
theorem LD{k:Int}(h:Cf cD w n i ll m (pt ds q A B) S):NO cD [.ref i,.int k] S=some (pt ds (q+1+k) A B,S):=by
 unfold NO;rw[lG];have e:=h.ei;unfold dO pt at e;unfold pt;rwa[eF,e]
def NP(cD:Cl):Fn:=fnU 2 2 (fS zO (NO cD) cD)
theorem zA{k:Int}{d:Nat}{y:U}(h:Cf cD w n i ll m (pt ds q A B) S)(ho:Onw d (pt ds (q+1+k) A B) y)(hd:d<100):NP cD [.ref i,.int k] S=some (.non,S.set i (dO cD w n m y)):=by
 unfold NP;rw[oJ];have e:=h.ei;have ep:=LD (k:=k) h;have eo:=xZ (S:=S) ho hd;unfold dO at e ⊢;rwa[fS,e,ep,eo]
def yM(cD:Cl):Fn:=fnU 2 2 (j8 (yL cD) (kJ cD) (NP cD) cD)
theorem Iw{g b v:Int}{d:Nat}{y:U}(h:Cf cD w n i ll m (pt ds q A B) S)(h4:m.hs.length=4)(q0:0<=q)(hu:ds[q.toNat]?=some (fq.u (.look g b)))(g0:0<=g)(g1:g<4)(ho:Onw d (pt ds (q+1+0) A B) y)(hd:d<100) :
  yM cD [.ref i,.int v] S=some (.non,S.set i (dO cD w n ⟨m.hs.set g.toNat v,m.ps,m.lk⟩ y)):=by
 unfold yM;rw[oJ];have e:=h.ei;have ed:=j0 h q0 hu;have eh:=tM (v:=v) h h4 g0 g1;have h2:=h.setI (m.hs.set g.toNat v) m.ps (pt ds q A B);have e2:=h2.ei;have eg:=zA h2 ho hd;unfold dO at e e2 eh eg ⊢;rw[List.set_set]at eg;unfold fq.u at ed;rwa[j8,e,ed,eh,e2,eg]
def sE(cD:Cl):Fn:=fnU 2 1 (dQ cD)
theorem B2(h:Cf cD w n i ll m (pt ds q A .non) S):sE cD [.ref i] S=some (.bl false,S):=by
 unfold sE;rw[w4];have e:=h.ei;unfold dO pt at e;rwa[dQ,e,F1,yo]
def bk(n:Nat)(hs:List Int)(ps:List (Int×Int))(y:U):U:=.tup [.tup (hs.map U.int),.tup (wZ n ps),y]
theorem B1{hs:List Int}{ps:List (Int×Int)}{y:U}(h:Cf cD w n i ll m (pt ds q A (bk n hs ps y)) S):sE cD [.ref i] S=some (.bl true,S.set i (dO cD w n ⟨hs,ps,m.lk⟩ y)):=by
 unfold sE;rw[w4];have l:=gf h.ei;have e:=h.ei;unfold dO pt bk at e;unfold dO;have g:∀o:O,(S.set i o)[i]?=some o:=fun o=>Zr l;rwa[dQ,e,F1,Bj,g,List.set_set]
def xq(cD:Cl):Fn:=fnU 5 3 (fT zO (NO cD) cD)
theorem Er{a b:List U}{d d':Nat}{y z:U}(h:Cf cD w n i ll m (pt ds q A B) S)(ho:Onw d (pt b 0 (pt ds (q+1+0) A B) B) z)(hd:d<100)
  (ho':Onw d' (pt a 0 (pt ds (q+1+0) A B) (bk n m.hs m.ps z)) y) (hd':d'<100):xq cD [.ref i,.tup a,.tup b] S=some (.non,S.set i (dO cD w n m y)):=by
 unfold xq;rw[MS];have e:=h.ei;have ep:=LD (k:=0) h;have e1:=xZ (S:=S) ho hd;have e2:=xZ (S:=S) ho' hd';unfold dO at e ⊢;unfold pt at ep e1 e2 e;unfold bk at e2;rwa[fT,e,ep,e1,e2]
end
def lv(m:M):fq->Int
 |.leap h k=>if m.hs.getD h.toNat 0=0 then k else 0
 |_=>0
section
variable{cD:Cl}{w n:Int}{first:List Int}{i ll:Nat}{m:M}{A B:U}{S:Sto}{ds:List U}{q:Int}{r3:Option U}{F:Nat}
def oh(cD:Cl):Fn:=fnU 2 1 (iP (kJ cD) cD)
theorem t9{x:Str}{r:List U}(h:Cf cD w n.toNat i ll m (pt ds q A B) S)(q0:0<=q)(hu:ds[q.toNat]?=some (.tup (.str x::r)))(hx:decide (x=("look":Str))=false):oh cD [.ref i] S=some (.bl false,S):=by
 unfold oh;rw[w4];have e:=h.ei;have ed:=j0 h q0 hu;unfold dO at e;rwa[iP,e,ed,hx]
theorem B5{g b:Int}(h:Cf cD w n.toNat i ll m (pt ds q A B) S)(q0:0<=q)(hu:ds[q.toNat]?=some (fq.u (.look g b)))(b0:0<=b)(b1:b<n):oh cD [.ref i] S=some (.bl (!(gG m.ps b).isSome),S):=by
 unfold oh;rw[w4];have e:=h.ei;have ed:=j0 h q0 hu;have ea:=BB (n:=n.toNat) (ps:=m.ps) b0 (by omega);have ei:tK (((gG m.ps b).map U.int).getD .non)=!(gG m.ps b).isSome:=by cases gG m.ps b<;>rfl
 unfold dO at e;unfold fq.u at ed;rwa[iP,e,ed,ea,F1,ei,SNX]
def FN(cD:Cl):Fn:=fnU 4 1 (bw yG (kJ cD) (sE cD) (xq cD) (yL cD) (NP cD) cD)
theorem BD(h:Cf cD w n.toNat i ll m (pt ds q A B) S)(q0:0<=q)(hu:ds[q.toNat]?=some (fq.u .wait)){r:U×Sto}(hb:sE cD [.ref i] S=some r):FN cD [.ref i] S=some r:=by
 unfold FN;rw[IH];have e:=h.ei;have ed:=j0 h q0 hu;unfold dO at e;unfold fq.u at ed;obtain⟨u,S'⟩:=r;rwa[bw,e,ed,hb,SNX]
theorem MW{a b:List U}{d d':Nat}{y z:U}(h:Cf cD w n.toNat i ll m (pt ds q A B) S)(q0:0<=q)(hu:ds[q.toNat]?=some (.tup [.str "try",.tup a,.tup b]))(ho:Onw d (pt b 0 (pt ds (q+1+0) A B) B) z)(hd:d<100)
  (ho':Onw d' (pt a 0 (pt ds (q+1+0) A B) (bk n.toNat m.hs m.ps z)) y) (hd':d'<100):FN cD [.ref i] S=some (.bl true,S.set i (dO cD w n.toNat m y)):=by
 unfold FN;rw[IH];have e:=h.ei;have ed:=j0 h q0 hu;have en:=Er h ho hd ho' hd';unfold dO at e en ⊢;rwa[bw,e,ed,en,SNX]
theorem Ew{d:fq}{dd:Nat}{y:U}(nw:d≠.wait)(h:Cf cD w n.toNat i ll m (pt ds q A B) S)(wf:Wf n m)(w0:2<=w)(n1:n<=6)(od:d.ok n w)(q0:0<=q)(hu:ds[q.toNat]?=some d.u)(ha:∀g b,d=.look g b->(gG m.ps b).isSome=true)(ho:Onw dd (pt ds (q+1+lv m d) A B) y)(hd:dd<100) :
  FN cD [.ref i] S=some (.bl true,S.set i (dO cD w n.toNat (step w first m d) y)):=by
 unfold FN;rw[IH];have e:=h.ei;have ed:=j0 h q0 hu;have h4:=wf.h4;cases d with
 |wait=>exact absurd rfl nw
 |look g b=>
  obtain⟨g0,g1,b0,b1⟩:=od;obtain⟨v,hv⟩:=XU.mp (ha g b rfl);have ea:=BB (n:=n.toNat) (ps:=m.ps) b0 (by omega);rw[hv,XQ,XH]at ea;have eh:=tM (v:=v) h h4 g0 g1;have h2:=h.setI (m.hs.set g.toNat v) m.ps (pt ds q A B);have e2:=h2.ei;have eg:=zA h2 ho hd;unfold dO at e e2 eh eg ⊢;rw[List.set_set]at eg;unfold fq.u at ed;simp only[step,zk,hv,XH,Option.isSome_some,if_true];simp only[lv]at eg;rwa[bw,e,ed,ea,eh,e2,eg,SNX]
 |put b g=>
  obtain⟨g0,g1,b0,b1⟩:=od;have hw:=Ae (us:=wZ n.toNat m.ps) (v:=.int (m.hs.getD g.toNat 0)) (S:=S) b0 (by rw[mB];omega) (by rw[mB];omega);rw[Es b0 (by omega)]at hw;have h2:=h.setI m.hs (tu m.ps b (m.hs.getD g.toNat 0)) (pt ds q A B);have e2:=h2.ei;have eg:=zA h2 ho hd;unfold dO at e e2 eg ⊢;rw[List.set_set]at eg;unfold fq.u at ed;simp only[lv]at eg;simp only[step];rwa[bw,e,ed,at4 h4 g0 g1,hw,e2,eg,SNX]
 |set g v=>
  obtain⟨g0,g1,b0,b1⟩:=od;have eh:=tM (v:=v) h h4 g0 g1;have h2:=h.setI (m.hs.set g.toNat v) m.ps (pt ds q A B);have e2:=h2.ei;have eg:=zA h2 ho hd;unfold dO at e e2 eh eg ⊢;rw[List.set_set]at eg;unfold fq.u at ed;simp only[lv]at eg;simp only[step];rwa[bw,e,ed,eh,e2,eg,SNX]
 |plus g k=>
  obtain⟨g0,g1,b0,b1⟩:=od;have eh:=tM (v:=(m.hs.getD g.toNat 0+m.hs.getD k.toNat 0) % w) h h4 g0 g1;have h2:=h.setI (m.hs.set g.toNat ((m.hs.getD g.toNat 0+m.hs.getD k.toNat 0) % w)) m.ps (pt ds q A B);have e2:=h2.ei;have eg:=zA h2 ho hd;unfold dO at e e2 eh eg ⊢;rw[List.set_set]at eg;unfold fq.u at ed;simp only[lv]at eg;simp only[step];rwa[bw,e,ed,at4 h4 g0 g1,at4 h4 b0 b1,vL (show 0<w by omega),eh,e2,eg,SNX]
 |leap g k=>
  obtain⟨g0,g1,b0,b1⟩:=od;have eg:=zA h ho hd;unfold dO at e eg ⊢;unfold fq.u at ed;simp only[step];simp only[lv]at eg;by_cases z:m.hs.getD g.toNat 0=0
  ·rw[if_pos z]at eg;rwa[bw,e,ed,at4 h4 g0 g1,z,eg,SNX]
  ·rw[if_neg z]at eg;rwa[bw,e,ed,at4 h4 g0 g1,z,eg,SNX]
abbrev bG(cD:Cl)(F:Nat):CS:=bX (kJ cD) (oh cD) (yM cD) (FN cD) cD F
def Kd(d:fq):∃x r,d.u=.tup (.str x::r):=by cases d<;>exact⟨_,_,rfl⟩
theorem yj{d:fq}{dd:Nat}{y:U}(nw:d≠.wait)(h:Cf cD w n.toNat i ll m (pt ds q A B) S)(wf:Wf n m)(lf:first.length=n.toNat)(w0:2<=w)(n0:0<=n)(n1:n<=6)(od:d.ok n w)(q0:0<=q)(hu:ds[q.toNat]?=some d.u)(ho:Onw dd (pt ds (q+1+lv m d) A B) y)(hd:dd<100) :
  ∃r3' S',bG cD F [some (.ref i),some (.tup (first.map U.int)),some (.ref ll),r3] S=some (.nx,[some (.ref i),some (.tup (first.map U.int)),some (.ref ll),r3'],S')/\Cf cD w n.toNat i ll (step w first m d) y S'/\Kp [i,ll] S S':=by
 have e:=h.ei;have go:(∀g b,d=.look g b->(gG m.ps b).isSome=true)->oh cD [.ref i] S=some (.bl false,S)->(step w first m d).lk=m.lk->∃r3' S',bG cD F [some (.ref i),some (.tup (first.map U.int)),some (.ref ll),r3] S=some (.nx,[some (.ref i),some (.tup (first.map U.int)),some (.ref ll),r3'],S')/\Cf cD w n.toNat i ll (step w first m d) y S'/\Kp [i,ll] S S':=by
  intro ha hk hl;have ed:=Ew (first:=first) nw h wf w0 n1 od q0 hu ha ho hd;refine⟨r3,_,?_,⟨Zr (gf h.ei),by rw[ZH h.ne,hl];exact h.el⟩,.set (by simp)⟩;unfold dO at e;rwa[bG,bX,e,hk,ed]
 have other:∀x r,d.u=.tup (.str x::r)->decide (x=("look":Str))=false->oh cD [.ref i] S=some (.bl false,S):=fun x r e1 e2=>t9 h q0 (by rw[hu,e1]) e2;cases d with
 |wait=>exact absurd rfl nw
 |put b g=>exact go (by intro _ _ z;cases z) (other _ _ rfl (by decide +kernel)) rfl
 |set b g=>exact go (by intro _ _ z;cases z) (other _ _ rfl (by decide +kernel)) rfl
 |plus b g=>exact go (by intro _ _ z;cases z) (other _ _ rfl (by decide +kernel)) rfl
 |leap b g=>exact go (by intro _ _ z;cases z) (other _ _ rfl (by decide +kernel)) rfl
 |look g b=>
  obtain⟨g0,g1,b0,b1⟩:=id od;have hk:=B5 h q0 hu b0 b1;cases hv:gG m.ps b with
  |some v=>
   rw[hv]at hk;exact go (by intro _ _ z;cases z;rw[hv];rfl) hk (by simp[step,hv])
  |none=>
   rw[hv]at hk;have h2:=h.setL (Ca m.lk b);have ed:=j0 h q0 hu;have eh:=Iw (v:=first.getD b.toNat 0) h2 wf.h4 q0 hu g0 g1 ho hd;have h3:=h2.setI (m.hs.set g.toNat (first.getD b.toNat 0)) m.ps y;have e2:=h2.ei;have es:step w first m (.look g b)=⟨m.hs.set g.toNat (first.getD b.toNat 0),m.ps,Ca m.lk b⟩:=by simp[step,zk,hv]
   rw[es];refine⟨some (.int b),_,?_,h3,(Kp.set (by simp)).trans (.set (by simp))⟩;have fl:(zF m.lk).length<LIM:=by have:=(wf.few n0 n1).2;unfold zF LIM;simp;omega
   unfold dO at e e2;unfold fq.u at ed;simp only[Option.isSome_none]at hk;rwa[bG,bX,e,hk,ed,h.el,Dv,fl,if_true,e2,atF lf b0 b1,eh]
theorem Fy{a b:List U}{d d':Nat}{y z:U}(h:Cf cD w n.toNat i ll m (pt ds q A B) S)(q0:0<=q)(hu:ds[q.toNat]?=some (.tup [.str "try",.tup a,.tup b]))(ho:Onw d (pt b 0 (pt ds (q+1+0) A B) B) z)(hd:d<100)
  (ho':Onw d' (pt a 0 (pt ds (q+1+0) A B) (bk n.toNat m.hs m.ps z)) y) (hd':d'<100) :
  ∃S',bG cD F [some (.ref i),some (.tup (first.map U.int)),some (.ref ll),r3] S=some (.nx,[some (.ref i),some (.tup (first.map U.int)),some (.ref ll),r3],S')/\Cf cD w n.toNat i ll m y S'/\Kp [i,ll] S S':=by
 have e:=h.ei;have hk:=t9 h q0 hu (by decide +kernel);have ed:=MW h q0 hu ho hd ho' hd';refine⟨_,?_,h.setI m.hs m.ps y,.set (by simp)⟩;unfold dO at e;rwa[bG,bX,e,hk,ed]
theorem Bg{hs:List Int}{ps:List (Int×Int)}{y:U}(h:Cf cD w n.toNat i ll m (pt ds q A (bk n.toNat hs ps y)) S)(q0:0<=q)(hu:ds[q.toNat]?=some (fq.u .wait)) :
  ∃S',bG cD F [some (.ref i),some (.tup (first.map U.int)),some (.ref ll),r3] S=some (.nx,[some (.ref i),some (.tup (first.map U.int)),some (.ref ll),r3],S')/\Cf cD w n.toNat i ll ⟨hs,ps,m.lk⟩ y S'/\Kp [i,ll] S S':=by
 have e:=h.ei;have hk:=t9 h q0 hu (by decide +kernel);have ed:=BD h q0 hu (B1 h);refine⟨_,?_,h.setI hs ps y,.set (by simp)⟩;unfold dO at e;rwa[bG,bX,e,hk,ed]
theorem Iq(h:Cf cD w n.toNat i ll m (pt ds q A .non) S)(q0:0<=q)(hu:ds[q.toNat]?=some (fq.u .wait)) :
  bG cD F [some (.ref i),some (.tup (first.map U.int)),some (.ref ll),r3] S=some (.rt (.bl false),[some (.ref i),some (.tup (first.map U.int)),some (.ref ll),r3],S):=by
 have e:=h.ei;have hk:=t9 h q0 hu (by decide +kernel);have ed:=BD h q0 hu (B2 h);unfold dO at e;rwa[bG,bX,e,hk,ed]
end
def OnA(dep:Nat)(ds:List U)(A B:U):Prop:=∀p:Int,(ds.length:Int)<=p->∃y,Onw dep (pt ds p A B) y
theorem OnA.any{dep:Nat}{ds:List U}{A B:U}(h:OnA dep ds A B)(p:Int):∃y,Onw dep (pt ds p A B) y:=by
 by_cases c:p<ds.length
 ·exact⟨_,.stop c⟩
 ·exact h p (by omega)
def OnA.top{dep:Nat}{ds:List U}{B:U}:OnA dep ds .non B:=fun p _=>⟨_,.top⟩
theorem OnA.up{dep:Nat}{ds ds':List U}{q':Int}{A' B B' y:U}(h:Onw dep (pt ds' q' A' B') y):OnA (dep+1) ds (pt ds' q' A' B') B:=fun p hp=>⟨y,.up hp h⟩
theorem Onw.here{dep:Nat}{ds:List U}{q:Int}{A B x:U}(h:Onw dep (pt ds q A B) x)(c:q<ds.length):x=pt ds q A B:=by
 generalize e:pt ds q A B=z at h;cases h with
 |stop _=>rfl
 |top=>rfl
 |up h' _=>
  unfold pt at e;injection e with e;injection e with e1 e2;injection e1 with e1;injection e2 with e2 _;injection e2 with e2;subst e1 e2;omega
theorem Onw.upInv{dep:Nat}{ds ds':List U}{q q':Int}{A' B B' x:U}(h:Onw (dep+1) (pt ds q (pt ds' q' A' B') B) x)(c:(ds.length:Int)<=q):Onw dep (pt ds' q' A' B') x:=by
 generalize e:pt ds q (pt ds' q' A' B') B=z at h;generalize e0:dep+1=k at h;cases h with
 |stop h'=>
  unfold pt at e;injection e with e;injection e with e1 e2;injection e1 with e1;injection e2 with e2 _;injection e2 with e2;subst e1 e2;omega
 |top=>
  unfold pt at e;injection e with e;injection e with _ e;injection e with _ e;injection e with e _;cases e
 |up h' h2=>
  unfold pt at e;injection e with e;injection e with _ e;injection e with _ e;injection e with e _;injection e with e;injection e with e1 e;injection e1 with e1;injection e with e2 e;injection e2 with e2;injection e with e3 e;injection e with e4 _;subst e1 e2 e3 e4;cases e0;exact h2
section
variable{cD:Cl}{w n:Int}{first:List Int}{i ll F:Nat}
abbrev tG(cD:Cl):CT:=aL (cOp ik (bH cD (kJ cD) (ao 0) aD) (cC .non))
theorem sM{m:M}{ds us:List U}{q:Int}{A B:U}{S:Sto}{ρ:Rho}(h:Cf cD w n.toNat i ll m (pt ds q A B) S)(q0:0<=q)(hu:ds[q.toNat]?=some (.tup us)):tG cD (some (.ref i)::ρ) S=some (true,S):=by
 have e:=h.ei;have ed:=j0 h q0 hu;unfold dO at e;rwa[tG,e,ed,yP,Bj]
theorem C4{m:M}{ds:List U}{q:Int}{A B:U}{S:Sto}{ρ:Rho}(h:Cf cD w n.toNat i ll m (pt ds q A B) S)(hq:(ds.length:Int)<=q):tG cD (some (.ref i)::ρ) S=some (false,S):=by
 have e:=h.ei;have ed:=Ez h hq;unfold dO at e;rwa[tG,e,ed,yP,yo]
abbrev MQ(first:List Int)(i ll:Nat)(r3:Option U):Rho:=[some (.ref i),some (.tup (first.map U.int)),some (.ref ll),r3]
def Rch(cD:Cl)(F:Nat)(first:List Int)(i ll s:Nat)(S S':Sto):Prop:=∀r3,∃r3',∀fuel,d5 (tG cD) (bG cD F) (fuel+s) (MQ first i ll r3) S=d5 (tG cD) (bG cD F) fuel (MQ first i ll r3') S'
def Rch.refl{S:Sto}:Rch cD F first i ll 0 S S:=fun r3=>⟨r3,fun _=>rfl⟩
theorem Rch.trans{s t:Nat}{S S' S'':Sto}(a:Rch cD F first i ll s S S')(b:Rch cD F first i ll t S' S''):Rch cD F first i ll (s+t) S S'':=fun r3=>by
 obtain⟨r4,ha⟩:=a r3;obtain⟨r5,hb⟩:=b r4;exact⟨r5,fun fuel=>by rw[show fuel+(s+t)=fuel+t+s by omega,ha,hb]⟩
theorem Rch.one{S S':Sto}(ht:∀r3,tG cD (MQ first i ll r3) S=some (true,S))(h:∀r3,∃r3',bG cD F (MQ first i ll r3) S=some (.nx,MQ first i ll r3',S')):Rch cD F first i ll 1 S S':=fun r3=>by
 obtain⟨r4,h⟩:=h r3;exact⟨r4,fun fuel=>sG (ht r3) h⟩
def AtW(B x:U):Prop:=∃ds q A,x=pt ds q A B/\0<=q/\ds[q.toNat]?=some (fq.u .wait)
def QJ(dep:Nat)(ds:List U)(A B x:U):Bool->Prop
 |true=>∃p:Int,(ds.length:Int)<=p/\Onw dep (pt ds p A B) x
 |false=>AtW B x
def HrT{α:Type}(cD:Cl)(F:Nat)(w n:Int)(first:List Int)(i ll D c:Nat)(rn:List α->M->Bool×M)(f:α->U)(k:List α->Prop):Prop:=
 ∀(a:List α) (m:M) (dep:Nat) (A B x:U) (S:Sto),k a->Wf n m->dep<=D->OnA dep (a.map f) A B->Onw dep (pt (a.map f) 0 A B) x->Cf cD w n.toNat i ll m x S->
  Wf n (rn a m).2/\∃s x' S',s<=c/\Cf cD w n.toNat i ll (rn a m).2 x' S'/\Kp [i,ll] S S'/\Rch cD F first i ll s S S'/\QJ dep (a.map f) A B x' (rn a m).1
variable{α:Type}{rn:List α->M->Bool×M}{f:α->U}{k:List α->Prop}{D c:Nat}
theorem Dg(Hr:HrT cD F w n first i ll (D+1) c rn f k)(hD:D<=90)(lf:first.length=n.toNat)(w0:2<=w)(n0:0<=n)(n1:n<=6)(all:List (DF α))(oa:∀d∈all,d.ok n w k){dep:Nat}{A B:U}(hdep:dep<=D)(hA:OnA dep (all.map (DF.u f)) A B) :
  ∀(N place:Nat) (m:M) (x:U) (S:Sto),all.length-place<=N->Wf n m->Onw dep (pt (all.map (DF.u f)) place A B) x->Cf cD w n.toNat i ll m x S->
  Wf n (jc w first rn (all.drop place) 0 m).2/\∃s x' S',s<=N*(2*c+2)/\Cf cD w n.toNat i ll (jc w first rn (all.drop place) 0 m).2 x' S'/\Kp [i,ll] S S'/\Rch cD F first i ll s S S'/\QJ dep (all.map (DF.u f)) A B x' (jc w first rn (all.drop place) 0 m).1:=by
 intro N;induction N with
 |zero=>
  intro place m x S hN wf ho h;rw[List.drop_eq_nil_of_le (by omega),jc];exact⟨wf,0,x,S,X1 _,h,.refl,.refl,(place:Int),by simp;omega,ho⟩
 |succ N ih=>
  intro place m x S hN wf ho h;by_cases cl:place<all.length;case neg=>
   rw[List.drop_eq_nil_of_le (by omega),jc];exact⟨wf,0,x,S,X1 _,h,.refl,.refl,(place:Int),by simp;omega,ho⟩
  have hd:=ZR cl;have od:=oa _ (List.getElem_mem cl);generalize all[place]=d at hd od;rw[mC hd];have hx:=ho.here (by simp;omega);subst hx;have hu:(all.map (DF.u f))[(place:Int).toNat]?=some (d.u f):=by rw[Int.toNat_natCast,Zk,hd];rfl
  have q0:(0:Int)<=place:=by omega
  have c2:(N+1)*(2*c+2)=N*(2*c+2)+(2*c+2):=by rw[Nat.succ_mul]
  have goon:∀(p:Nat) (m':M) (x':U) (s1:Nat) (S1:Sto),place<p->Wf n m'->Onw dep (pt (all.map (DF.u f)) p A B) x'->Cf cD w n.toNat i ll m' x' S1->Kp [i,ll] S S1->s1<=2*c+2->Rch cD F first i ll s1 S S1->
    Wf n (jc w first rn (all.drop p) 0 m').2/\∃s x' S',s<=(N+1)*(2*c+2)/\Cf cD w n.toNat i ll (jc w first rn (all.drop p) 0 m').2 x' S'/\Kp [i,ll] S S'/\Rch cD F first i ll s S S'/\QJ dep (all.map (DF.u f)) A B x' (jc w first rn (all.drop p) 0 m').1:=by
   intro p m' x' s1 S1 hp wf1 ho1 h1 k1 l1 r1;obtain⟨wf2,s2,x2,S2,l2,h2,k2,r2,e2⟩:=ih p m' x' S1 (by omega) wf1 ho1 h1;exact⟨wf2,s1+s2,x2,S2,by omega,h2,k1.trans k2,r1.trans r2,e2⟩
  cases d with
  |pl d=>
   by_cases dw:d=.wait
   ·subst dw;rw[jc];exact⟨wf,0,_,S,X1 _,h,.refl,.refl,_,_,_,rfl,q0,hu⟩
   ·have lv0:0<=lv m d:=by
     cases d<;>simp only[lv]<;>try exact Int.le_refl _
     obtain⟨_,_,b,_⟩:=od;split<;>omega
    obtain⟨y,hy⟩:=hA.any ((place:Int)+1+lv m d);have e1:(place:Int)+1+lv m d=((place+1+(lv m d).toNat:Nat):Int):=by omega
    have one:∃S1,Rch cD F first i ll 1 S S1/\Cf cD w n.toNat i ll (step w first m d) y S1/\Kp [i,ll] S S1:=by
     obtain⟨_,S1,e0,h1,k1⟩:=yj (F:=F) (r3:=none) dw h wf lf w0 n0 n1 od q0 hu hy (by omega);refine⟨S1,.one (fun r3=>?_) (fun r3=>?_),h1,k1⟩
     ·obtain⟨x0,r0,ex⟩:=Kd d;exact sM h q0 (by rw[hu];simp only[DF.u];rw[ex])
     ·obtain⟨r4,S2,e2,h2,k2⟩:=yj (F:=F) (r3:=r3) dw h wf lf w0 n0 n1 od q0 hu hy (by omega);have es:S2=S1:=by
       refine X6 fun l=>?_;by_cases z1:l=i
       ·subst z1;rw[h2.ei,h1.ei]
       ·by_cases z2:l=ll
        ·subst z2;rw[h2.el,h1.el]
        ·rw[k2.old l (by simp[z1,z2]),k1.old l (by simp[z1,z2])]
      exact⟨r4,by rw[e2,es]⟩
    obtain⟨S1,r1,h1,k1⟩:=one;have er:jc w first rn (.pl d::all.drop (place+1)) 0 m=jc w first rn (all.drop (place+1+(lv m d).toNat)) 0 (step w first m d):=by
     cases d with
     |wait=>exact absurd rfl dw
     |leap g j=>
      rw[jc,uL,List.drop_drop];simp only[lv,step];split<;>simp
     |look g b=>rw[jc];simp[lv]
     |put g b=>rw[jc];simp[lv]
     |set g b=>rw[jc];simp[lv]
     |plus g b=>rw[jc];simp[lv]
    rw[er];rw[e1]at hy;exact goon _ _ y 1 S1 (by omega) (GI wf od) hy h1 k1 (by omega) r1
  |tr a b=>
   obtain⟨ka,kb⟩:=od;simp only[DF.u]at hu;obtain⟨yb,hyb⟩:=hA.any ((place:Int)+1+0);have onb:∀(ds:List U) (B':U),OnA (dep+1) ds (pt (all.map (DF.u f)) ((place:Int)+1+0) A B) B':=fun ds B'=>.up hyb;obtain⟨z,hz⟩:=(onb (b.map f) B).any 0;obtain⟨y,hy⟩:=(onb (a.map f) (bk n.toNat m.hs m.ps z)).any 0;have e1:(place:Int)+1+0=((place+1:Nat):Int):=by omega
   have one:∃S1,Rch cD F first i ll 1 S S1/\Cf cD w n.toNat i ll m y S1/\Kp [i,ll] S S1:=by
    obtain⟨S1,e0,h1,k1⟩:=Fy (F:=F) (first:=first) (r3:=none) h q0 hu hz (by omega) hy (by omega);refine⟨S1,.one (fun r3=>sM h q0 hu) (fun r3=>?_),h1,k1⟩;obtain⟨S2,e2,h2,k2⟩:=Fy (F:=F) (first:=first) (r3:=r3) h q0 hu hz (by omega) hy (by omega);have es:S2=S1:=by
     refine X6 fun l=>?_;by_cases z1:l=i
     ·subst z1;rw[h2.ei,h1.ei]
     ·by_cases z2:l=ll
      ·subst z2;rw[h2.el,h1.el]
      ·rw[k2.old l (by simp[z1,z2]),k1.old l (by simp[z1,z2])]
    exact⟨r3,by rw[e2,es]⟩
   obtain⟨S1,r1,h1,k1⟩:=one;obtain⟨wf2,s2,x2,S2,l2,h2,k2,r2,e2⟩:=Hr a m (dep+1) _ _ y S1 ka wf (by omega) (onb _ _) hy h1;rw[jc];unfold Kg;cases er:rn a m with
   |mk t m'=>
    rw[er]at wf2 h2 e2;cases t with
    |true=>
     obtain⟨p,hp,hp2⟩:=e2;have:=hp2.upInv hp;rw[e1]at this;exact goon (place+1) m' x2 (1+s2) S2 (by omega) wf2 this h2 (k1.trans k2) (by omega) (r1.trans r2)
    |false=>
     obtain⟨ds',q',A',rfl,q0',hw⟩:=e2;have back:∃S3,Rch cD F first i ll 1 S2 S3/\Cf cD w n.toNat i ll ⟨m.hs,m.ps,m'.lk⟩ z S3/\Kp [i,ll] S2 S3:=by
      obtain⟨S3,e0,h3,k3⟩:=Bg (F:=F) (first:=first) (r3:=none) h2 q0' hw;refine⟨S3,.one (fun r3=>sM h2 q0' hw) (fun r3=>?_),h3,k3⟩;obtain⟨S4,e4,h4,k4⟩:=Bg (F:=F) (first:=first) (r3:=r3) h2 q0' hw;have es:S4=S3:=by
       refine X6 fun l=>?_;by_cases z1:l=i
       ·subst z1;rw[h4.ei,h3.ei]
       ·by_cases z2:l=ll
        ·subst z2;rw[h4.el,h3.el]
        ·rw[k4.old l (by simp[z1,z2]),k3.old l (by simp[z1,z2])]
      exact⟨r3,by rw[e4,es]⟩
     obtain⟨S3,r3,h3,k3⟩:=back;obtain⟨wf4,s4,x4,S4,l4,h4,k4,r4,e4⟩:=Hr b ⟨m.hs,m.ps,m'.lk⟩ (dep+1) _ _ z S3 kb ⟨wf.h4,wf.pk,wf.pb,wf2.lk,wf2.lb⟩ (by omega) (onb _ _) hz h3;have kk:=((k1.trans k2).trans k3).trans k4;have rr:=((r1.trans r2).trans r3).trans r4;simp only;cases er2:rn b ⟨m.hs,m.ps,m'.lk⟩with
     |mk t2 m2=>
      rw[er2]at wf4 h4 e4;cases t2 with
      |true=>
       obtain⟨p,hp,hp2⟩:=e4;have:=hp2.upInv hp;rw[e1]at this;exact goon (place+1) m2 x4 (1+s2+1+s4) S4 (by omega) wf4 this h4 kk (by omega) rr
      |false=>exact⟨wf4,1+s2+1+s4,x4,S4,by omega,h4,kk,rr,e4⟩
theorem E8(Hr:HrT cD F w n first i ll (D+1) c rn f k)(hD:D<=90)(lf:first.length=n.toNat)(w0:2<=w)(n0:0<=n)(n1:n<=6):HrT cD F w n first i ll D (30*(2*c+2)) (fun ds m=>jc w first rn ds 0 m) (DF.u f) (fun ds=>ds.length<=30/\∀d∈ds,DF.ok n w k d):=by
 intro a m dep A B x S ka wf hdep hA ho h;exact Dg Hr hD lf w0 n0 n1 a ka.2 hdep hA 30 0 m x S (by omega) wf ho h
def cJ:Nat->Nat
 |0=>60
 |j+1=>30*(2*cJ j+2)
theorem AG(lf:first.length=n.toNat)(w0:2<=w)(n0:0<=n)(n1:n<=6):∀(j D:Nat),D+j<=90->HrT cD F w n first i ll D (cJ j) (uM w first j) (Dl.u j) (OkL n w j)
 |0,D,hD=>E8 (c:=0) (k:=fun _=>False) (fun a m dep A B x S ka=>ka.elim) (by omega) lf w0 n0 n1
 |j+1,D,hD=>E8 (k:=OkL n w j) (AG lf w0 n0 n1 j (D+1) (by omega)) (by omega) lf w0 n0 n1
def yN(cD:Cl):Fn:=fnU 4 3 (f7 (kJ cD) (oh cD) (yM cD) (FN cD) cD 20000000)
theorem IC{j:Nat}(hj:j<=3)(lf:first.length=n.toNat)(w0:2<=w)(n0:0<=n)(n1:n<=6)(ds:List (Dl j))(od:OkL n w j ds){m:M}{S:Sto}(wf:Wf n m)(h:Cf cD w n.toNat i ll m (pt (ds.map (Dl.u j)) 0 .non .non) S) :
  Wf n (uM w first j ds m).2/\∃x' S',yN cD [.ref i,.tup (first.map U.int),.ref ll] S=some (.bl (uM w first j ds m).1,S')/\Cf cD w n.toNat i ll (uM w first j ds m).2 x' S'/\Kp [i,ll] S S':=by
 obtain⟨wf1,s,x',S',ls,h1,k1,r1,e1⟩:=AG (cD:=cD) (F:=20000000) (i:=i) (ll:=ll) lf w0 n0 n1 j 0 (by omega) ds m 0 .non .non _ S od wf (ZD _) .top .top h;refine⟨wf1,x',S',?_,h1,k1⟩;have hc:cJ j<=13179660:=by
  have:j=0\/j=1\/j=2\/j=3:=by omega
  rcases this with rfl|rfl|rfl|rfl<;>decide
 obtain⟨r3,r1⟩:=r1 none;have r2:=r1 (20000000-s);rw[show 20000000-s+s=20000000 by omega]at r2;unfold yN;rw[Qs];obtain⟨fl,hfl⟩:∃fl,20000000-s=fl+1:=⟨20000000-s-1,by omega⟩;rw[hfl]at r2;cases er:(uM w first j ds m).1 with
 |true=>
  rw[er]at e1;obtain⟨p,hp,ho⟩:=e1;have hx:x'=pt (ds.map (Dl.u j)) p .non .non:=by
   generalize ez:pt (ds.map (Dl.u j)) p .non .non=z at ho;cases ho with
   |stop _=>rfl
   |top=>rfl
  subst hx;have ht:=C4 (ρ:=[some (.tup (first.map U.int)),some (.ref ll),r3]) h1 hp;have r4:=r2.trans (lZ ht);rwa[f7,r4]
 |false=>
  rw[er]at e1;obtain⟨ds',q',A',rfl,q0',hw⟩:=e1;have ht:=sM (ρ:=[some (.tup (first.map U.int)),some (.ref ll),r3]) h1 q0' hw;have r4:=r2.trans (CY ht (Iq h1 q0' hw));rwa[f7,r4]
end
def prs:List (Option Int)->Nat->List (Int×Int)
 |[],_=>[]
 |none::r,k=>prs r (k+1)
 |some v::r,k=>((k:Int),v)::prs r (k+1)
def oq(n:Nat)(ps:List (Int×Int)):List (Option Int):=(List.range n).map fun b:Nat=>gG ps (b:Int)
def ou:Option Int->U
 |none=>.non
 |some v=>.int v
theorem IG{n:Nat}{ps:List (Int×Int)}:wZ n ps=(oq n ps).map ou:=by
 unfold wZ oq;rw[XX];refine List.map_congr_left fun b _=>?_;simp only[Function.comp];cases gG ps (b:Int)<;>rfl
def pU(p:Int×Int):U:=.tup [.int p.1,.int p.2]
theorem zH{ok:Sto->Prop}{g:CG}{ct:CT}{ce:CE}{l:Nat}{ρ:Rho}{S:Sto}(h:ok S):dY ok g ct ce l [] ρ S=some S:=by rw[dY,if_pos h]
theorem BP{ok:Sto->Prop}{g:CG}{ct:CT}{ce:CE}{l:Nat}{ρ ρ0:Rho}{S S0 S1:Sto}{u:U}{us:List U}(h:ok S)(hg:g u ρ S=some (ρ0,S0))(ht:ct ρ0 S0=some (false,S1)):dY ok g ct ce l (u::us) ρ S=dY ok g ct ce l us ρ0 S1:=by
 rw[dY,if_pos h,hg,Z8,ht,Z8,if_neg ZL]
theorem zG{ok:Sto->Prop}{g:CG}{ct:CT}{ce:CE}{l:Nat}{ρ ρ0:Rho}{S S0 S1 S2:Sto}{u x:U}{us ys:List U}(h:ok S)(hg:g u ρ S=some (ρ0,S0))(ht:ct ρ0 S0=some (true,S1))(he:ce ρ0 S1=some (x,S2))(hl:S2[l]?=some (.lst ys))(hn:ys.length<LIM) :
  dY ok g ct ce l (u::us) ρ S=dY ok g ct ce l us ρ0 (S2.set l (.lst (ys++[x]))):=by
 rw[dY,if_pos h,hg,Z8,ht,Z8,if_pos rfl,he,Z8];simp only[hl,hn,if_true]
theorem wb(S:Sto):∀(qs:List (Option Int)) (k:Nat) (ys:List (Int×Int)) (r0 r1:Option U),ys.length+qs.length<=1000->
  dY (fun _=>True) (gTp [0,1]) (aL (cOp ik (ao 1) (cC .non))) (jw (ag (ao 0) (ag (ao 1) aD))) S.length (((qs.map ou).zipIdx k).map fun p=>.tup [.int p.2,p.1]) [r0,r1] (S++[.lst (ys.map pU)])
   = some (S++[.lst ((ys++prs qs k).map pU)])
 |[],k,ys,r0,r1,hl=>by
  simp only[Ze,List.zipIdx_nil,prs,Zu];exact zH trivial
 |none::qs,k,ys,r0,r1,hl=>by
  have ih:=wb S qs (k+1) ys (some (.int k)) (some .non) (by simp at hl ⊢;omega);simp only[ZG,List.zipIdx_cons,prs,ou];refine(BP (ρ0:=[some (.int k),some .non]) (S0:=S++[.lst (ys.map pU)]) (S1:=S++[.lst (ys.map pU)]) trivial rfl ?_).trans ih;rwa[yP,yo]
 |some v::qs,k,ys,r0,r1,hl=>by
  have ih:=wb S qs (k+1) (ys++[((k:Int),v)]) (some (.int k)) (some (.int v)) (by simp at hl ⊢;omega);simp only[ZG,List.zipIdx_cons,prs,ou];refine(zG (ρ0:=[some (.int k),some (.int v)]) (S0:=S++[.lst (ys.map pU)]) (S1:=S++[.lst (ys.map pU)]) (S2:=S++[.lst (ys.map pU)]) (x:=pU (k,v)) (ys:=ys.map pU) trivial rfl ?_ ?_ ?_ (by simp at hl ⊢;unfold LIM;omega)).trans ?_
  ·rwa[yP,MG]
  ·rwa[pU]
  ·rwa[]
  ·have e5:(S++[O.lst (ys.map pU)]).set S.length (.lst (ys.map pU++[pU ((k:Int),v)]))=S++[.lst ((ys++[((k:Int),v)]).map pU)]:=by
    rwa[Zp,ZG,Ze]
   rw[e5,ih];simp
section
variable{cD:Cl}{w n:Int}{first:List Int}{i ll:Nat}{m:M}{x:U}{S:Sto}
def NN(cD:Cl):Fn:=fnU 1 1 (fR cD)
def ppL(n:Int)(m:M):List (Int×Int):=prs (oq n.toNat m.ps) 0
theorem Pu(h:Cf cD w n.toNat i ll m x S)(n1:n<=6):NN cD [.ref i] S=some (.ref S.length,S++[.lst ((ppL n m).map pU)]):=by
 unfold NN;rw[qD];have e:=h.ei;unfold dO at e;have hb:=wb S (oq n.toNat m.ps) 0 [] none none (by simp[oq];omega);simp only[Zo,Ze]at hb;rw[IG]at e;unfold ppL;rwa[fR,t4,zq,GO,zE,vF,e,hb,ZU]
theorem v7:∀(qs:List (Option Int)) (k:Nat) (p:Int×Int),p∈prs qs k->∃j:Nat,p.1=((k+j:Nat):Int)/\qs[j]?=some (some p.2)
 |[],k,p,h=>by simp[prs]at h
 |none::r,k,p,h=>by
  obtain⟨j,e1,e2⟩:=v7 r (k+1) p (by simpa [prs] using h);exact⟨j+1,by rw[e1];omega,by simpa using e2⟩
 |some v::r,k,p,h=>by
  simp only[prs,Zx]at h;rcases h with rfl|h
  ·exact⟨0,by simp,by simp⟩
  ·obtain⟨j,e1,e2⟩:=v7 r (k+1) p h;exact⟨j+1,by rw[e1];omega,by simpa using e2⟩
theorem LS{ps:List (Int×Int)}{j:Nat}{v:Int}:(oq n.toNat ps)[j]?=some (some v)↔(j<n.toNat/\gG ps (j:Int)=some v):=by
 unfold oq;rw[Zk];by_cases c:j<n.toNat
 ·rw[XG c];simp[c]
 ·rw[Zm (by simpa using c)];simp[c]
theorem Ht{p:Int×Int}(h:p∈ppL n m):0<=p.1/\p.1<n/\gG m.ps p.1=some p.2:=by
 obtain⟨j,e1,e2⟩:=v7 _ _ _ h;obtain⟨e3,e4⟩:=LS.mp e2;rw[Nat.zero_add]at e1;rw[e1];exact⟨by omega,by omega,e4⟩
theorem tQ:∀(qs:List (Option Int)) (k:Nat) (R:List Int) (j:Nat),((prs qs k).foldl (fun r p=>r.set p.1.toNat p.2) R)[j]?=(R[j]?).map fun x=>if k<=j then((qs[j-k]?).join).getD x else x
 |[],k,R,j=>by simp[prs]
 |none::r,k,R,j=>by
  rw[prs,tQ r (k+1) R j];congr 1;funext x;by_cases h1:k+1<=j
  ·rw[if_pos h1,if_pos (by omega),show j-k=j-(k+1)+1 by omega,List.getElem?_cons_succ]
  ·rw[if_neg h1];by_cases h2:k<=j
   ·rw[if_pos h2,show j-k=0 by omega];simp
   ·rw[if_neg h2]
 |some v::r,k,R,j=>by
  rw[prs,List.foldl_cons,tQ r (k+1) _ j];simp only[Int.toNat_natCast];by_cases h1:k+1<=j
  ·rw[ZH (by omega)];congr 1;funext x;rw[if_pos h1,if_pos (by omega),show j-k=j-(k+1)+1 by omega,List.getElem?_cons_succ]
  ·by_cases h2:k=j
   ·subst h2;rw[List.getElem?_set_self'];cases R[k]? with
    |none=>rfl
    |some z=>simp;intro h;omega
   ·rw[ZH h2];congr 1;funext x;rw[if_neg h1,if_neg (by omega)]
theorem Ej(lf:first.length=n.toNat):(ppL n m).foldl (fun r p=>r.set p.1.toNat p.2) first=beh first m.ps 0:=by
 refine X6 fun j=>?_;unfold ppL;rw[tQ];by_cases c:j<first.length
 ·rw[IS _ _ _ _ c,ZR c];have e:(oq n.toNat m.ps)[j]?=some (gG m.ps (j:Int)):=by unfold oq;rw[Zk,XG (by omega)];rfl
  simp only[XQ,X1,if_true,Nat.sub_zero,e,Option.join_some,Nat.zero_add,Zs,ZR c,XH]
 ·rw[Zm (l:=first) (by omega),Zm (l:=beh first m.ps 0) (by rw[xl];omega)];rfl
end
section
variable{cD:Cl}{w n:Int}{first:List Int}
def yK(cD:Cl):Fn:=fnU 3 3 (j6 zO cD)
theorem Ir{S0:Sto}{ds:List U}(n0:1<=n)(n1:n<=6):yK cD [.ref S0.length,.tup [.int n,.int w],.tup ds] (S0++[.ins cD [none,none,none,none]])=some (.non,S0++[dO cD w n.toNat m0 (pt ds 0 .non .non)]):=by
 unfold yK;rw[BC];have eo:∀S:Sto,zO [.tup [.tup ds,.int 0,.non,.non]] S=some (.tup [.tup ds,.int 0,.non,.non],S):=fun S=>xZ (d:=0) (.top:Onw 0 (pt ds 0 .non .non) _) (by decide);have em:∀S:Sto,Bu (.tup [.non]) (.int n) S=some (.tup (wZ n.toNat []),S):=fun S=>by
  unfold Bu;simp only;rw[if_pos ⟨by simp,n0,by simp;omega⟩,Et];congr 3;induction n.toNat with
  |zero=>rfl
  |succ k ih=>rw[X3,X3,XR,ih];rfl
 unfold dO pt m0;rwa[j6,em,eo]
theorem Ax{S:Sto}{ll:Nat}{lk:List Int}(h:S[ll]?=some (.dic (zF lk)))(hl:lk.length<64):qw [.ref ll] S=some (.ref S.length,S++[.lst ((oo lk).map U.int)]):=by
 simp only[qw,h,vb,Z8,hl,if_true]
theorem Mo{S0:Sto}{X:Sto}{S':Sto}{a b:Nat}(k:Kp [a,b] (S0++X) S')(ha:S0.length<=a)(hb:S0.length<=b):∃Y,S'=S0++Y/\Y.length=X.length:=by
 obtain⟨Y,rfl⟩:=MM (ls:=[]) (S0:=S0) (S':=S') (by have:=k.len;simp at this;omega) fun l hl=>by
  rw[k.old l (by simp;omega),Zq hl]
 exact⟨Y,rfl,by have:=k.len;simp at this;omega⟩
def wf0:Wf n m0:=⟨rfl,by simp[m0],by simp[m0],by simp[m0],by simp[m0]⟩
def gF(cD:Cl):Fn:=fnU 8 3 (tZ (yN cD) (NN cD) (yK cD) cD)
theorem B8{x3 x4:Option U}{lr lp:Nat}{us:List U}{xs:U}{ys:U}{f1 f2 f3:Fn}:∀(ps:List (Int×Int)) (R:List Int) (S:Sto) (r6 r7:Option U),S[lr]?=some (.lst (R.map U.int))->S[lp]?=some (.lst us)->lr≠lp->(∀p∈ps,0<=p.1/\p.1<R.length)->
  ∃r6' r7',fv (fun S=>S[lp]?=some (.lst us)) (gTp [6,7]) (qO f1 f2 f3 cD) (ps.map pU) [some xs,some ys,some (.tup (first.map U.int)),x3,x4,some (.ref lr),r6,r7] S
   = some (.nx,[some xs,some ys,some (.tup (first.map U.int)),x3,x4,some (.ref lr),r6',r7'],S.set lr (.lst ((ps.foldl (fun r p=>r.set p.1.toNat p.2) R).map U.int)))
 |[],R,S,r6,r7,h1,h2,ne,_=>⟨r6,r7,by rw[Ze,iL h2,List.foldl_nil,Dc h1]⟩
 |p::ps,R,S,r6,r7,h1,h2,ne,hb=>by
  obtain⟨b0,b1⟩:=hb p ZE;have h1':(S.set lr (.lst ((R.set p.1.toNat p.2).map U.int)))[lr]?=some (.lst ((R.set p.1.toNat p.2).map U.int)):=Zr (gf h1);obtain⟨r6',r7',ih⟩:=B8 (x3:=x3) (x4:=x4) (lr:=lr) (lp:=lp) (us:=us) (xs:=xs) (ys:=ys) (f1:=f1) (f2:=f2) (f3:=f3) ps (R.set p.1.toNat p.2) (S.set lr (.lst ((R.set p.1.toNat p.2).map U.int))) (some (.int p.1)) (some (.int p.2)) h1' (by rw[ZH ne];exact h2) ne fun q hq=>by rw[List.length_set];exact hb q (ZJ _ hq)
  rw[List.set_set]at ih;refine⟨r6',r7',?_⟩;rw[ZG,List.foldl_cons];refine(dz h2 (ρ0:=[some xs,some ys,some (.tup (first.map U.int)),x3,x4,some (.ref lr),some (.int p.1),some (.int p.2)]) (S0:=S) (by rwa[pU]) ?_).trans ih;have ix:ixN (R.map U.int).length p.1=some p.1.toNat:=by unfold ixN;rw[if_pos b0,if_pos (by simp;omega)]
  rwa[qO,h1,ix,map_set]
theorem yD{j:Nat}(hj:j<=3)(S0:Sto)(hns:cD.ns.length=4)(ds:List (Dl j))(od:OkL n w j ds)(lf:first.length=n.toNat)(n0:1<=n)(n1:n<=6)(w0:2<=w) :
  Wf n (uM w first j ds m0).2/\∃G l,gF cD [.tup [.int n,.int w],.tup (ds.map (Dl.u j)),.tup (first.map U.int)] S0=some (told (uM w first j ds m0) first l,S0++G)/\((uM w first j ds m0).1=false->(S0++G)[l]?=some (.lst ((oo (uM w first j ds m0).2.lk).map U.int))/\S0.length<=l):=by
 have c0:Cf cD w n.toNat S0.length (S0.length+1) m0 (pt (ds.map (Dl.u j)) 0 .non .non) (S0++[dO cD w n.toNat m0 (pt (ds.map (Dl.u j)) 0 .non .non),.dic []]):=⟨by rw[ga0];rfl,by rw[ga];rfl⟩;obtain⟨wf,x',S',eg,c1,k1⟩:=IC hj lf w0 (by omega) n1 ds od wf0 c0;refine⟨wf,?_⟩;have hi:=Ir (cD:=cD) (w:=w) (S0:=S0) (ds:=ds.map (Dl.u j)) n0 n1;obtain⟨Y,rfl,lY⟩:=Mo k1 (ZD _) (by omega);have lk6:=(wf.few (by omega) n1).2;unfold gF;rw[Qo];have es:=Ax c1.el (by omega);unfold told;cases er:uM w first j ds m0 with
 |mk t m=>
  rw[er]at eg c1 es lk6 wf;cases t with
  |false=>
   refine⟨Y++[.lst ((oo m.lk).map U.int)],S0.length+Y.length,?_,fun _=>⟨?_,by omega⟩⟩
   ·simp only[ZY,ZV]at es;rwa[tZ,xw,hns,ZU,hi,eg,es,ZY]
   ·rw[<-ZV,<-ZY,ga0];rfl
  |true=>
   have c2:Cf cD w n.toNat S0.length (S0.length+1) m x' (S0++(Y++[.lst (first.map U.int)])):=by rw[<-ZV];exact⟨aX c1.ei,aX c1.el⟩
   have ep:=Pu c2 n1;have ei:=c2.ei;have c3:Cf cD w n.toNat S0.length (S0.length+1) m x' (S0++(Y++[.lst ((beh first m.ps 0).map U.int),.lst ((ppL n m).map pU)])):=by rw[<-ZV];exact⟨aX c1.ei,aX c1.el⟩
   have e3:=c3.ei;obtain⟨r6,r7,el⟩:=B8 (first:=first) (cD:=cD) (f1:=yN cD) (f2:=NN cD) (f3:=yK cD) (x3:=some (.ref S0.length)) (x4:=some (.ref (S0.length+1))) (xs:=.tup [.int n,.int w]) (ys:=.tup (ds.map (Dl.u j))) (lr:=S0.length+Y.length) (lp:=S0.length+(Y.length+1)) (us:=(ppL n m).map pU) (ppL n m) first (S0++(Y++[.lst (first.map U.int),.lst ((ppL n m).map pU)])) none none
    (by rw[<-ZV,<-ZY,ga0];rfl) (by rw[<-ZV,<-Nat.add_assoc,<-ZY,ga];rfl) (by omega) (fun p hp=>by obtain⟨a,b,_⟩:=Ht hp;omega)
   rw[Ej lf]at el;have gset:(S0++(Y++[O.lst (first.map U.int),.lst ((ppL n m).map pU)])).set (S0.length+Y.length) (.lst ((beh first m.ps 0).map U.int))=S0++(Y++[.lst ((beh first m.ps 0).map U.int),.lst ((ppL n m).map pU)]):=by
    rw[gs,gs0];rfl
   rw[gset]at el;have gl:(S0++(Y++[O.lst (first.map U.int),.lst ((ppL n m).map pU)]))[S0.length+(Y.length+1)]?=some (.lst ((ppL n m).map pU)):=by rw[<-ZV,<-Nat.add_assoc,<-ZY,ga];rfl
   have gr:(S0++(Y++[O.lst ((beh first m.ps 0).map U.int),.lst ((ppL n m).map pU)]))[S0.length+Y.length]?=some (.lst ((beh first m.ps 0).map U.int)):=by rw[<-ZV,<-ZY,ga0];rfl
   refine⟨Y++[.lst ((beh first m.ps 0).map U.int),.lst ((ppL n m).map pU)],0,?_,fun z=>by cases z⟩;simp only[ZY,ZV,ZT,List.length_nil,Nat.zero_add,Zt,Zo]at ep;unfold dO at ei e3;rwa[tZ,xw,hns,ZU,hi,eg,ep,ei,oX,iTp,el,e3,gl,gr,ZY]
end
def sS:decide (("done":Str)="waits")=false:=by decide +kernel
def Lay(k:Nat)(S:Sto)(u:U):Prop:=∃d,Dt S u d/\d.canLay0=true/\d.depth<=k
def nC(k:Nat)(S:Sto)(u v:U):Prop:=∃d,Dt S u d/\Dt S v d/\d.canLay0=true/\d.depth<=k
def ke(k:Nat)(S:Sto)(us vs:List U):Prop:=∃ds,DtL S us ds/\DtL S vs ds/\PyData.canLayAll0 ds=true/\PyData.depthAll ds<=k
section
variable{k:Nat}{S:Sto}{u v:U}{us vs:List U}
def Lay.str{x:Str}(h:PyData.strOk x=true):Lay k S (.str x):=⟨_,.str x,h,X1 _⟩
def nC.refl(h:Lay k S u):nC k S u u:=by obtain⟨d,a,b,c⟩:=h;exact⟨d,a,a,b,c⟩
def ke.nil:ke k S [] []:=⟨[],.nil,.nil,rfl,X1 _⟩
theorem ke.cons(h:nC k S u v)(t:ke k S us vs):ke k S (u::us) (v::vs):=by
 obtain⟨d,a,b,c,e⟩:=h;obtain⟨ds,a',b',c',e'⟩:=t;refine⟨d::ds,.cons a a',.cons b b',by unfold PyData.canLayAll0;rw[c,c'];rfl,?_⟩;unfold PyData.depthAll;exact Nat.max_le.mpr ⟨e,e'⟩
theorem ke.all:∀{us:List U},(∀u∈us,Lay k S u)->ke k S us us
 |[],_=>.nil
 |u::us,h=>.cons (.refl (h u ZE)) (ke.all fun x hx=>h x (ZJ _ hx))
theorem nC.tup(h:ke k S us vs):nC (k+1) S (.tup us) (.tup vs):=by
 obtain⟨ds,a,b,c,e⟩:=h;refine⟨.tuple ds,.tup a,.tup b,by unfold PyData.canLay0;exact c,?_⟩;unfold PyData.depth;omega
theorem nC.lst{l l':Nat}(h1:S[l]?=some (.lst us))(h2:S[l']?=some (.lst vs))(h:ke k S us vs):nC (k+1) S (.ref l) (.ref l'):=by
 obtain⟨ds,a,b,c,e⟩:=h;refine⟨.list ds,.lst h1 a,.lst h2 b,by unfold PyData.canLay0;exact c,?_⟩;unfold PyData.depth;omega
theorem Lay.tup(h:∀u∈us,Lay k S u):Lay (k+1) S (.tup us):=by
 obtain⟨d,a,_,b,c⟩:=nC.tup (ke.all h);exact⟨d,a,b,c⟩
theorem nC.ne(h:nC k S u v)(hk:k<=60):El true u v S=some (.bl false,S):=by
 obtain⟨d,a,b,c,e⟩:=h;exact wV true (.inl ⟨d,d,a,b,⟨c,Zl e hk⟩,⟨c,Zl e hk⟩,(SeqAt.eqv_refl d c).symm⟩)
end
inductive Jk where
 |done (st:List Int)|waits (pl:Nat) (lk:List Int)
def qT{j:Nat}(w:Int)(Ds:List (List (Dl j))):List Int->Nat->List Int->Jk
 |[],_,st=>.done st
 |o::os,k,st=>match uM w st j (Ds.getD o.toNat []) m0 with
  |(true,m)=>qT w Ds os (k+1) (beh st m.ps 0)
  |(false,m)=>.waits k m.lk
def yZ(r:Jk)(l:Nat):U:=match r with
 |.done st=>.tup [.str "done",.tup (st.map U.int)]
 |.waits k _=>.tup [.str "waits",.int k,.ref l]
def EN(n:Int)(S:Sto)(l:Nat):Jk->Prop
 |.done st=>st.length=n.toNat
 |.waits _ lk=>S[l]?=some (.lst ((oo lk).map U.int))/\lk.length<=6
def dlU{j:Nat}(d:List (Dl j)):U:=.tup (d.map (Dl.u j))
section
variable{cD:Cl}{n w:Int}{j:Nat}{Ds:List (List (Dl j))}{ld lo:Nat}{x2:Option U}{us:List U}
theorem IK{o:Int}(o0:0<=o)(o1:o<Ds.length):atI (Ds.map dlU) o=some (dlU (Ds.getD o.toNat [])):=by
 have hk:o.toNat<Ds.length:=by omega
 refine sy o0 ?_;rw[Zk,ZR hk,Zs,ZR hk];rfl
theorem Qv{o:Int}(hd:∀d∈Ds,OkL n w j d)(o0:0<=o)(o1:o<Ds.length):OkL n w j (Ds.getD o.toNat []):=by
 have hk:o.toNat<Ds.length:=by omega
 rw[Zs,ZR hk];exact hd _ (List.getElem_mem hk)
def Cj(cD:Cl):Fn:=fnU 8 4 (oW (gF cD))
theorem sj(hj:j<=3)(hns:cD.ns.length=4)(n0:1<=n)(n1:n<=6)(w0:2<=w)(hd:∀d∈Ds,OkL n w j d):∀(os:List Int) (k:Nat) (st:List Int) (S:Sto) (r5 r6 r7:Option U),S[ld]?=some (.lst (Ds.map dlU))->S[lo]?=some (.lst us)->(∀o∈os,0<=o/\o<(Ds.length:Int))->st.length=n.toNat->
  ∃X ρ l,EN n (S++X) l (qT w Ds os k st)/\S.length<=l/\(match qT w Ds os k st with
   |.done st'=>∃r5 r6 r7,fv (fun S=>S[lo]?=some (.lst us)) (gTp [5,6]) (fU (gF cD)) (((os.map U.int).zipIdx k).map fun p=>.tup [.int p.2,p.1]) ρ S=some (.nx,[some (.tup [.int n,.int w]),some (.ref ld),x2,some (.ref lo),some (.tup (st'.map U.int)),r5,r6,r7],S++X)
   |.waits k' lk=>∃ρ',fv (fun S=>S[lo]?=some (.lst us)) (gTp [5,6]) (fU (gF cD)) (((os.map U.int).zipIdx k).map fun p=>.tup [.int p.2,p.1]) ρ S=some (.rt (yZ (.waits k' lk) l),ρ',S++X))/\ρ=[some (.tup [.int n,.int w]),some (.ref ld),x2,some (.ref lo),some (.tup (st.map U.int)),r5,r6,r7]
 |[],k,st,S,r5,r6,r7,h1,h2,ho,hs=>⟨[],_,S.length,hs,ZD _,⟨r5,r6,r7,by rw[Zu];exact iL h2⟩,rfl⟩
 |o::os,k,st,S,r5,r6,r7,h1,h2,ho,hs=>by
  obtain⟨o0,o1⟩:=ho o ZE;obtain⟨wf,G,l,e1,g1⟩:=yD (cD:=cD) hj S hns (Ds.getD o.toNat []) (Qv hd o0 o1) hs n0 n1 w0;have ea:=IK o0 o1;have k6:=(wf.few (by omega) n1).2;rw[qT];cases er:uM w st j (Ds.getD o.toNat []) m0 with
  |mk t m=>
   rw[er]at e1 g1 k6;simp only[dlU]at ea;cases t with
   |true=>
    dsimp only[told]at e1;obtain⟨X,ρ,l',rk,ll,rm,rfl⟩:=sj hj hns n0 n1 w0 hd os (k+1) (beh st m.ps 0) (S++G) (some (.int k)) (some (.int o)) (some (.tup [.str "done",.tup ((beh st m.ps 0).map U.int),.tup (m.hs.map U.int)])) (aX h1) (aX h2) (fun x hx=>ho x (ZJ _ hx)) (by rw[xl];exact hs);refine⟨G++X,_,l',by rw[<-ZV];exact rk,by simp at ll;omega,?_,rfl⟩;have one:fv (fun S=>S[lo]?=some (.lst us)) (gTp [5,6]) (fU (gF cD)) ((((o::os).map U.int).zipIdx k).map fun p=>.tup [.int p.2,p.1]) [some (.tup [.int n,.int w]),some (.ref ld),x2,some (.ref lo),some (.tup (st.map U.int)),r5,r6,r7] S
      = fv (fun S=>S[lo]?=some (.lst us)) (gTp [5,6]) (fU (gF cD)) (((os.map U.int).zipIdx (k+1)).map fun p=>.tup [.int p.2,p.1]) [some (.tup [.int n,.int w]),some (.ref ld),x2,some (.ref lo),some (.tup ((beh st m.ps 0).map U.int)),some (.int k),some (.int o),some (.tup [.str "done",.tup ((beh st m.ps 0).map U.int),.tup (m.hs.map U.int)])] (S++G):=by
     simp only[ZG,List.zipIdx_cons];refine dz h2 rfl ?_;rwa[fU,h1,ea,e1,sS]
    dsimp only;cases er2:qT w Ds os (k+1) (beh st m.ps 0)with
    |done st'=>
     rw[er2]at rm;obtain⟨a,b,c,e⟩:=rm;exact⟨a,b,c,by rw[one,e,ZV]⟩
    |waits k' lk=>
     rw[er2]at rm;obtain⟨ρ',e⟩:=rm;exact⟨ρ',by rw[one,e,ZV]⟩
   |false=>
    dsimp only[told]at e1;obtain⟨g2,g3⟩:=g1 rfl;refine⟨G,_,l,⟨g2,k6⟩,g3,⟨[some (.tup [.int n,.int w]),some (.ref ld),x2,some (.ref lo),some (.tup (st.map U.int)),some (.int k),some (.int o),some (.tup [.str "waits",.ref l])],?_⟩,rfl⟩;simp only[ZG,List.zipIdx_cons,yZ];refine Ig h2 rfl ?_;rwa[fU,h1,ea,e1,eq_self]
theorem Eb(hj:j<=3)(hns:cD.ns.length=4)(n0:1<=n)(n1:n<=6)(w0:2<=w)(hd:∀d∈Ds,OkL n w j d)(os:List Int)(st:List Int)(S:Sto)(h1:S[ld]?=some (.lst (Ds.map dlU)))(h2:S[lo]?=some (.lst (os.map U.int)))(ho:∀o∈os,0<=o/\o<(Ds.length:Int))(hs:st.length=n.toNat) :
  ∃X l,EN n (S++X) l (qT w Ds os 0 st)/\S.length<=l/\Cj cD [.tup [.int n,.int w],.ref ld,.tup (st.map U.int),.ref lo] S=some (yZ (qT w Ds os 0 st) l,S++X):=by
 unfold Cj;rw[Qn];obtain⟨X,ρ,l,rk,ll,rm,rfl⟩:=sj (cD:=cD) (x2:=some (.tup (st.map U.int))) (us:=os.map U.int) (ld:=ld) (lo:=lo) hj hns n0 n1 w0 hd os 0 st S none none none h1 h2 ho hs;refine⟨X,l,rk,ll,?_⟩;have es:GO (.ref lo) S=some (os.map U.int,fun S=>S[lo]?=some (.lst (os.map U.int))):=by simp only[GO,h2]
 cases er:qT w Ds os 0 st with
 |done st'=>
  rw[er]at rm;obtain⟨a,b,c,e⟩:=rm;rwa[oW,oX,zq,es,zE,e,yZ]
 |waits k' lk=>
  rw[er]at rm;obtain⟨ρ',e⟩:=rm;rwa[oW,oX,zq,es,zE,e,yZ]
end
end OQ
namespace OL
open PySem PySem.Spec PyProof.Rows L2 OG OP OQ
def top(i:Nat):Zw:=PySem.Challenge.pw_oneglance_k62_desk_keeps_dealings.main.body.getD i (.Pass ⟨0,0,0,0⟩)
abbrev jQ:Zw:=bL (top 2) 0
abbrev jU:Zw:=bL (top 2) 1
abbrev jV:Zw:=bL (top 2) 2
abbrev jT:Zw:=bL (top 2) 3
abbrev hJ:Zw:=bL (top 2) 4
abbrev jR:Zw:=bL (top 2) 5
abbrev eD:Zw:=bL (top 2) 6
abbrev fF:Zw:=bL (top 2) 7
abbrev fG:Zw:=bL (top 2) 8
abbrev fE:Zw:=bL (top 2) 9
abbrev fD:Zw:=bL (top 2) 10
abbrev pZ:Zw:=top 3
abbrev p4:Zw:=top 4
abbrev iT:Zw:=top 5
abbrev vU:Zw:=top 6
abbrev sW:Zw:=top 15
abbrev mS:Zw:=top 17
abbrev kW:Zw:=top 18
abbrev kX:Zw:=top 25
abbrev jl:Zw:=bL (top 29) 0
abbrev jk:Zw:=bL (top 29) 1
abbrev iX:Zw:=bL (top 29) 2
abbrev iW:Zw:=bL (top 29) 3
abbrev fC:Zw:=bL (top 29) 4
abbrev fB:Zw:=bL (top 29) 5
abbrev eS:Zw:=bL (top 29) 6
abbrev fA:Zw:=bL (top 29) 7
abbrev dS:Zw:=bL (top 29) 8
abbrev kS:Zw:=top 30
abbrev iS:Zw:=top 31
abbrev mR:Zw:=top 42
abbrev mU:Zw:=top 43
abbrev lA:Zw:=bL (top 56) 0
abbrev kh:Zw:=bL (top 56) 1
abbrev gu:Zw:=bL (top 56) 3
abbrev eU:Zw:=bL (top 56) 4
abbrev gx:Zw:=bL (top 56) 5
abbrev d9:Zw:=bL (top 56) 6
abbrev iY:Zw:=bL (top 56) 7
abbrev eV:Zw:=bL (top 56) 12
abbrev sX:Zw:=top 57
abbrev mQ:Zw:=top 58
abbrev sV:Zw:=top 59
abbrev mV:Zw:=top 61
abbrev kZ:Zw:=top 62
abbrev jN:Zw:=top 63
abbrev jP:Zw:=top 64
abbrev lj:Zw:=top 65
abbrev fz:Zw:=top 66
abbrev iV:Zw:=top 67
abbrev jO:Zw:=top 68
abbrev lu:Zw:=top 69
abbrev kY:Zw:=top 70
abbrev iU:Zw:=top 71
abbrev gq:Zw:=top 72
abbrev eR:Zw:=top 73
abbrev GU:Zw:=top 74
section
variable{P:ZS}{w:Zg}{K:Z6}{mg:Str->Option Z7}{base:Heap}
def pW:aG ["thing"] ["thing"] (ay mS):=⟨rfl,rfl,rfl,by decide +kernel,rfl,by decide +kernel,by decide +kernel⟩
def sx:CS:=
 (cT (lP (Cu .int (ao 0)) (EG (Cu .bool (ao 0)))))
theorem zv{k:Nat}(d:Def K mg "is_whole" mS ["thing"])(B:Blt mg):b8 P w K mg base "is_whole" (k+1) ["thing"] (fnU 1 1 (sx )):=
 d.pure pW fun f cdv A outer s H E hr=>(by
  have hu:=bF hr;have nd:=pW.nd;exact(aB (aJ (jY (AO (T:=.int) (by intro z;cases z) (ah (wpv 0)) (rH rfl B.int OG.yB) rfl B.isinstance) (qW (K6 (AO (T:=.bool) (by intro z;cases z) (ah (wpv 0)) (rH rfl B.bool OG.BY) rfl B.isinstance)))))))
theorem nU:aG ["thing","least","most"] ["thing","least","most"] (ay kW):=⟨rfl,rfl,rfl,by decide +kernel,rfl,by decide +kernel,by decide +kernel⟩
def lK(km:Fn):CS:=
 (cT (lP (cCB km (ag (ao 0) aD)) (j9 fLe fLe (ao 1) (ao 0) (ao 2))))
theorem wK{k:Nat}{km:Fn}(d:Def K mg "is_within" kW ["thing","least","most"])(B:Blt mg)(zQ:b8 P w K mg base "is_whole" (k) ["thing"] km):b8 P w K mg base "is_within" (k+1) ["thing","least","most"] (fnU 3 3 (lK km)):=
 d.pure nU fun f cdv A outer s H E hr=>(by
  have hu:=bF hr;have nd:=nU.nd;exact(aB (aJ (jY (aI zQ hr rfl (ae (ah (wpv 0)) av)) (qW (vZ AZ LK AZ LK (ah (wpv 1)) (ah (wpv 0)) (ah (wpv 2))))))))
def pV:aG ["thing"] ["thing"] (ay mR):=⟨rfl,rfl,rfl,by decide +kernel,rfl,by decide +kernel,by decide +kernel⟩
def nz(cM:Fn):CS:=
 (aV (dC (cOr (xi (aL (Cu .tuple (ao 0)))) (aL (cOp fNe (cCB fx (ag (ao 0) aD)) (cC (.int 2))))) (cT (cC (.bl false))) bB)
  (cT (lP (cCB cM (ag (cOp fIx (ao 0) (cC (.int 0))) (ag (cC (.int 1)) (ag (cC (.int 6)) aD)))) (cCB cM (ag (cOp fIx (ao 0) (cC (.int 1))) (ag (cC (.int 2)) (ag (cC (.int 1000)) aD)))))))
theorem zu{k:Nat}{cM:Fn}(d:Def K mg "is_world" mR ["thing"])(B:Blt mg)(C_MOST_BOXES:∃t,mg "MOST_BOXES"=some (.int (6) t))(C_MOST_WHEEL:∃t,mg "MOST_WHEEL"=some (.int (1000) t))(C_LEAST_WHEEL:∃t,mg "LEAST_WHEEL"=some (.int (2) t))(jy:b8 P w K mg base "is_within" (k) ["thing","least","most"] cM):b8 P w K mg base "is_world" (k+1) ["thing"] (fnU 1 1 (nz cM)):=
 d.pure pV fun f cdv A outer s H E hr=>(by
  have hu:=bF hr;have nd:=pV.nd;exact(aq (bD (AN (K5 (jd (gI (AO (T:=.tuple) (by intro z;cases z) (ah (wpv 0)) (rH rfl B.tuple OG.dR) rfl B.isinstance))) (Dr (aP AY LH (bp eZ eY rfl B.len PySem.boot_len (ae (ah (wpv 0)) av)) (ax ak) (aF _))))) (aB (aJ (tq eN))) a8)
   (aB (aJ (jY (aI jy hr rfl (ae (bO hu (ah (wpv 0)) (ax ak) (fun _ _=>rfl) (fun _ _=>rfl)) (ae (ax ak) (ae (ax (fW rfl C_MOST_BOXES)) av)))) (qW (aI jy hr rfl (ae (bO hu (ah (wpv 0)) (ax ak) (fun _ _=>rfl) (fun _ _=>rfl)) (ae (ax (fW rfl C_LEAST_WHEEL)) (ae (ax (fW rfl C_MOST_WHEEL)) av))))))))))
theorem pX:aG ["world","thing"] ["world","thing"] (ay mU):=⟨rfl,rfl,rfl,by decide +kernel,rfl,by decide +kernel,by decide +kernel⟩
def nA(cM:Fn):CS:=
 (aV (dC (cOr (xi (aL (Cu .tuple (ao 1)))) (aL (cOp fNe (cCB fx (ag (ao 1) aD)) (cOp fIx (ao 0) (cC (.int 0)))))) (cT (cC (.bl false))) bB)
  (cT (cCB FC (ag (gE (iTp (ao 1)) (gNm 0) (cCB cM (ag (ao 0) (ag (cC (.int 0)) (ag (cOp oG (cOp fIx (ao 1) (cC (.int 1))) (cC (.int 1))) aD)))) 1 [0]) aD))))
theorem zw{k:Nat}{cM:Fn}(d:Def K mg "is_state" mU ["world","thing"])(B:Blt mg)(jy:b8 P w K mg base "is_within" (k) ["thing","least","most"] cM):b8 P w K mg base "is_state" (k+1) ["world","thing"] (fnU 2 2 (nA cM)):=
 d.pure pX fun f cdv A outer s H E hr=>(by
  have hu:=bF hr;have nd:=pX.nd;exact(aq (bD (AN (K5 (jd (gI (AO (T:=.tuple) (by intro z;cases z) (ah (wpv 1)) (rH rfl B.tuple OG.dR) rfl B.isinstance))) (Dr (aP AY LH (bp eZ eY rfl B.len PySem.boot_len (ae (ah (wpv 1)) av)) (bO hu (ah (wpv 0)) (ax ak) (fun _ _=>rfl) (fun _ _=>rfl)) (aF _))))) (aB (aJ (tq eN))) a8)
   (aB (aJ (bp (yA rfl) LR rfl B.all OG.yC (ae (p9 (Nc:=["number","world"]) (tn:=["number"]) (capN:=["world"]) (caps:=[0]) rfl (jW (ah (wpv 1))) (fun _ _ _=>(dU (bC (i:=0) (show(["number","world"]:List Str).Nodup by decide +kernel) rfl (by trivial)))) (fun _ _ _=>(aI jy hr rfl (ae (ah (wpv 0)) (ae (ax ak) (ae (cS iK mr (bO hu (ah (wpv 1)) (ax ak) (fun _ _=>rfl) (fun _ _=>rfl)) (ax ak)) av))))) rfl rfl (by decide +kernel) (by decide +kernel) ⟨rfl,trivial⟩ rfl (.cons ⟨rfl,rfl,rfl,_,rfl⟩ .nil) rfl rfl) av))))))
theorem rW:aG ["row","place","value"] ["row","place","value"] (ay pZ):=⟨rfl,rfl,rfl,by decide +kernel,rfl,by decide +kernel,by decide +kernel⟩
theorem Bn{k:Nat}(d:Def K mg "with_at" pZ ["row","place","value"])(B:Blt mg):b8 P w K mg base "with_at" (k+1) ["row","place","value"] (fnU 3 3 (qJ )):=
 d.pure rW fun f cdv A outer s H E hr=>(by
  have hu:=bF hr;have nd:=rW.nd;exact(aB (aJ (cS bZ bY (cS bZ bY (zb (ah (wpv 0)) fJ (fH (ah (wpv 1)))) (dW (ae (ah (wpv 2)) av))) (zb (ah (wpv 0)) (fH (cS bZ bY (ah (wpv 1)) (ax ak))) fJ)))))
theorem rX:aG ["part","reached"] ["part"] (ay p4):=⟨rfl,rfl,rfl,by decide +kernel,rfl,by decide +kernel,by decide +kernel⟩
theorem Bo{k:Nat}{fuel:Nat}(d:Def K mg "onwards" p4 ["part"])(B:Blt mg):b8 P w K mg base "onwards" (k+1) ["part"] (fnU 2 1 (qK fuel)):=
 d.pure rX fun f cdv A outer s H E hr=>(by
  have hu:=bF hr;have nd:=rX.nd;exact(aq (aN (i:=1) nd rfl (by trivial) (ah (wpv 0)))
   (aq (tf fuel PassesOwn.never (AN (qX (aP HK PN (bO hu (ah (wpv 1)) (ax ak) (fun _ _=>rfl) (fun _ _=>rfl)) (bp eZ eY rfl B.len PySem.boot_len (ae (bO hu (ah (wpv 1)) (ax ak) (fun _ _=>rfl) (fun _ _=>rfl)) av)) (aF _)) (qb (aP jq mv (bO hu (ah (wpv 1)) (ax ak) (fun _ _=>rfl) (fun _ _=>rfl)) (gz bW) (aF _))))) (aB (aN (i:=1) nd rfl (by trivial) (bO hu (ah (wpv 1)) (ax ak) (fun _ _=>rfl) (fun _ _=>rfl)))))
   (aB (aJ (ah (wpv 1)))))))
def mj:aG ["self"] ["self"] (ay jU):=⟨rfl,rfl,rfl,by decide +kernel,rfl,by decide +kernel,by decide +kernel⟩
theorem vj{k:Nat}{aA:Cl}(d:MtD K aA.C "deed" "Doing.deed" jU ["self"])(B:Blt mg)(TDoing:TC K aA ["wheel","held","puts","part"]):cH P w K mg base aA "deed" (k+1) ["self"] (fnU 1 1 (iO aA)):=
 d.pure mj fun f cdv A outer s H E hr=>(by
  have hu:=bF hr;have nd:=mj.nd;exact(aq (bD (aP HK PN (bO hu (cq TDoing.cl (TDoing.na 3 rfl) (TDoing.ix rfl) (ah (wpv 0))) (ax ak) (fun _ _=>rfl) (fun _ _=>rfl)) (bp eZ eY rfl B.len PySem.boot_len (ae (bO hu (cq TDoing.cl (TDoing.na 3 rfl) (TDoing.ix rfl) (ah (wpv 0))) (ax ak) (fun _ _=>rfl) (fun _ _=>rfl)) av)) (aF _)) (aB (aJ (gz bW))) a8)
   (aB (aJ (bO hu (bO hu (cq TDoing.cl (TDoing.na 3 rfl) (TDoing.ix rfl) (ah (wpv 0))) (ax ak) (fun _ _=>rfl) (fun _ _=>rfl)) (bO hu (cq TDoing.cl (TDoing.na 3 rfl) (TDoing.ix rfl) (ah (wpv 0))) (ax ak) (fun _ _=>rfl) (fun _ _=>rfl)) (fun _ _=>rfl) (fun _ _=>rfl))))))
def ml:aG ["self","deed"] ["self"] (ay jV):=⟨rfl,rfl,rfl,by decide +kernel,rfl,by decide +kernel,by decide +kernel⟩
theorem vk{k:Nat}{aQ:Fn}{aA:Cl}(d:MtD K aA.C "asks" "Doing.asks" jV ["self"])(B:Blt mg)(TDoing:TC K aA ["wheel","held","puts","part"])(M_Doing_deed:cH P w K mg base aA "deed" (k) ["self"] aQ):cH P w K mg base aA "asks" (k+1) ["self"] (fnU 2 1 (iP aQ aA)):=
 d.pure ml fun f cdv A outer s H E hr=>(by
  have hu:=bF hr;have nd:=ml.nd;exact(aq (aN (i:=1) nd rfl (by trivial) (c8 TDoing.cl M_Doing_deed hr (TDoing.nm (by decide +kernel)) (ah (wpv 0))))
   (aB (aJ (jY (gJ cK iJ (bO hu (ah (wpv 1)) (ax ak) (fun _ _=>rfl) (fun _ _=>rfl)) (aS aC) (aF _)) (qW (gJ Fi LM (bO hu (cq TDoing.cl (TDoing.na 2 rfl) (TDoing.ix rfl) (ah (wpv 0))) (bO hu (ah (wpv 1)) (ax ak) (fun _ _=>rfl) (fun _ _=>rfl)) (fun _ _=>rfl) (fun _ _=>rfl)) (gz bW) (aF _))))))))
theorem mh:aG ["self","hand","number"] ["self","hand","number"] (ay jR):=⟨rfl,rfl,rfl,by decide +kernel,rfl,by decide +kernel,by decide +kernel⟩
theorem vh{k:Nat}{fe:Fn}{aA:Cl}(d:MtD K aA.C "hold" "Doing.hold" jR ["self","hand","number"])(B:Blt mg)(TDoing:TC K aA ["wheel","held","puts","part"])(qR:b8 P w K mg base "with_at" (k) ["row","place","value"] fe):cH P w K mg base aA "hold" (k+1) ["self","hand","number"] (fnU 3 3 (j7 fe aA)):=
 d.pure mh fun f cdv A outer s H E hr=>(by
  have hu:=bF hr;have nd:=mh.nd;exact(aB (bP TDoing.cl (TDoing.na 1 rfl) (TDoing.ix rfl) (ah (wpv 0)) (aI qR hr rfl (ae (cq TDoing.cl (TDoing.na 1 rfl) (TDoing.ix rfl) (ah (wpv 0))) (ae (ah (wpv 1)) (ae (ah (wpv 2)) av)))))))
theorem gH:aG ["self","left_out","part"] ["self","left_out"] (ay eD):=⟨rfl,rfl,rfl,by decide +kernel,rfl,by decide +kernel,by decide +kernel⟩
theorem lE{k:Nat}{aA:Cl}(d:MtD K aA.C "part_behind" "Doing.part_behind" eD ["self","left_out"])(B:Blt mg)(TDoing:TC K aA ["wheel","held","puts","part"]):cH P w K mg base aA "part_behind" (k+1) ["self","left_out"] (fnU 3 2 (eF aA)):=
 d.pure gH fun f cdv A outer s H E hr=>(by
  have hu:=bF hr;have nd:=gH.nd;exact(aq (aN (i:=2) nd rfl (by trivial) (cq TDoing.cl (TDoing.na 3 rfl) (TDoing.ix rfl) (ah (wpv 0))))
   (aB (aJ (dW (ae (bO hu (ah (wpv 2)) (ax ak) (fun _ _=>rfl) (fun _ _=>rfl)) (ae (cS bZ bY (cS bZ bY (bO hu (ah (wpv 2)) (ax ak) (fun _ _=>rfl) (fun _ _=>rfl)) (ax ak)) (ah (wpv 1))) (ae (bO hu (ah (wpv 2)) (ax ak) (fun _ _=>rfl) (fun _ _=>rfl)) (ae (bO hu (ah (wpv 2)) (ax ak) (fun _ _=>rfl) (fun _ _=>rfl)) av)))))))))
theorem iF:aG ["self","left_out"] ["self","left_out"] (ay fF):=⟨rfl,rfl,rfl,by decide +kernel,rfl,by decide +kernel,by decide +kernel⟩
theorem nh{k:Nat}{cu aZ:Fn}{aA:Cl}(d:MtD K aA.C "go_behind" "Doing.go_behind" fF ["self","left_out"])(B:Blt mg)(TDoing:TC K aA ["wheel","held","puts","part"])(jg:b8 P w K mg base "onwards" (k) ["part"] cu)(M_Doing_part_behind:cH P w K mg base aA "part_behind" (k) ["self","left_out"] aZ):cH P w K mg base aA "go_behind" (k+1) ["self","left_out"] (fnU 2 2 (fS cu aZ aA)):=
 d.pure iF fun f cdv A outer s H E hr=>(by
  have hu:=bF hr;have nd:=iF.nd;exact(aB (bP TDoing.cl (TDoing.na 3 rfl) (TDoing.ix rfl) (ah (wpv 0)) (aI jg hr rfl (ae (b6 TDoing.cl M_Doing_part_behind hr (TDoing.nm (by decide +kernel)) (ah (wpv 0)) (ae (ah (wpv 1)) av)) av)))))
theorem mi:aG ["self","number"] ["self","number"] (ay jT):=⟨rfl,rfl,rfl,by decide +kernel,rfl,by decide +kernel,by decide +kernel⟩
theorem vi{k:Nat}{bS aQ bt:Fn}{aA:Cl}(d:MtD K aA.C "hear" "Doing.hear" jT ["self","number"])(B:Blt mg)(TDoing:TC K aA ["wheel","held","puts","part"])(M_Doing_hold:cH P w K mg base aA "hold" (k) ["self","hand","number"] bS)(M_Doing_deed:cH P w K mg base aA "deed" (k) ["self"] aQ)(M_Doing_go_behind:cH P w K mg base aA "go_behind" (k) ["self","left_out"] bt):cH P w K mg base aA "hear" (k+1) ["self","number"] (fnU 2 2 (j8 bS aQ bt aA)):=
 d.pure mi fun f cdv A outer s H E hr=>(by
  have hu:=bF hr;have nd:=mi.nd;exact(aq (bo (b6 TDoing.cl M_Doing_hold hr (TDoing.nm (by decide +kernel)) (ah (wpv 0)) (ae (bO hu (c8 TDoing.cl M_Doing_deed hr (TDoing.nm (by decide +kernel)) (ah (wpv 0))) (ax ak) (fun _ _=>rfl) (fun _ _=>rfl)) (ae (ah (wpv 1)) av))))
   (aB (bo (b6 TDoing.cl M_Doing_go_behind hr (TDoing.nm (by decide +kernel)) (ah (wpv 0)) (ae (ax ak) av))))))
theorem iG:aG ["self","one","other","behind","instead"] ["self","one","other"] (ay fG):=⟨rfl,rfl,rfl,by decide +kernel,rfl,by decide +kernel,by decide +kernel⟩
theorem ni{k:Nat}{cu aZ:Fn}{aA:Cl}(d:MtD K aA.C "enter_try" "Doing.enter_try" fG ["self","one","other"])(B:Blt mg)(TDoing:TC K aA ["wheel","held","puts","part"])(jg:b8 P w K mg base "onwards" (k) ["part"] cu)(M_Doing_part_behind:cH P w K mg base aA "part_behind" (k) ["self","left_out"] aZ):cH P w K mg base aA "enter_try" (k+1) ["self","one","other"] (fnU 5 3 (fT cu aZ aA)):=
 d.pure iG fun f cdv A outer s H E hr=>(by
  have hu:=bF hr;have nd:=iG.nd;exact(aq (aN (i:=3) nd rfl (by trivial) (b6 TDoing.cl M_Doing_part_behind hr (TDoing.nm (by decide +kernel)) (ah (wpv 0)) (ae (ax ak) av)))
   (aq (aN (i:=4) nd rfl (by trivial) (aI jg hr rfl (ae (dW (ae (ah (wpv 2)) (ae (ax ak) (ae (ah (wpv 3)) (ae (bO hu (ah (wpv 3)) (ax ak) (fun _ _=>rfl) (fun _ _=>rfl)) av))))) av)))
   (aB (bP TDoing.cl (TDoing.na 3 rfl) (TDoing.ix rfl) (ah (wpv 0)) (aI jg hr rfl (ae (dW (ae (ah (wpv 1)) (ae (ax ak) (ae (ah (wpv 3)) (ae (dW (ae (cq TDoing.cl (TDoing.na 1 rfl) (TDoing.ix rfl) (ah (wpv 0))) (ae (cq TDoing.cl (TDoing.na 2 rfl) (TDoing.ix rfl) (ah (wpv 0))) (ae (ah (wpv 4)) av)))) av))))) av)))))))
def iE:aG ["self","back"] ["self"] (ay fE):=⟨rfl,rfl,rfl,by decide +kernel,rfl,by decide +kernel,by decide +kernel⟩
theorem m9{k:Nat}{aA:Cl}(d:MtD K aA.C "goes_back" "Doing.goes_back" fE ["self"])(B:Blt mg)(TDoing:TC K aA ["wheel","held","puts","part"]):cH P w K mg base aA "goes_back" (k+1) ["self"] (fnU 2 1 (dQ aA)):=
 d.pure iE fun f cdv A outer s H E hr=>(by
  have hu:=bF hr;have nd:=iE.nd;exact(aq (aN (i:=1) nd rfl (by trivial) (bO hu (cq TDoing.cl (TDoing.na 3 rfl) (TDoing.ix rfl) (ah (wpv 0))) (ax ak) (fun _ _=>rfl) (fun _ _=>rfl)))
   (aq (bD (aP Fi LM (ah (wpv 1)) (gz bW) (aF _)) (aB (aJ (tq eN))) a8)
   (aq (bP TDoing.cl (TDoing.na 1 rfl) (TDoing.ix rfl) (ah (wpv 0)) (bO hu (ah (wpv 1)) (ax ak) (fun _ _=>rfl) (fun _ _=>rfl)))
   (aq (bP TDoing.cl (TDoing.na 2 rfl) (TDoing.ix rfl) (ah (wpv 0)) (bO hu (ah (wpv 1)) (ax ak) (fun _ _=>rfl) (fun _ _=>rfl)))
   (aq (bP TDoing.cl (TDoing.na 3 rfl) (TDoing.ix rfl) (ah (wpv 0)) (bO hu (ah (wpv 1)) (ax ak) (fun _ _=>rfl) (fun _ _=>rfl)))
   (aB (aJ (tq eN)))))))))
theorem jC:aG ["self","deed","word","left_out"] ["self"] (ay hJ):=⟨rfl,rfl,rfl,by decide +kernel,rfl,by decide +kernel,by decide +kernel⟩
theorem ql{k:Nat}{fe aQ dM dN bS bt:Fn}{aA:Cl}(d:MtD K aA.C "do_deed" "Doing.do_deed" hJ ["self"])(B:Blt mg)(TDoing:TC K aA ["wheel","held","puts","part"])(qR:b8 P w K mg base "with_at" (k) ["row","place","value"] fe)(M_Doing_deed:cH P w K mg base aA "deed" (k) ["self"] aQ)(M_Doing_goes_back:cH P w K mg base aA "goes_back" (k) ["self"] dM)(M_Doing_enter_try:cH P w K mg base aA "enter_try" (k) ["self","one","other"] dN)(M_Doing_hold:cH P w K mg base aA "hold" (k) ["self","hand","number"] bS)(M_Doing_go_behind:cH P w K mg base aA "go_behind" (k) ["self","left_out"] bt):cH P w K mg base aA "do_deed" (k+1) ["self"] (fnU 4 1 (bw fe aQ dM dN bS bt aA)):=
 d.pure jC fun f cdv A outer s H E hr=>(by
  have hu:=bF hr;have nd:=jC.nd;exact(aq (aN (i:=1) nd rfl (by trivial) (c8 TDoing.cl M_Doing_deed hr (TDoing.nm (by decide +kernel)) (ah (wpv 0))))
   (aq (aN (i:=2) nd rfl (by trivial) (bO hu (ah (wpv 1)) (ax ak) (fun _ _=>rfl) (fun _ _=>rfl)))
   (aq (bD (aP cK iJ (ah (wpv 2)) (aS aC) (aF _)) (aB (aJ (c8 TDoing.cl M_Doing_goes_back hr (TDoing.nm (by decide +kernel)) (ah (wpv 0))))) a8)
   (aq (bD (aP cK iJ (ah (wpv 2)) (aS aC) (aF _)) (aq (bo (b6 TDoing.cl M_Doing_enter_try hr (TDoing.nm (by decide +kernel)) (ah (wpv 0)) (ae (bO hu (ah (wpv 1)) (ax ak) (fun _ _=>rfl) (fun _ _=>rfl)) (ae (bO hu (ah (wpv 1)) (ax ak) (fun _ _=>rfl) (fun _ _=>rfl)) av))))
   (aB (aJ (tq eN)))) a8)
   (aq (aN (i:=3) nd rfl (by trivial) (ax ak))
   (aq (bD (aP cK iJ (ah (wpv 2)) (aS aC) (aF _)) (aB (bo (b6 TDoing.cl M_Doing_hold hr (TDoing.nm (by decide +kernel)) (ah (wpv 0)) (ae (bO hu (ah (wpv 1)) (ax ak) (fun _ _=>rfl) (fun _ _=>rfl)) (ae (bO hu (cq TDoing.cl (TDoing.na 2 rfl) (TDoing.ix rfl) (ah (wpv 0))) (bO hu (ah (wpv 1)) (ax ak) (fun _ _=>rfl) (fun _ _=>rfl)) (fun _ _=>rfl) (fun _ _=>rfl)) av))))) (aB (bD (aP cK iJ (ah (wpv 2)) (aS aC) (aF _)) (aB (bP TDoing.cl (TDoing.na 2 rfl) (TDoing.ix rfl) (ah (wpv 0)) (aI qR hr rfl (ae (cq TDoing.cl (TDoing.na 2 rfl) (TDoing.ix rfl) (ah (wpv 0))) (ae (bO hu (ah (wpv 1)) (ax ak) (fun _ _=>rfl) (fun _ _=>rfl)) (ae (bO hu (cq TDoing.cl (TDoing.na 1 rfl) (TDoing.ix rfl) (ah (wpv 0))) (bO hu (ah (wpv 1)) (ax ak) (fun _ _=>rfl) (fun _ _=>rfl)) (fun _ _=>rfl) (fun _ _=>rfl)) av)))))) (aB (bD (aP cK iJ (ah (wpv 2)) (aS aC) (aF _)) (aB (bo (b6 TDoing.cl M_Doing_hold hr (TDoing.nm (by decide +kernel)) (ah (wpv 0)) (ae (bO hu (ah (wpv 1)) (ax ak) (fun _ _=>rfl) (fun _ _=>rfl)) (ae (bO hu (ah (wpv 1)) (ax ak) (fun _ _=>rfl) (fun _ _=>rfl)) av))))) (aB (bD (aP cK iJ (ah (wpv 2)) (aS aC) (aF _)) (aB (bo (b6 TDoing.cl M_Doing_hold hr (TDoing.nm (by decide +kernel)) (ah (wpv 0)) (ae (bO hu (ah (wpv 1)) (ax ak) (fun _ _=>rfl) (fun _ _=>rfl)) (ae (cS n5 uR (cS bZ bY (bO hu (cq TDoing.cl (TDoing.na 1 rfl) (TDoing.ix rfl) (ah (wpv 0))) (bO hu (ah (wpv 1)) (ax ak) (fun _ _=>rfl) (fun _ _=>rfl)) (fun _ _=>rfl) (fun _ _=>rfl)) (bO hu (cq TDoing.cl (TDoing.na 1 rfl) (TDoing.ix rfl) (ah (wpv 0))) (bO hu (ah (wpv 1)) (ax ak) (fun _ _=>rfl) (fun _ _=>rfl)) (fun _ _=>rfl) (fun _ _=>rfl))) (cq TDoing.cl (TDoing.na 0 rfl) (TDoing.ix rfl) (ah (wpv 0)))) av))))) (aB (bD (aP cK iJ (bO hu (cq TDoing.cl (TDoing.na 1 rfl) (TDoing.ix rfl) (ah (wpv 0))) (bO hu (ah (wpv 1)) (ax ak) (fun _ _=>rfl) (fun _ _=>rfl)) (fun _ _=>rfl) (fun _ _=>rfl)) (ax ak) (aF _)) (aB (aN (i:=3) nd rfl (by trivial) (bO hu (ah (wpv 1)) (ax ak) (fun _ _=>rfl) (fun _ _=>rfl)))) a8)))))))))
   (aq (bo (b6 TDoing.cl M_Doing_go_behind hr (TDoing.nm (by decide +kernel)) (ah (wpv 0)) (ae (ah (wpv 3)) av)))
   (aB (aJ (tq eN)))))))))))
def iD:aG ["self"] ["self"] (ay fD):=⟨rfl,rfl,rfl,by decide +kernel,rfl,by decide +kernel,by decide +kernel⟩
theorem m8{k:Nat}{aA:Cl}(d:MtD K aA.C "put_pairs" "Doing.put_pairs" fD ["self"])(B:Blt mg)(TDoing:TC K aA ["wheel","held","puts","part"]):cH P w K mg base aA "put_pairs" (k+1) ["self"] (fnU 1 1 (fR aA)):=
 d.pure iD fun f cdv A outer s H E hr=>(by
  have hu:=bF hr;have nd:=iD.nd;exact(aB (aJ (Du (Nc:=["box","number"]) (tn:=["box","number"]) (capN:=[]) (caps:=[]) rfl (AM rfl B.enumerate (cq TDoing.cl (TDoing.na 2 rfl) (TDoing.ix rfl) (ah (wpv 0)))) (fun _ _ _=>(xV rfl (iH (bC (i:=0) (show(["box","number"]:List Str).Nodup by decide +kernel) rfl (by trivial)) (iH (bC (i:=1) (show(["box","number"]:List Str).Nodup by decide +kernel) rfl (by trivial)) tj)))) (fun _ _ _=>(aP jq mv (ah (wpv 1)) (gz bW) (aF _))) (fun _ _ _=>(dW (ae (ah (wpv 0)) (ae (ah (wpv 1)) av)))) rfl rfl (by decide +kernel) (by decide +kernel) trivial rfl .nil rfl rfl))))
theorem mf:aG ["self","world","dealing"] ["self","world","dealing"] (ay jQ):=⟨rfl,rfl,rfl,by decide +kernel,rfl,by decide +kernel,by decide +kernel⟩
theorem vg{k:Nat}{cu:Fn}{aA:Cl}(d:MkD K mg aA.C "Doing" "Doing.__init__" jQ ["self","world","dealing"])(B:Blt mg)(TDoing:TC K aA ["wheel","held","puts","part"])(jg:b8 P w K mg base "onwards" (k) ["part"] cu):CMk P w K mg base aA "Doing" (k+1) ["self","world","dealing"] (fnU 3 3 (j6 cu aA)):=
 d.pure TDoing mf fun f cdv A outer s H E hr=>(by
  have hu:=bF hr;have nd:=mf.nd;exact(aq (bP TDoing.cl (TDoing.na 0 rfl) (TDoing.ix rfl) (ah (wpv 0)) (bO hu (ah (wpv 1)) (ax ak) (fun _ _=>rfl) (fun _ _=>rfl)))
   (aq (bP TDoing.cl (TDoing.na 1 rfl) (TDoing.ix rfl) (ah (wpv 0)) (dW (ae (ax ak) (ae (ax ak) (ae (ax ak) (ae (ax ak) av))))))
   (aq (bP TDoing.cl (TDoing.na 2 rfl) (TDoing.ix rfl) (ah (wpv 0)) (cS Ma LJ (dW (ae (gz bW) av)) (bO hu (ah (wpv 1)) (ax ak) (fun _ _=>rfl) (fun _ _=>rfl))))
   (aB (bP TDoing.cl (TDoing.na 3 rfl) (TDoing.ix rfl) (ah (wpv 0)) (aI jg hr rfl (ae (dW (ae (ah (wpv 2)) (ae (ax ak) (ae (gz bW) (ae (gz bW) av))))) av))))))))
theorem jH:aG ["doing","state","looked","box"] ["doing","state","looked"] (ay iT):=⟨rfl,rfl,rfl,by decide +kernel,rfl,by decide +kernel,by decide +kernel⟩
theorem rj{k:Nat}{aQ eK eJ cW:Fn}{aA:Cl}{fuel:Nat}(d:Def K mg "goes_through" iT ["doing","state","looked"])(B:Blt mg)(TDoing:TC K aA ["wheel","held","puts","part"])(M_Doing_deed:cH P w K mg base aA "deed" (k) ["self"] aQ)(M_Doing_asks:cH P w K mg base aA "asks" (k) ["self"] eK)(M_Doing_hear:cH P w K mg base aA "hear" (k) ["self","number"] eJ)(M_Doing_do_deed:cH P w K mg base aA "do_deed" (k) ["self"] cW):b8 P w K mg base "goes_through" (k+1) ["doing","state","looked"] (fnU 4 3 (f7 aQ eK eJ cW aA fuel)):=
 d.pure jH fun f cdv A outer s H E hr=>(by
  have hu:=bF hr;have nd:=jH.nd;exact(aq (tf fuel PassesOwn.never (aP jq mv (c8 TDoing.cl M_Doing_deed hr (TDoing.nm (by decide +kernel)) (ah (wpv 0))) (gz bW) (aF _)) (aB (bD (gI (c8 TDoing.cl M_Doing_asks hr (TDoing.nm (by decide +kernel)) (ah (wpv 0)))) (aq (aN (i:=3) nd rfl (by trivial) (bO hu (c8 TDoing.cl M_Doing_deed hr (TDoing.nm (by decide +kernel)) (ah (wpv 0))) (ax ak) (fun _ _=>rfl) (fun _ _=>rfl)))
   (aq (ki hu (ah (wpv 2)) (ah (wpv 3)) (tq eN))
   (aB (bo (b6 TDoing.cl M_Doing_hear hr (TDoing.nm (by decide +kernel)) (ah (wpv 0)) (ae (bO hu (ah (wpv 1)) (ah (wpv 3)) (fun _ _=>rfl) (fun _ _=>rfl)) av)))))) (aB (bD (jd (gI (c8 TDoing.cl M_Doing_do_deed hr (TDoing.nm (by decide +kernel)) (ah (wpv 0))))) (aB (aJ (tq eN))) a8)))))
   (aB (aJ (tq eN)))))
theorem xS:aG ["world","dealing","state","doing","looked","reached","box","number"] ["world","dealing","state"] (ay vU):=⟨rfl,rfl,rfl,by decide +kernel,rfl,by decide +kernel,by decide +kernel⟩
theorem IB{k:Nat}{dq cm eI:Fn}{aA:Cl}(d:Def K mg "alone" vU ["world","dealing","state"])(B:Blt mg)(TDoing:TC K aA ["wheel","held","puts","part"])(rF:b8 P w K mg base "goes_through" (k+1) ["doing","state","looked"] dq)(M_Doing_put_pairs:cH P w K mg base aA "put_pairs" (k+1) ["self"] cm)(M_Doing:CMk P w K mg base aA "Doing" k ["self","world","dealing"] eI):b8 P w K mg base "alone" (k+1+1) ["world","dealing","state"] (fnU 8 3 (tZ dq cm eI aA)):=
 d.pure xS fun f cdv A outer s H E hr=>(by
  have hu:=bF hr;have nd:=xS.nd;exact(aq (aN (i:=3) nd rfl (by trivial) (Fe M_Doing hr rfl (ae (ah (wpv 0)) (ae (ah (wpv 1)) av))))
   (aq (aN (i:=4) nd rfl (by trivial) K9)
   (aq (bD (jd (gI (aI rF hr rfl (ae (ah (wpv 3)) (ae (ah (wpv 2)) (ae (ah (wpv 4)) av)))))) (aB (aJ (dW (ae (aS aC) (ae (bp (DX rfl) DS rfl B.sorted OG.xj (ae (ah (wpv 4)) av)) av))))) a8)
   (aq (aN (i:=5) nd rfl (by trivial) (cG j2 Ff rfl B.list OG.qL (ae (ah (wpv 2)) av)))
   (aq (mq PassesOwn.never rfl (jW (c8 TDoing.cl M_Doing_put_pairs hr (TDoing.nm (by decide +kernel)) (ah (wpv 3)))) (xV rfl (iH (bC (i:=6) nd rfl (by trivial)) (iH (bC (i:=7) nd rfl (by trivial)) tj))) (aB (ki hu (ah (wpv 5)) (ah (wpv 6)) (ah (wpv 7)))))
   (aB (aJ (dW (ae (aS aC) (ae (cG dh lB rfl B.tuple OG.dR (ae (ah (wpv 5)) av)) (ae (cq TDoing.cl (TDoing.na 1 rfl) (TDoing.ix rfl) (ah (wpv 3))) av))))))))))))
theorem uK:aG ["world","dealings","state","order","reached","place","number","told"] ["world","dealings","state","order"] (ay sW):=⟨rfl,rfl,rfl,by decide +kernel,rfl,by decide +kernel,by decide +kernel⟩
theorem Eg{k:Nat}{cw:Fn}(d:Def K mg "in_row" sW ["world","dealings","state","order"])(B:Blt mg)(lT:b8 P w K mg base "alone" (k) ["world","dealing","state"] cw):b8 P w K mg base "in_row" (k+1) ["world","dealings","state","order"] (fnU 8 4 (oW cw)):=
 d.pure uK fun f cdv A outer s H E hr=>(by
  have hu:=bF hr;have nd:=uK.nd;exact(aq (aN (i:=4) nd rfl (by trivial) (ah (wpv 2)))
   (aq (mq PassesOwn.never rfl (AM rfl B.enumerate (ah (wpv 3))) (xV rfl (iH (bC (i:=5) nd rfl (by trivial)) (iH (bC (i:=6) nd rfl (by trivial)) tj))) (aq (aN (i:=7) nd rfl (by trivial) (aI lT hr rfl (ae (ah (wpv 0)) (ae (bO hu (ah (wpv 1)) (ah (wpv 6)) (fun _ _=>rfl) (fun _ _=>rfl)) (ae (ah (wpv 4)) av)))))
   (aq (bD (aP cK iJ (bO hu (ah (wpv 7)) (ax ak) (fun _ _=>rfl) (fun _ _=>rfl)) (aS aC) (aF _)) (aB (aJ (dW (ae (aS aC) (ae (ah (wpv 5)) (ae (bO hu (ah (wpv 7)) (ax ak) (fun _ _=>rfl) (fun _ _=>rfl)) av)))))) a8)
   (aB (aN (i:=4) nd rfl (by trivial) (bO hu (ah (wpv 7)) (ax ak) (fun _ _=>rfl) (fun _ _=>rfl)))))))
   (aB (aJ (dW (ae (aS aC) (ae (ah (wpv 4)) av))))))))
theorem nV:aG ["world","word","box"] ["world","word"] (ay kX):=⟨rfl,rfl,rfl,by decide +kernel,rfl,by decide +kernel,by decide +kernel⟩
theorem wL{k:Nat}(d:Def K mg "bounds_of" kX ["world","word"])(B:Blt mg)(C_HAND:Nm K mg "HAND" [0,3])(C_LEAP:Nm K mg "LEAP" [1,12]):b8 P w K mg base "bounds_of" (k+1) ["world","word"] (fnU 3 2 (bJ )):=
 d.pure nV fun f cdv A outer s H E hr=>(by
  have hu:=bF hr;have nd:=nV.nd;exact(aq (aN (i:=2) nd rfl (by trivial) (dW (ae (ax ak) (ae (cS iK mr (bO hu (ah (wpv 0)) (ax ak) (fun _ _=>rfl) (fun _ _=>rfl)) (ax ak)) av))))
   (aq (bD (aP cK iJ (ah (wpv 1)) (aS aC) (aF _)) (aB (aJ (dW (ae (p8 rfl C_HAND) (ae (ah (wpv 2)) av))))) a8)
   (aq (bD (aP cK iJ (ah (wpv 1)) (aS aC) (aF _)) (aB (aJ (dW (ae (ah (wpv 2)) (ae (p8 rfl C_HAND) av))))) a8)
   (aq (bD (aP cK iJ (ah (wpv 1)) (aS aC) (aF _)) (aB (aJ (dW (ae (p8 rfl C_HAND) (ae (dW (ae (ax ak) (ae (cS iK mr (bO hu (ah (wpv 0)) (ax ak) (fun _ _=>rfl) (fun _ _=>rfl)) (ax ak)) av))) av))))) a8)
   (aq (bD (aP cK iJ (ah (wpv 1)) (aS aC) (aF _)) (aB (aJ (dW (ae (p8 rfl C_HAND) (ae (p8 rfl C_HAND) av))))) a8)
   (aq (bD (aP cK iJ (ah (wpv 1)) (aS aC) (aF _)) (aB (aJ (dW (ae (p8 rfl C_HAND) (ae (p8 rfl C_LEAP) av))))) a8)
   (aq (bD (aP cK iJ (ah (wpv 1)) (aS aC) (aF _)) (aB (aJ (dW av))) a8)
   (aB (aJ (gz bW)))))))))))
def nT:aG ["word"] ["word"] (ay kS):=⟨rfl,rfl,rfl,by decide +kernel,rfl,by decide +kernel,by decide +kernel⟩
theorem wJ{k:Nat}(d:Def K mg "number_in" kS ["word"])(B:Blt mg)(C_MOST_FIGURES:∃t,mg "MOST_FIGURES"=some (.int (4) t))(C_FIGURES:∃t,mg "FIGURES"=some (.str "0123456789" t)):b8 P w K mg base "number_in" (k+1) ["word"] (fnU 1 1 (lJ )):=
 d.pure nT fun f cdv A outer s H E hr=>(by
  have hu:=bF hr;have nd:=nT.nd;exact(aq (bD (AN (K5 (aP cK iJ (bp Fj Fg rfl B.len PySem.boot_len (ae (ah (wpv 0)) av)) (ax ak) (aF _)) (K5 (aP qZ Cr (bp Fj Fg rfl B.len PySem.boot_len (ae (ah (wpv 0)) av)) (ax (fW rfl C_MOST_FIGURES)) (aF _)) (Dr (jd (gI (bp (yA rfl) LR rfl B.all OG.yC (ae (p9 (Nc:=["sign"]) (tn:=["sign"]) (capN:=[]) (caps:=[]) rfl (K4 (ah (wpv 0))) (fun _ _ _=>(dU (bC (i:=0) (show(["sign"]:List Str).Nodup by decide +kernel) rfl (by trivial)))) (fun _ _ _=>(Pq (ah (wpv 0)) (aS (CQ rfl C_FIGURES)) (by with_unfolding_all rfl))) rfl rfl (by decide +kernel) (by decide +kernel) trivial rfl .nil rfl rfl) av)))))))) (aB (aJ (gz bW))) a8)
   (aq (bD (AN (qX (aP cK iJ (Pp (ah (wpv 0)) (ax ak) (fun _ _=>rfl)) (aS aC) (aF _)) (qb (aP AY LH (ah (wpv 0)) (aS aC) (aF _))))) (aB (aJ (gz bW))) a8)
   (aB (aJ (cG Mb LN rfl B.int OG.yB (ae (ah (wpv 0)) av)))))))
theorem kF:aG ["self","world","words"] ["self","world","words"] (ay jl):=⟨rfl,rfl,rfl,by decide +kernel,rfl,by decide +kernel,by decide +kernel⟩
theorem tP{k:Nat}{cReader:Cl}(d:MkD K mg cReader.C "Reader" "Reader.__init__" jl ["self","world","words"])(B:Blt mg)(TReader:TC K cReader ["world","words","place","many"]):CMk P w K mg base cReader "Reader" (k+1) ["self","world","words"] (fnU 3 3 (jv cReader)):=
 d.pure TReader kF fun f cdv A outer s H E hr=>(by
  have hu:=bF hr;have nd:=kF.nd;exact(aq (bP TReader.cl (TReader.na 0 rfl) (TReader.ix rfl) (ah (wpv 0)) (ah (wpv 1)))
   (aq (bP TReader.cl (TReader.na 1 rfl) (TReader.ix rfl) (ah (wpv 0)) (ah (wpv 2)))
   (aq (bP TReader.cl (TReader.na 2 rfl) (TReader.ix rfl) (ah (wpv 0)) (ax ak))
   (aB (bP TReader.cl (TReader.na 3 rfl) (TReader.ix rfl) (ah (wpv 0)) (ax ak)))))))
def kE:aG ["self"] ["self"] (ay jk):=⟨rfl,rfl,rfl,by decide +kernel,rfl,by decide +kernel,by decide +kernel⟩
theorem tN{k:Nat}{cReader:Cl}(d:MtD K cReader.C "word" "Reader.word" jk ["self"])(B:Blt mg)(TReader:TC K cReader ["world","words","place","many"]):cH P w K mg base cReader "word" (k+1) ["self"] (fnU 1 1 (ju cReader)):=
 d.pure kE fun f cdv A outer s H E hr=>(by
  have hu:=bF hr;have nd:=kE.nd;exact(aq (bD (aP jD uo (cq TReader.cl (TReader.na 2 rfl) (TReader.ix rfl) (ah (wpv 0))) (bp eZ eY rfl B.len PySem.boot_len (ae (cq TReader.cl (TReader.na 1 rfl) (TReader.ix rfl) (ah (wpv 0))) av)) (aF _)) (aB (aJ (bO hu (cq TReader.cl (TReader.na 1 rfl) (TReader.ix rfl) (ah (wpv 0))) (cq TReader.cl (TReader.na 2 rfl) (TReader.ix rfl) (ah (wpv 0))) (fun _ _=>rfl) (fun _ _=>rfl)))) a8)
   (aB (aJ (aS aC)))))
theorem jL:aG ["self","fits"] ["self","fits"] (ay iX):=⟨rfl,rfl,rfl,by decide +kernel,rfl,by decide +kernel,by decide +kernel⟩
theorem rq{k:Nat}{cReader:Cl}(d:MtD K cReader.C "check" "Reader.check" iX ["self","fits"])(B:Blt mg):cH P w K mg base cReader "check" (k+1) ["self","fits"] (fnU 2 2 (i8 )):=
 d.pure jL fun f cdv A outer s H E hr=>(by
  have hu:=bF hr;have nd:=jL.nd;exact(aB (bD (jd (gI (ah (wpv 1)))) (aB jo) a8)))
def jK:aG ["self"] ["self"] (ay iW):=⟨rfl,rfl,rfl,by decide +kernel,rfl,by decide +kernel,by decide +kernel⟩
theorem rp{k:Nat}{cReader:Cl}(d:MtD K cReader.C "go_on" "Reader.go_on" iW ["self"])(B:Blt mg)(TReader:TC K cReader ["world","words","place","many"]):cH P w K mg base cReader "go_on" (k+1) ["self"] (fnU 1 1 (i7 cReader)):=
 d.pure jK fun f cdv A outer s H E hr=>(by
  have hu:=bF hr;have nd:=jK.nd;exact(aB (bP TReader.cl (TReader.na 2 rfl) (TReader.ix rfl) (ah (wpv 0)) (cS bZ bY (cq TReader.cl (TReader.na 2 rfl) (TReader.ix rfl) (ah (wpv 0))) (ax ak)))))
theorem gc:aG ["self","bound","number"] ["self","bound"] (ay dS):=⟨rfl,rfl,rfl,by decide +kernel,rfl,by decide +kernel,by decide +kernel⟩
theorem ky{k:Nat}{dg aT aE aH:Fn}{cReader:Cl}(d:MtD K cReader.C "read_number" "Reader.read_number" dS ["self","bound"])(B:Blt mg)(TReader:TC K cReader ["world","words","place","many"])(lS:b8 P w K mg base "number_in" (k) ["word"] dg)(M_Reader_word:cH P w K mg base cReader "word" (k) ["self"] aT)(M_Reader_check:cH P w K mg base cReader "check" (k) ["self","fits"] aE)(M_Reader_go_on:cH P w K mg base cReader "go_on" (k) ["self"] aH):cH P w K mg base cReader "read_number" (k+1) ["self","bound"] (fnU 3 2 (dZ dg aT aE aH cReader)):=
 d.pure gc fun f cdv A outer s H E hr=>(by
  have hu:=bF hr;have nd:=gc.nd;exact(aq (aN (i:=2) nd rfl (by trivial) (aI lS hr rfl (ae (c8 TReader.cl M_Reader_word hr (TReader.nm (by decide +kernel)) (ah (wpv 0))) av)))
   (aq (bo (b6 TReader.cl M_Reader_check hr (TReader.nm (by decide +kernel)) (ah (wpv 0)) (ae (jY (gJ jq mv (ah (wpv 2)) (gz bW) (aF _)) (qW (vZ AZ LK AZ LK (bO hu (ah (wpv 1)) (ax ak) (fun _ _=>rfl) (fun _ _=>rfl)) (ah (wpv 2)) (bO hu (ah (wpv 1)) (ax ak) (fun _ _=>rfl) (fun _ _=>rfl))))) av)))
   (aq (bo (c8 TReader.cl M_Reader_go_on hr (TReader.nm (by decide +kernel)) (ah (wpv 0))))
   (aB (aJ (ah (wpv 2))))))))
theorem gZ:aG ["self","tries_left","word","bounds","deed","bound"] ["self","tries_left"] (ay eS):=⟨rfl,rfl,rfl,by decide +kernel,rfl,by decide +kernel,by decide +kernel⟩
theorem dA{k:Nat}{fN aT cg aE aH bK:Fn}{cReader:Cl}(d:MtD K cReader.C "read_deed" "Reader.read_deed" eS ["self","tries_left"])(B:Blt mg)(TReader:TC K cReader ["world","words","place","many"])(xv:b8 P w K mg base "bounds_of" (k) ["world","word"] fN)(M_Reader_word:cH P w K mg base cReader "word" (k) ["self"] aT)(M_Reader_read_try:cH P w K mg base cReader "read_try" (k) ["self","tries_left"] cg)(M_Reader_check:cH P w K mg base cReader "check" (k) ["self","fits"] aE)(M_Reader_go_on:cH P w K mg base cReader "go_on" (k) ["self"] aH)(M_Reader_read_number:cH P w K mg base cReader "read_number" (k) ["self","bound"] bK):cH P w K mg base cReader "read_deed" (k+1) ["self","tries_left"] (fnU 6 2 (dB fN aT cg aE aH bK cReader)):=
 d.pure gZ fun f cdv A outer s H E hr=>(by
  have hu:=bF hr;have nd:=gZ.nd;exact(aq (aN (i:=2) nd rfl (by trivial) (c8 TReader.cl M_Reader_word hr (TReader.nm (by decide +kernel)) (ah (wpv 0))))
   (aq (bD (aP cK iJ (ah (wpv 2)) (aS aC) (aF _)) (aB (aJ (b6 TReader.cl M_Reader_read_try hr (TReader.nm (by decide +kernel)) (ah (wpv 0)) (ae (ah (wpv 1)) av)))) a8)
   (aq (aN (i:=3) nd rfl (by trivial) (aI xv hr rfl (ae (cq TReader.cl (TReader.na 0 rfl) (TReader.ix rfl) (ah (wpv 0))) (ae (ah (wpv 2)) av))))
   (aq (bo (b6 TReader.cl M_Reader_check hr (TReader.nm (by decide +kernel)) (ah (wpv 0)) (ae (gJ jq mv (ah (wpv 3)) (gz bW) (aF _)) av)))
   (aq (bo (c8 TReader.cl M_Reader_go_on hr (TReader.nm (by decide +kernel)) (ah (wpv 0))))
   (aq (aN (i:=4) nd rfl (by trivial) (je (ae (ah (wpv 2)) av)))
   (aq (mq PassesOwn.never rfl (jW (ah (wpv 3))) (dU (bC (i:=5) nd rfl (by trivial))) (aB (bo (iI (ah (wpv 4)) (ae (b6 TReader.cl M_Reader_read_number hr (TReader.nm (by decide +kernel)) (ah (wpv 0)) (ae (ah (wpv 5)) av)) av)))))
   (aB (aJ (cG dh lB rfl B.tuple OG.dR (ae (ah (wpv 4)) av))))))))))))
theorem iA:aG ["self","tries_left","one","other"] ["self","tries_left"] (ay fA):=⟨rfl,rfl,rfl,by decide +kernel,rfl,by decide +kernel,by decide +kernel⟩
theorem dH{k:Nat}{aE aH bc:Fn}{cReader:Cl}(d:MtD K cReader.C "read_try" "Reader.read_try" fA ["self","tries_left"])(B:Blt mg)(TReader:TC K cReader ["world","words","place","many"])(M_Reader_check:cH P w K mg base cReader "check" (k) ["self","fits"] aE)(M_Reader_go_on:cH P w K mg base cReader "go_on" (k) ["self"] aH)(M_Reader_read_run:cH P w K mg base cReader "read_run" (k) ["self","tries_left"] bc):cH P w K mg base cReader "read_try" (k+1) ["self","tries_left"] (fnU 4 2 (fO aE aH bc cReader)):=
 d.pure iA fun f cdv A outer s H E hr=>(by
  have hu:=bF hr;have nd:=iA.nd;exact(aq (bo (b6 TReader.cl M_Reader_check hr (TReader.nm (by decide +kernel)) (ah (wpv 0)) (ae (gJ qZ Cr (ah (wpv 1)) (ax ak) (aF _)) av)))
   (aq (bo (c8 TReader.cl M_Reader_go_on hr (TReader.nm (by decide +kernel)) (ah (wpv 0))))
   (aq (aN (i:=2) nd rfl (by trivial) (b6 TReader.cl M_Reader_read_run hr (TReader.nm (by decide +kernel)) (ah (wpv 0)) (ae (cS iK mr (ah (wpv 1)) (ax ak)) av)))
   (aq (aN (i:=3) nd rfl (by trivial) (b6 TReader.cl M_Reader_read_run hr (TReader.nm (by decide +kernel)) (ah (wpv 0)) (ae (cS iK mr (ah (wpv 1)) (ax ak)) av)))
   (aB (aJ (dW (ae (aS aC) (ae (ah (wpv 2)) (ae (ah (wpv 3)) av)))))))))))
theorem iB:aG ["self","tries_left","deeds"] ["self","tries_left"] (ay fB):=⟨rfl,rfl,rfl,by decide +kernel,rfl,by decide +kernel,by decide +kernel⟩
theorem dI{k:Nat}{aE aT aH bV:Fn}{cReader:Cl}{fuel:Nat}(d:MtD K cReader.C "read_run" "Reader.read_run" fB ["self","tries_left"])(B:Blt mg)(C_MOST_IN_TUPLE:∃t,mg "MOST_IN_TUPLE"=some (.int (12) t))(C_MOST_IN_ALL:∃t,mg "MOST_IN_ALL"=some (.int (40) t))(TReader:TC K cReader ["world","words","place","many"])(M_Reader_check:cH P w K mg base cReader "check" (k) ["self","fits"] aE)(M_Reader_word:cH P w K mg base cReader "word" (k) ["self"] aT)(M_Reader_go_on:cH P w K mg base cReader "go_on" (k) ["self"] aH)(M_Reader_read_deed:cH P w K mg base cReader "read_deed" (k) ["self","tries_left"] bV):cH P w K mg base cReader "read_run" (k+1) ["self","tries_left"] (fnU 3 2 (fP aE aT aH bV cReader fuel)):=
 d.pure iB fun f cdv A outer s H E hr=>(by
  have hu:=bF hr;have nd:=iB.nd;exact(aq (bo (b6 TReader.cl M_Reader_check hr (TReader.nm (by decide +kernel)) (ah (wpv 0)) (ae (gJ cK iJ (c8 TReader.cl M_Reader_word hr (TReader.nm (by decide +kernel)) (ah (wpv 0))) (aS aC) (aF _)) av)))
   (aq (bo (c8 TReader.cl M_Reader_go_on hr (TReader.nm (by decide +kernel)) (ah (wpv 0))))
   (aq (aN (i:=2) nd rfl (by trivial) (je av))
   (aq (tf fuel PassesOwn.never (aP AY LH (c8 TReader.cl M_Reader_word hr (TReader.nm (by decide +kernel)) (ah (wpv 0))) (aS aC) (aF _)) (aq (bo (b6 TReader.cl M_Reader_check hr (TReader.nm (by decide +kernel)) (ah (wpv 0)) (ae (jY (gJ jD uo (bp eZ eY rfl B.len PySem.boot_len (ae (ah (wpv 2)) av)) (ax (fW rfl C_MOST_IN_TUPLE)) (aF _)) (qW (gJ jD uo (cq TReader.cl (TReader.na 3 rfl) (TReader.ix rfl) (ah (wpv 0))) (ax (fW rfl C_MOST_IN_ALL)) (aF _)))) av)))
   (aq (bP TReader.cl (TReader.na 3 rfl) (TReader.ix rfl) (ah (wpv 0)) (cS bZ bY (cq TReader.cl (TReader.na 3 rfl) (TReader.ix rfl) (ah (wpv 0))) (ax ak)))
   (aB (bo (iI (ah (wpv 2)) (ae (b6 TReader.cl M_Reader_read_deed hr (TReader.nm (by decide +kernel)) (ah (wpv 0)) (ae (ah (wpv 1)) av)) av)))))))
   (aq (bo (c8 TReader.cl M_Reader_go_on hr (TReader.nm (by decide +kernel)) (ah (wpv 0))))
   (aB (aJ (cG dh lB rfl B.tuple OG.dR (ae (ah (wpv 2)) av))))))))))
theorem iC:aG ["self","dealing"] ["self"] (ay fC):=⟨rfl,rfl,rfl,by decide +kernel,rfl,by decide +kernel,by decide +kernel⟩
theorem m7{k:Nat}{bc aE:Fn}{cReader:Cl}(d:MtD K cReader.C "read_all" "Reader.read_all" fC ["self"])(B:Blt mg)(C_MOST_TRIES:∃t,mg "MOST_TRIES"=some (.int (3) t))(TReader:TC K cReader ["world","words","place","many"])(M_Reader_read_run:cH P w K mg base cReader "read_run" (k) ["self","tries_left"] bc)(M_Reader_check:cH P w K mg base cReader "check" (k) ["self","fits"] aE):cH P w K mg base cReader "read_all" (k+1) ["self"] (fnU 2 1 (fQ bc aE cReader)):=
 d.pure iC fun f cdv A outer s H E hr=>(by
  have hu:=bF hr;have nd:=iC.nd;exact(aq (aN (i:=1) nd rfl (by trivial) (b6 TReader.cl M_Reader_read_run hr (TReader.nm (by decide +kernel)) (ah (wpv 0)) (ae (ax (fW rfl C_MOST_TRIES)) av)))
   (aq (bo (b6 TReader.cl M_Reader_check hr (TReader.nm (by decide +kernel)) (ah (wpv 0)) (ae (gJ cK iJ (cq TReader.cl (TReader.na 2 rfl) (TReader.ix rfl) (ah (wpv 0))) (bp eZ eY rfl B.len PySem.boot_len (ae (cq TReader.cl (TReader.na 1 rfl) (TReader.ix rfl) (ah (wpv 0))) av)) (aF _)) av)))
   (aB (aJ (ah (wpv 1)))))))
theorem jG:aG ["world","text"] ["world","text"] (ay iS):=⟨rfl,rfl,rfl,by decide +kernel,rfl,by decide +kernel,by decide +kernel⟩
theorem rh{k:Nat}{dJ gP:Fn}{cReader:Cl}(d:Def K mg "read_dealing" iS ["world","text"])(B:Blt mg)(TReader:TC K cReader ["world","words","place","many"])(M_Reader_read_all:cH P w K mg base cReader "read_all" (k+1) ["self"] dJ)(M_Reader:CMk P w K mg base cReader "Reader" k ["self","world","words"] gP):b8 P w K mg base "read_dealing" (k+1+1) ["world","text"] (fnU 2 2 (iZ dJ gP cReader)):=
 d.pure jG fun f cdv A outer s H E hr=>(by
  have hu:=bF hr;have nd:=jG.nd;exact(aB (aJ (c8 TReader.cl M_Reader_read_all hr (TReader.nm (by decide +kernel)) (Fe M_Reader hr rfl (ae (ah (wpv 0)) (ae (vY (ah (wpv 1)) (ae (aS aC) av)) av)))))))
theorem oQ:aG ["fits","words"] ["fits","words"] (ay sX):=⟨rfl,rfl,rfl,by decide +kernel,rfl,by decide +kernel,by decide +kernel⟩
def tY:CS:=
 (dC (xi (aL (ao 0))) mD bB)
theorem IA{k:Nat}(d:Def K mg "check" sX ["fits","words"])(B:Blt mg):b8 P w K mg base "check" (k+1) ["fits","words"] (fnU 2 2 (tY )):=
 d.pure oQ fun f cdv A outer s H E hr=>(by
  have hu:=bF hr;have nd:=oQ.nd;exact(aB (bD (jd (gI (ah (wpv 0)))) (aB jo) a8)))
theorem pT:aG ["word","number"] ["word"] (ay mQ):=⟨rfl,rfl,rfl,by decide +kernel,rfl,by decide +kernel,by decide +kernel⟩
def nv(dg aR:Fn):CS:=
 (aV (b5 1 (cCB dg (ag (ao 0) aD)))
  (aV (cP (cCB aR (ag (cOp ik (ao 1) (cC .non)) (ag (cC (.str "this is no number")) aD))))
  (cT (ao 1))))
theorem zt{k:Nat}{dg aR:Fn}(d:Def K mg "numbered" mQ ["word"])(B:Blt mg)(lS:b8 P w K mg base "number_in" (k) ["word"] dg)(dE:b8 P w K mg base "check" (k) ["fits","words"] aR):b8 P w K mg base "numbered" (k+1) ["word"] (fnU 2 1 (nv dg aR)):=
 d.pure pT fun f cdv A outer s H E hr=>(by
  have hu:=bF hr;have nd:=pT.nd;exact(aq (aN (i:=1) nd rfl (by trivial) (aI lS hr rfl (ae (ah (wpv 0)) av)))
   (aq (bo (aI dE hr rfl (ae (gJ jq mv (ah (wpv 1)) (gz bW) (aF _)) (ae (aS aC) av))))
   (aB (aJ (ah (wpv 1)))))))
def uJ:aG ["numbers"] ["numbers"] (ay sV):=⟨rfl,rfl,rfl,by decide +kernel,rfl,by decide +kernel,by decide +kernel⟩
def tW:CS:=
 (aV (dC (aL (cOp fEq (cCB fx (ag (ao 0) aD)) (cC (.int 0)))) (cT (cC (.str "-"))) bB)
  (cT (cBS lF (cC (.str " ")) (ag (gE (iTp (ao 0)) (gNm 0) (cCB qU (ag (ao 0) aD)) 1 []) aD))))
theorem Ef{k:Nat}(d:Def K mg "spaced" sV ["numbers"])(B:Blt mg):b8 P w K mg base "spaced" (k+1) ["numbers"] (fnU 1 1 (tW )):=
 d.pure uJ fun f cdv A outer s H E hr=>(by
  have hu:=bF hr;have nd:=uJ.nd;exact(aq (bD (aP cK iJ (bp eZ eY rfl B.len PySem.boot_len (ae (ah (wpv 0)) av)) (ax ak) (aF _)) (aB (aJ (aS aC))) a8)
   (aB (aJ (xW (aS aC) (ae (p9 (Nc:=["number"]) (tn:=["number"]) (capN:=[]) (caps:=[]) rfl (jW (ah (wpv 0))) (fun _ _ _=>(dU (bC (i:=0) (show(["number"]:List Str).Nodup by decide +kernel) rfl (by trivial)))) (fun _ _ _=>(cG cY uP rfl B.str OG.gQ (ae (ah (wpv 0)) av))) rfl rfl (by decide +kernel) (by decide +kernel) trivial rfl .nil rfl rfl) av))))))
def n4:aG ["self"] ["self"] (ay lA):=⟨rfl,rfl,rfl,by decide +kernel,rfl,by decide +kernel,by decide +kernel⟩
def lO(cDesk:Cl):CS:=
 (aV (fj cDesk 0 (ao 0) (cC .non))
  (aV (fj cDesk 1 (ao 0) (cC .non))
  (aV (fj cDesk 2 (ao 0) (kr aD))
  (fj cDesk 3 (ao 0) (cC .non)))))
theorem wQ{k:Nat}{cDesk:Cl}(d:MkD K mg cDesk.C "Desk" "Desk.__init__" lA ["self"])(B:Blt mg)(TDesk:TC K cDesk ["world","state","dealings","tries"]):CMk P w K mg base cDesk "Desk" (k+1) ["self"] (fnU 1 1 (lO cDesk)):=
 d.pure TDesk n4 fun f cdv A outer s H E hr=>(by
  have hu:=bF hr;have nd:=n4.nd;exact(aq (bP TDesk.cl (TDesk.na 0 rfl) (TDesk.ix rfl) (ah (wpv 0)) (gz bW))
   (aq (bP TDesk.cl (TDesk.na 1 rfl) (TDesk.ix rfl) (ah (wpv 0)) (gz bW))
   (aq (bP TDesk.cl (TDesk.na 2 rfl) (TDesk.ix rfl) (ah (wpv 0)) (je av))
   (aB (bP TDesk.cl (TDesk.na 3 rfl) (TDesk.ix rfl) (ah (wpv 0)) (gz bW)))))))
theorem jj:aG ["self","row","words"] ["self","row"] (ay kh):=⟨rfl,rfl,rfl,by decide +kernel,rfl,by decide +kernel,by decide +kernel⟩
def eL(aR aY bb ef f6:Fn)(cDesk:Cl):CS:=
 (aV (b5 2 (cBS jf (ao 1) (ag (cC (.str " ")) aD)))
  (aV (dC (aL (cOp fEq (cOp fIx (ao 2) (cC (.int 0))) (cC (.str "world")))) (cT (bH cDesk aY (ao 0) (ag (cSl (ao 2) (some (cC (.int 1))) none) aD))) bB)
  (aV (cP (cCB aR (ag (cOp ik (gh cDesk 0 (ao 0)) (cC .non)) (ag (cC (.str "there is no world yet")) aD))))
  (aV (dC (aL (cOp fEq (cOp fIx (ao 2) (cC (.int 0))) (cC (.str "deal")))) (cT (bH cDesk bb (ao 0) (ag (cSl (ao 2) (some (cC (.int 1))) none) aD))) bB)
  (aV (dC (aL (cOp fEq (cOp fIx (ao 2) (cC (.int 0))) (cC (.str "alone")))) (cT (bH cDesk ef (ao 0) (ag (cSl (ao 2) (some (cC (.int 1))) none) aD))) bB)
  (aV (dC (aL (cOp fEq (cOp fIx (ao 2) (cC (.int 0))) (cC (.str "row")))) (cT (bH cDesk f6 (ao 0) (ag (cSl (ao 2) (some (cC (.int 1))) none) aD))) bB)
  (aV mD
  (aV mD
  (aV mD
  mD)))))))))
theorem zx{k:Nat}{aR aY bb ef f6:Fn}{cDesk:Cl}(d:MtD K cDesk.C "say" "Desk.say" kh ["self","row"])(B:Blt mg)(TDesk:TC K cDesk ["world","state","dealings","tries"])(dE:b8 P w K mg base "check" (k) ["fits","words"] aR)(M_Desk_say_world:cH P w K mg base cDesk "say_world" (k) ["self","words"] aY)(M_Desk_say_deal:cH P w K mg base cDesk "say_deal" (k) ["self","words"] bb)(M_Desk_say_alone:cH P w K mg base cDesk "say_alone" (k) ["self","words"] ef)(M_Desk_say_row:cH P w K mg base cDesk "say_row" (k) ["self","words"] f6):cH P w K mg base cDesk "say" (k+1) ["self","row"] (fnU 3 2 (eL aR aY bb ef f6 cDesk)):=
 d.pure jj fun f cdv A outer s H E hr=>(by
  have hu:=bF hr;have nd:=jj.nd;exact(aq (aN (i:=2) nd rfl (by trivial) (vY (ah (wpv 1)) (ae (aS aC) av)))
   (aq (bD (aP cK iJ (bO hu (ah (wpv 2)) (ax ak) (fun _ _=>rfl) (fun _ _=>rfl)) (aS aC) (aF _)) (aB (aJ (b6 TDesk.cl M_Desk_say_world hr (TDesk.nm (by decide +kernel)) (ah (wpv 0)) (ae (zb (ah (wpv 2)) (fH (ax ak)) fJ) av)))) a8)
   (aq (bo (aI dE hr rfl (ae (gJ jq mv (cq TDesk.cl (TDesk.na 0 rfl) (TDesk.ix rfl) (ah (wpv 0))) (gz bW) (aF _)) (ae (aS aC) av))))
   (aq (bD (aP cK iJ (bO hu (ah (wpv 2)) (ax ak) (fun _ _=>rfl) (fun _ _=>rfl)) (aS aC) (aF _)) (aB (aJ (b6 TDesk.cl M_Desk_say_deal hr (TDesk.nm (by decide +kernel)) (ah (wpv 0)) (ae (zb (ah (wpv 2)) (fH (ax ak)) fJ) av)))) a8)
   (aq (bD (aP cK iJ (bO hu (ah (wpv 2)) (ax ak) (fun _ _=>rfl) (fun _ _=>rfl)) (aS aC) (aF _)) (aB (aJ (b6 TDesk.cl M_Desk_say_alone hr (TDesk.nm (by decide +kernel)) (ah (wpv 0)) (ae (zb (ah (wpv 2)) (fH (ax ak)) fJ) av)))) a8)
   (aq (bD (aP cK iJ (bO hu (ah (wpv 2)) (ax ak) (fun _ _=>rfl) (fun _ _=>rfl)) (aS aC) (aF _)) (aB (aJ (b6 TDesk.cl M_Desk_say_row hr (TDesk.nm (by decide +kernel)) (ah (wpv 0)) (ae (zb (ah (wpv 2)) (fH (ax ak)) fJ) av)))) a8)
   (aq jo
   (aq jo
   (aq jo
   (aB jo)))))))))))
theorem ja:aG ["self","words","numbers","world","state"] ["self","words"] (ay gu):=⟨rfl,rfl,rfl,by decide +kernel,rfl,by decide +kernel,by decide +kernel⟩
def gC(bz aR kj kn:Fn)(cDesk:Cl):CS:=
 (aV (b5 2 (gE (iTp (ao 1)) (gNm 0) (cCB bz (ag (ao 0) aD)) 1 []))
  (aV (b5 3 (cCB iN (ag (cSl (ao 2) none (some (cC (.int 2)))) aD)))
  (aV (b5 4 (cCB iN (ag (cSl (ao 2) (some (cC (.int 2))) none) aD)))
  (aV (cP (cCB aR (ag (lP (cCB kj (ag (ao 3) aD)) (cCB kn (ag (ao 3) (ag (ao 4) aD)))) (ag (cC (.str "this is no world and state")) aD))))
  (aV (fj cDesk 0 (ao 0) (ao 3))
  (aV (fj cDesk 1 (ao 0) (ao 4))
  (aV (fj cDesk 2 (ao 0) (kr aD))
  (aV (fj cDesk 3 (ao 0) (cC .non))
  (cT (cC (.str "ok")))))))))))
theorem oC{k:Nat}{bz aR kj kn:Fn}{cDesk:Cl}(d:MtD K cDesk.C "say_world" "Desk.say_world" gu ["self","words"])(B:Blt mg)(TDesk:TC K cDesk ["world","state","dealings","tries"])(jh:b8 P w K mg base "numbered" (k) ["word"] bz)(dE:b8 P w K mg base "check" (k) ["fits","words"] aR)(zP:b8 P w K mg base "is_world" (k) ["thing"] kj)(zR:b8 P w K mg base "is_state" (k) ["world","thing"] kn):cH P w K mg base cDesk "say_world" (k+1) ["self","words"] (fnU 5 2 (gC bz aR kj kn cDesk)):=
 d.pure ja fun f cdv A outer s H E hr=>(by
  have hu:=bF hr;have nd:=ja.nd;exact(aq (rZ (Nc:=["word"]) (tn:=["word"]) (capN:=[]) (caps:=[]) rfl (jW (ah (wpv 1))) (fun _ _ _=>(dU (bC (i:=0) (show(["word"]:List Str).Nodup by decide +kernel) rfl (by trivial)))) (fun _ _ _=>(aI jh hr rfl (ae (ah (wpv 0)) av))) rfl rfl (by decide +kernel) (by decide +kernel) trivial rfl .nil rfl rfl nd rfl rfl rfl)
   (aq (aN (i:=3) nd rfl (by trivial) (cG dh lB rfl B.tuple OG.dR (ae (zb (ah (wpv 2)) fJ (fH (ax ak))) av)))
   (aq (aN (i:=4) nd rfl (by trivial) (cG dh lB rfl B.tuple OG.dR (ae (zb (ah (wpv 2)) (fH (ax ak)) fJ) av)))
   (aq (bo (aI dE hr rfl (ae (jY (aI zP hr rfl (ae (ah (wpv 3)) av)) (qW (aI zR hr rfl (ae (ah (wpv 3)) (ae (ah (wpv 4)) av))))) (ae (aS aC) av))))
   (aq (bP TDesk.cl (TDesk.na 0 rfl) (TDesk.ix rfl) (ah (wpv 0)) (ah (wpv 3)))
   (aq (bP TDesk.cl (TDesk.na 1 rfl) (TDesk.ix rfl) (ah (wpv 0)) (ah (wpv 4)))
   (aq (bP TDesk.cl (TDesk.na 2 rfl) (TDesk.ix rfl) (ah (wpv 0)) (je av))
   (aq (bP TDesk.cl (TDesk.na 3 rfl) (TDesk.ix rfl) (ah (wpv 0)) (gz bW))
   (aB (aJ (aS aC))))))))))))
theorem d7:aG ["self","words"] ["self","words"] (ay eU):=⟨rfl,rfl,rfl,by decide +kernel,rfl,by decide +kernel,by decide +kernel⟩
def fh(aR eA:Fn)(cDesk:Cl):CS:=
 (aV (cP (cCB aR (ag (lP (cOp fGt (cCB fx (ag (ao 1) aD)) (cC (.int 0))) (cOp fLt (cCB fx (ag (gh cDesk 2 (ao 0)) aD)) (cC (.int 12)))) (ag (cC (.str "no words, or too many dealings")) aD))))
  (aV (cP (cBM cN (gh cDesk 2 (ao 0)) (ag (bH cDesk eA (ao 0) (ag (ao 1) aD)) aD)))
  (aV (fj cDesk 3 (ao 0) (cC .non))
  (cT (cCB qU (ag (cOp oG (cCB fx (ag (gh cDesk 2 (ao 0)) aD)) (cC (.int 1))) aD))))))
theorem qo{k:Nat}{aR eA:Fn}{cDesk:Cl}(d:MtD K cDesk.C "say_deal" "Desk.say_deal" eU ["self","words"])(B:Blt mg)(C_MOST_DEALINGS:∃t,mg "MOST_DEALINGS"=some (.int (12) t))(TDesk:TC K cDesk ["world","state","dealings","tries"])(dE:b8 P w K mg base "check" (k) ["fits","words"] aR)(M_Desk_read_deal:cH P w K mg base cDesk "read_deal" (k) ["self","words"] eA):cH P w K mg base cDesk "say_deal" (k+1) ["self","words"] (fnU 2 2 (fh aR eA cDesk)):=
 d.pure d7 fun f cdv A outer s H E hr=>(by
  have hu:=bF hr;have nd:=d7.nd;exact(aq (bo (aI dE hr rfl (ae (jY (gJ qZ Cr (bp eZ eY rfl B.len PySem.boot_len (ae (ah (wpv 1)) av)) (ax ak) (aF _)) (qW (gJ jD uo (bp eZ eY rfl B.len PySem.boot_len (ae (cq TDesk.cl (TDesk.na 2 rfl) (TDesk.ix rfl) (ah (wpv 0))) av)) (ax (fW rfl C_MOST_DEALINGS)) (aF _)))) (ae (aS aC) av))))
   (aq (bo (iI (cq TDesk.cl (TDesk.na 2 rfl) (TDesk.ix rfl) (ah (wpv 0))) (ae (b6 TDesk.cl M_Desk_read_deal hr (TDesk.nm (by decide +kernel)) (ah (wpv 0)) (ae (ah (wpv 1)) av)) av)))
   (aq (bP TDesk.cl (TDesk.na 3 rfl) (TDesk.ix rfl) (ah (wpv 0)) (gz bW))
   (aB (aJ (cG cY uP rfl B.str OG.gQ (ae (cS iK mr (bp eZ eY rfl B.len PySem.boot_len (ae (cq TDesk.cl (TDesk.na 2 rfl) (TDesk.ix rfl) (ah (wpv 0))) av)) (ax ak)) av))))))))
theorem jb:aG ["self","words"] ["self","words"] (ay gx):=⟨rfl,rfl,rfl,by decide +kernel,rfl,by decide +kernel,by decide +kernel⟩
def gD(fZ:Fn)(cDesk:Cl):CS:=
 (cT (cCB fZ (ag (gh cDesk 0 (ao 0)) (ag (cBS lF (cC (.str " ")) (ag (ao 1) aD)) aD))))
theorem oF{k:Nat}{fZ:Fn}{cDesk:Cl}(d:MtD K cDesk.C "read_deal" "Desk.read_deal" gx ["self","words"])(B:Blt mg)(TDesk:TC K cDesk ["world","state","dealings","tries"])(rE:b8 P w K mg base "read_dealing" (k) ["world","text"] fZ):cH P w K mg base cDesk "read_deal" (k+1) ["self","words"] (fnU 2 2 (gD fZ cDesk)):=
 d.pure jb fun f cdv A outer s H E hr=>(by
  have hu:=bF hr;have nd:=jb.nd;exact(aB (K2 (fun _ _ h=>h) (aB (aJ (aI rE hr rfl (ae (cq TDesk.cl (TDesk.na 0 rfl) (TDesk.ix rfl) (ah (wpv 0))) (ae (xW (aS aC) (ae (ah (wpv 1)) av)) av))))))))
theorem dF:aG ["self","words","told"] ["self","words"] (ay d9):=⟨rfl,rfl,rfl,by decide +kernel,rfl,by decide +kernel,by decide +kernel⟩
def eB(aR cw gN bI:Fn)(cDesk:Cl):CS:=
 (aV (cP (cCB aR (ag (cOp fEq (cCB fx (ag (ao 1) aD)) (cC (.int 1))) (ag (cC (.str "one dealing is asked")) aD))))
  (aV (b5 2 (cCB cw (ag (gh cDesk 0 (ao 0)) (ag (cOp fIx (gh cDesk 2 (ao 0)) (bH cDesk bI (ao 0) (ag (cOp fIx (ao 1) (cC (.int 0))) aD))) (ag (gh cDesk 1 (ao 0)) aD)))))
  (cT (cOp cX (cOp cX (cOp fIx (ao 2) (cC (.int 0))) (cC (.str " "))) (cCB gN (ag (cOp fIx (ao 2) (cC (.int 1))) aD))))))
theorem oE{k:Nat}{aR cw gN bI:Fn}{cDesk:Cl}(d:MtD K cDesk.C "say_alone" "Desk.say_alone" d9 ["self","words"])(B:Blt mg)(TDesk:TC K cDesk ["world","state","dealings","tries"])(dE:b8 P w K mg base "check" (k) ["fits","words"] aR)(lT:b8 P w K mg base "alone" (k) ["world","dealing","state"] cw)(ui:b8 P w K mg base "spaced" (k) ["numbers"] gN)(M_Desk_place_of:cH P w K mg base cDesk "place_of" (k) ["self","word"] bI):cH P w K mg base cDesk "say_alone" (k+1) ["self","words"] (fnU 3 2 (eB aR cw gN bI cDesk)):=
 d.pure dF fun f cdv A outer s H E hr=>(by
  have hu:=bF hr;have nd:=dF.nd;exact(aq (bo (aI dE hr rfl (ae (gJ cK iJ (bp eZ eY rfl B.len PySem.boot_len (ae (ah (wpv 1)) av)) (ax ak) (aF _)) (ae (aS aC) av))))
   (aq (aN (i:=2) nd rfl (by trivial) (aI lT hr rfl (ae (cq TDesk.cl (TDesk.na 0 rfl) (TDesk.ix rfl) (ah (wpv 0))) (ae (bO hu (cq TDesk.cl (TDesk.na 2 rfl) (TDesk.ix rfl) (ah (wpv 0))) (b6 TDesk.cl M_Desk_place_of hr (TDesk.nm (by decide +kernel)) (ah (wpv 0)) (ae (bO hu (ah (wpv 1)) (ax ak) (fun _ _=>rfl) (fun _ _=>rfl)) av)) (fun _ _=>rfl) (fun _ _=>rfl)) (ae (cq TDesk.cl (TDesk.na 1 rfl) (TDesk.ix rfl) (ah (wpv 0))) av)))))
   (aB (aJ (cS bZ bY (cS bZ bY (bO hu (ah (wpv 2)) (ax ak) (fun _ _=>rfl) (fun _ _=>rfl)) (aS aC)) (aI ui hr rfl (ae (bO hu (ah (wpv 2)) (ax ak) (fun _ _=>rfl) (fun _ _=>rfl)) av))))))))
theorem jM:aG ["self","words","told"] ["self","words"] (ay iY):=⟨rfl,rfl,rfl,by decide +kernel,rfl,by decide +kernel,by decide +kernel⟩
def f9(aR gO gN bI:Fn)(cDesk:Cl):CS:=
 (aV (cP (cCB aR (ag (j9 fLt fLe (cC (.int 0)) (cCB fx (ag (ao 1) aD)) (cC (.int 12))) (ag (cC (.str "one to twelve dealings are asked")) aD))))
  (aV (b5 2 (cCB gO (ag (gh cDesk 0 (ao 0)) (ag (gh cDesk 2 (ao 0)) (ag (gh cDesk 1 (ao 0)) (ag (gE (iTp (ao 1)) (gNm 0) (bH cDesk bI (ao 1) (ag (ao 0) aD)) 1 [0]) aD))))))
  (aV (dC (aL (cOp fEq (cOp fIx (ao 2) (cC (.int 0))) (cC (.str "waits")))) (cT (cOp cX (cC (.str "waits ")) (cCB qU (ag (cOp fIx (ao 2) (cC (.int 1))) aD)))) bB)
  (cT (cOp cX (cC (.str "done ")) (cCB gN (ag (cOp fIx (ao 2) (cC (.int 1))) aD)))))))
theorem rz{k:Nat}{aR gO gN bI:Fn}{cDesk:Cl}(d:MtD K cDesk.C "say_row" "Desk.say_row" iY ["self","words"])(B:Blt mg)(C_MOST_IN_ROW:∃t,mg "MOST_IN_ROW"=some (.int (12) t))(TDesk:TC K cDesk ["world","state","dealings","tries"])(dE:b8 P w K mg base "check" (k) ["fits","words"] aR)(uj:b8 P w K mg base "in_row" (k) ["world","dealings","state","order"] gO)(ui:b8 P w K mg base "spaced" (k) ["numbers"] gN)(M_Desk_place_of:cH P w K mg base cDesk "place_of" (k) ["self","word"] bI):cH P w K mg base cDesk "say_row" (k+1) ["self","words"] (fnU 3 2 (f9 aR gO gN bI cDesk)):=
 d.pure jM fun f cdv A outer s H E hr=>(by
  have hu:=bF hr;have nd:=jM.nd;exact(aq (bo (aI dE hr rfl (ae (vZ jD uo AZ LK (ax ak) (bp eZ eY rfl B.len PySem.boot_len (ae (ah (wpv 1)) av)) (ax (fW rfl C_MOST_IN_ROW))) (ae (aS aC) av))))
   (aq (aN (i:=2) nd rfl (by trivial) (aI uj hr rfl (ae (cq TDesk.cl (TDesk.na 0 rfl) (TDesk.ix rfl) (ah (wpv 0))) (ae (cq TDesk.cl (TDesk.na 2 rfl) (TDesk.ix rfl) (ah (wpv 0))) (ae (cq TDesk.cl (TDesk.na 1 rfl) (TDesk.ix rfl) (ah (wpv 0))) (ae (p9 (Nc:=["word","self"]) (tn:=["word"]) (capN:=["self"]) (caps:=[0]) rfl (jW (ah (wpv 1))) (fun _ _ _=>(dU (bC (i:=0) (show(["word","self"]:List Str).Nodup by decide +kernel) rfl (by trivial)))) (fun _ _ _=>(b6 TDesk.cl M_Desk_place_of hr (TDesk.nm (by decide +kernel)) (ah (wpv 1)) (ae (ah (wpv 0)) av))) rfl rfl (by decide +kernel) (by decide +kernel) ⟨rfl,trivial⟩ rfl (.cons ⟨rfl,rfl,rfl,_,rfl⟩ .nil) rfl rfl) av))))))
   (aq (bD (aP cK iJ (bO hu (ah (wpv 2)) (ax ak) (fun _ _=>rfl) (fun _ _=>rfl)) (aS aC) (aF _)) (aB (aJ (cS bZ bY (aS aC) (cG cY uP rfl B.str OG.gQ (ae (bO hu (ah (wpv 2)) (ax ak) (fun _ _=>rfl) (fun _ _=>rfl)) av))))) a8)
   (aB (aJ (cS bZ bY (aS aC) (aI ui hr rfl (ae (bO hu (ah (wpv 2)) (ax ak) (fun _ _=>rfl) (fun _ _=>rfl)) av)))))))))
theorem d8:aG ["self","word","number"] ["self","word"] (ay eV):=⟨rfl,rfl,rfl,by decide +kernel,rfl,by decide +kernel,by decide +kernel⟩
def fi(bz aR:Fn)(cDesk:Cl):CS:=
 (aV (b5 2 (cCB bz (ag (ao 1) aD)))
  (aV (cP (cCB aR (ag (cOp fLt (ao 2) (cCB fx (ag (gh cDesk 2 (ao 0)) aD))) (ag (cC (.str "there is no such dealing")) aD))))
  (cT (ao 2))))
theorem qp{k:Nat}{bz aR:Fn}{cDesk:Cl}(d:MtD K cDesk.C "place_of" "Desk.place_of" eV ["self","word"])(B:Blt mg)(TDesk:TC K cDesk ["world","state","dealings","tries"])(jh:b8 P w K mg base "numbered" (k) ["word"] bz)(dE:b8 P w K mg base "check" (k) ["fits","words"] aR):cH P w K mg base cDesk "place_of" (k+1) ["self","word"] (fnU 3 2 (fi bz aR cDesk)):=
 d.pure d8 fun f cdv A outer s H E hr=>(by
  have hu:=bF hr;have nd:=d8.nd;exact(aq (aN (i:=2) nd rfl (by trivial) (aI jh hr rfl (ae (ah (wpv 1)) av)))
   (aq (bo (aI dE hr rfl (ae (gJ jD uo (ah (wpv 2)) (bp eZ eY rfl B.len PySem.boot_len (ae (cq TDesk.cl (TDesk.na 2 rfl) (TDesk.ix rfl) (ah (wpv 0))) av)) (aF _)) (ae (aS aC) av))))
   (aB (aJ (ah (wpv 2)))))))
theorem nX:aG ["pen","many","at","cell","one","two","three","found"] ["pen","many"] (ay kZ):=⟨rfl,rfl,rfl,by decide +kernel,rfl,by decide +kernel,by decide +kernel⟩
theorem wN{k:Nat}(d:Def K mg "_law_take" kZ ["pen","many"])(B:Blt mg):b8 P w K mg base "_law_take" (k+1) ["pen","many"] (fnU 8 2 (js )):=
 d.pure nX fun f cdv A outer s H E hr=>(by
  have hu:=bF hr;have nd:=nX.nd;exact(aq (bD (aP cK iJ (bO hu (ah (wpv 0)) (ax ak) (fun _ _=>rfl) (fun _ _=>rfl)) (ax ak) (aF _)) (aq (aN (i:=2) nd rfl (by trivial) (bO hu (ah (wpv 0)) (ax ak) (fun _ _=>rfl) (fun _ _=>rfl)))
   (aq (ki hu (ah (wpv 0)) (ax ak) (cS bZ bY (ah (wpv 2)) (ax ak)))
   (aq (aN (i:=3) nd rfl (by trivial) (ax ak))
   (aq (bD (aP jD uo (ah (wpv 2)) (bp eZ eY rfl B.len PySem.boot_len (ae (bO hu (ah (wpv 0)) (ax ak) (fun _ _=>rfl) (fun _ _=>rfl)) av)) (aF _)) (aB (aN (i:=3) nd rfl (by trivial) (bO hu (bO hu (ah (wpv 0)) (ax ak) (fun _ _=>rfl) (fun _ _=>rfl)) (ah (wpv 2)) (fun _ _=>rfl) (fun _ _=>rfl)))) (aB (bD (aP qZ Cr (bp eZ eY rfl B.len PySem.boot_len (ae (bO hu (ah (wpv 0)) (ax ak) (fun _ _=>rfl) (fun _ _=>rfl)) av)) (ax ak) (aF _)) (aB (aN (i:=3) nd rfl (by trivial) (cS bZ bY (cS n5 uR (bO hu (bO hu (ah (wpv 0)) (ax ak) (fun _ _=>rfl) (fun _ _=>rfl)) (cS n5 uR (cS mw uQ (ah (wpv 2)) (ax ak)) (bp eZ eY rfl B.len PySem.boot_len (ae (bO hu (ah (wpv 0)) (ax ak) (fun _ _=>rfl) (fun _ _=>rfl)) av))) (fun _ _=>rfl) (fun _ _=>rfl)) (ax ak)) (cS mw uQ (ax ak) (ah (wpv 2)))))) a8)))
   (aq (aN (i:=4) nd rfl (by trivial) (cS n5 uR (cS mw uQ (cS bZ bY (cS bZ bY (cS n5 uR (ah (wpv 3)) (ax ak)) (cS mw uQ (ax ak) (ah (wpv 2)))) (ax ak)) (ax ak)) (ax ak)))
   (aq (aN (i:=5) nd rfl (by trivial) (cS n5 uR (cS bZ bY (cS bZ bY (cS mw uQ (ah (wpv 4)) (ah (wpv 4))) (cS mw uQ (ax ak) (ah (wpv 2)))) (ax ak)) (ax ak)))
   (aq (aN (i:=6) nd rfl (by trivial) (cS n5 uR (cS bZ bY (cS mw uQ (ah (wpv 5)) (ah (wpv 5))) (ah (wpv 4))) (ax ak)))
   (aq (ki hu (ah (wpv 0)) (ax ak) (cS bZ bY (cS tD HI (cS bZ bY (cS mw uQ (ah (wpv 5)) (ax ak)) (ah (wpv 6))) (ax ak)) (ax ak)))
   (aB (bD (aP HK PN (ah (wpv 3)) (cS Fh LG (ax ak) (ax ak)) (aF _)) (aB (ki hu (ah (wpv 0)) (ax ak) (cS tD HI (ah (wpv 3)) (cS Fh LG (ax ak) (ax ak))))) a8)))))))))) a8)
   (aq (aN (i:=7) nd rfl (by trivial) (cS n5 uR (bO hu (ah (wpv 0)) (ax ak) (fun _ _=>rfl) (fun _ _=>rfl)) (ah (wpv 1))))
   (aq (ki hu (ah (wpv 0)) (ax ak) (cS tD HI (bO hu (ah (wpv 0)) (ax ak) (fun _ _=>rfl) (fun _ _=>rfl)) (ah (wpv 1))))
   (aB (aJ (ah (wpv 7))))))))
def ma:aG ["pen"] ["pen"] (ay jN):=⟨rfl,rfl,rfl,by decide +kernel,rfl,by decide +kernel,by decide +kernel⟩
theorem ve{k:Nat}{aw:Fn}(d:Def K mg "_law_world" jN ["pen"])(B:Blt mg)(aM:b8 P w K mg base "_law_take" (k) ["pen","many"] aw):b8 P w K mg base "_law_world" (k+1) ["pen"] (fnU 1 1 (j3 aw)):=
 d.pure ma fun f cdv A outer s H E hr=>(by
  have hu:=bF hr;have nd:=ma.nd;exact(aB (aJ (dW (ae (cS bZ bY (ax ak) (aI aM hr rfl (ae (ah (wpv 0)) (ae (ax ak) av)))) (ae (bO hu (je (ae (ax ak) (ae (ax ak) (ae (ax ak) (ae (ax ak) (ae (cS bZ bY (ax ak) (aI aM hr rfl (ae (ah (wpv 0)) (ae (ax ak) av)))) av)))))) (aI aM hr rfl (ae (ah (wpv 0)) (ae (ax ak) av))) (fun _ _=>rfl) (fun _ _=>rfl)) av))))))
theorem me:aG ["pen","world"] ["pen","world"] (ay jP):=⟨rfl,rfl,rfl,by decide +kernel,rfl,by decide +kernel,by decide +kernel⟩
theorem vf{k:Nat}{aw:Fn}(d:Def K mg "_law_state" jP ["pen","world"])(B:Blt mg)(aM:b8 P w K mg base "_law_take" (k) ["pen","many"] aw):b8 P w K mg base "_law_state" (k+1) ["pen","world"] (fnU 2 2 (j5 aw)):=
 d.pure me fun f cdv A outer s H E hr=>(by
  have hu:=bF hr;have nd:=me.nd;exact(aB (aJ (cG dh lB rfl B.tuple OG.dR (ae (p9 (Nc:=["box","pen","world"]) (tn:=["box"]) (capN:=["pen","world"]) (caps:=[0,1]) rfl (jX rfl B.range (ae (bO hu (ah (wpv 1)) (ax ak) (fun _ _=>rfl) (fun _ _=>rfl)) av)) (fun _ _ _=>(dU (bC (i:=0) (show(["box","pen","world"]:List Str).Nodup by decide +kernel) rfl (by trivial)))) (fun _ _ _=>(aI aM hr rfl (ae (ah (wpv 1)) (ae (bO hu (ah (wpv 2)) (ax ak) (fun _ _=>rfl) (fun _ _=>rfl)) av)))) rfl rfl (by decide +kernel) (by decide +kernel) ⟨rfl,rfl,trivial⟩ rfl (.cons ⟨rfl,rfl,rfl,_,rfl⟩ (.cons ⟨rfl,rfl,rfl,_,rfl⟩ .nil)) rfl rfl) av)))))
theorem nY:aG ["dealing","many","deed"] ["dealing"] (ay lj):=⟨rfl,rfl,rfl,by decide +kernel,rfl,by decide +kernel,by decide +kernel⟩
theorem lD{k:Nat}{bj:Fn}(d:Def K mg "_law_size" lj ["dealing"])(B:Blt mg)(ig:b8 P w K mg base "_law_size" (k) ["dealing"] bj):b8 P w K mg base "_law_size" (k+1) ["dealing"] (fnU 3 1 (lM bj)):=
 d.pure nY fun f cdv A outer s H E hr=>(by
  have hu:=bF hr;have nd:=nY.nd;exact(aq (aN (i:=1) nd rfl (by trivial) (ax ak))
   (aq (mq PassesOwn.never rfl (jW (ah (wpv 0))) (dU (bC (i:=2) nd rfl (by trivial))) (aq (aN (i:=1) nd rfl (by trivial) (cS bZ bY (ah (wpv 1)) (ax ak)))
   (aB (bD (aP cK iJ (bO hu (ah (wpv 2)) (ax ak) (fun _ _=>rfl) (fun _ _=>rfl)) (aS aC) (aF _)) (aB (aN (i:=1) nd rfl (by trivial) (cS bZ bY (cS bZ bY (ah (wpv 1)) (aI ig hr rfl (ae (bO hu (ah (wpv 2)) (ax ak) (fun _ _=>rfl) (fun _ _=>rfl)) av))) (aI ig hr rfl (ae (bO hu (ah (wpv 2)) (ax ak) (fun _ _=>rfl) (fun _ _=>rfl)) av))))) a8))))
   (aB (aJ (ah (wpv 1)))))))
theorem iq:aG ["pen","world","way","hand"] ["pen","world","way","hand"] (ay fz):=⟨rfl,rfl,rfl,by decide +kernel,rfl,by decide +kernel,by decide +kernel⟩
theorem m6{k:Nat}{aw:Fn}(d:Def K mg "_law_plain_deed" fz ["pen","world","way","hand"])(B:Blt mg)(aM:b8 P w K mg base "_law_take" (k) ["pen","many"] aw):b8 P w K mg base "_law_plain_deed" (k+1) ["pen","world","way","hand"] (fnU 4 4 (bM aw)):=
 d.pure iq fun f cdv A outer s H E hr=>(by
  have hu:=bF hr;have nd:=iq.nd;exact(aq (bD (aP jD uo (ah (wpv 2)) (ax ak) (aF _)) (aB (aJ (dW (ae (aS aC) (ae (ah (wpv 3)) (ae (aI aM hr rfl (ae (ah (wpv 0)) (ae (bO hu (ah (wpv 1)) (ax ak) (fun _ _=>rfl) (fun _ _=>rfl)) av))) av)))))) a8)
   (aq (bD (aP jD uo (ah (wpv 2)) (ax ak) (aF _)) (aB (aJ (dW (ae (aS aC) (ae (aI aM hr rfl (ae (ah (wpv 0)) (ae (bO hu (ah (wpv 1)) (ax ak) (fun _ _=>rfl) (fun _ _=>rfl)) av))) (ae (ah (wpv 3)) av)))))) a8)
   (aq (bD (aP jD uo (ah (wpv 2)) (ax ak) (aF _)) (aB (aJ (dW (ae (aS aC) (ae (ah (wpv 3)) (ae (aI aM hr rfl (ae (ah (wpv 0)) (ae (bO hu (ah (wpv 1)) (ax ak) (fun _ _=>rfl) (fun _ _=>rfl)) av))) av)))))) a8)
   (aq (bD (aP jD uo (ah (wpv 2)) (ax ak) (aF _)) (aB (aJ (dW (ae (aS aC) (ae (ah (wpv 3)) (ae (aI aM hr rfl (ae (ah (wpv 0)) (ae (ax ak) av))) av)))))) a8)
   (aB (aJ (dW (ae (aS aC) (ae (ah (wpv 3)) (ae (cS bZ bY (ax ak) (aI aM hr rfl (ae (ah (wpv 0)) (ae (bO hu (je (ae (ax ak) (ae (ax ak) av))) (aI aM hr rfl (ae (ah (wpv 0)) (ae (ax ak) av))) (fun _ _=>rfl) (fun _ _=>rfl)) av)))) av)))))))))))
theorem jJ:aG ["pen","world","room","tries","deeds","left","k","way","hand","one","other"] ["pen","world","room","tries"] (ay iV):=⟨rfl,rfl,rfl,by decide +kernel,rfl,by decide +kernel,by decide +kernel⟩
theorem fY{k:Nat}{aw bA aK bj:Fn}(d:Def K mg "_law_dealing" iV ["pen","world","room","tries"])(B:Blt mg)(aM:b8 P w K mg base "_law_take" (k) ["pen","many"] aw)(nF:b8 P w K mg base "_law_plain_deed" (k) ["pen","world","way","hand"] bA)(gb:b8 P w K mg base "_law_dealing" (k) ["pen","world","room","tries"] aK)(ig:b8 P w K mg base "_law_size" (k) ["dealing"] bj):b8 P w K mg base "_law_dealing" (k+1) ["pen","world","room","tries"] (fnU 11 4 (i6 aw bA aK bj)):=
 d.pure jJ fun f cdv A outer s H E hr=>(by
  have hu:=bF hr;have nd:=jJ.nd;exact(aq (aN (i:=4) nd rfl (by trivial) (je av))
   (aq (aN (i:=5) nd rfl (by trivial) (ah (wpv 2)))
   (aq (mq PassesOwn.never rfl (jX rfl B.range (ae (aI aM hr rfl (ae (ah (wpv 0)) (ae (cS bZ bY (bp (BS rfl) PJ rfl B.min OG.EH (ae (ax ak) (ae (ah (wpv 2)) av))) (ax ak)) av))) av)) (dU (bC (i:=6) nd rfl (by trivial))) (aq (aN (i:=7) nd rfl (by trivial) (aI aM hr rfl (ae (ah (wpv 0)) (ae (ax ak) av))))
   (aq (aN (i:=8) nd rfl (by trivial) (aI aM hr rfl (ae (ah (wpv 0)) (ae (ax ak) av))))
   (aB (bD (AN (qX (aP qZ Cr (ah (wpv 5)) (ax ak) (aF _)) (qX (aP jD uo (bp eZ eY rfl B.len PySem.boot_len (ae (ah (wpv 4)) av)) (ax ak) (aF _)) (qb (aP jD uo (ah (wpv 7)) (ax ak) (aF _)))))) (aq (bo (iI (ah (wpv 4)) (ae (aI nF hr rfl (ae (ah (wpv 0)) (ae (ah (wpv 1)) (ae (ah (wpv 7)) (ae (ah (wpv 8)) av))))) av)))
   (aB (aN (i:=5) nd rfl (by trivial) (cS iK mr (ah (wpv 5)) (ax ak))))) (aB (bD (AN (qX (aP qZ Cr (ah (wpv 5)) (ax ak) (aF _)) (qX (aP jD uo (bp eZ eY rfl B.len PySem.boot_len (ae (ah (wpv 4)) av)) (ax ak) (aF _)) (qb (AN (K5 (aP cK iJ (ah (wpv 7)) (ax ak) (aF _)) (Dr (aP cK iJ (ah (wpv 3)) (ax ak) (aF _))))))))) (aq (bD (AN (qX (aP qZ Cr (ah (wpv 5)) (ax ak) (aF _)) (qX (aP jD uo (bp eZ eY rfl B.len PySem.boot_len (ae (ah (wpv 4)) av)) (ax ak) (aF _)) (qb (aP qZ Cr (aI aM hr rfl (ae (ah (wpv 0)) (ae (ax ak) av))) (ax ak) (aF _)))))) (aq (bo (iI (ah (wpv 4)) (ae (dW (ae (aS aC) (ae (ah (wpv 8)) (ae (ax ak) av)))) av)))
   (aB (aN (i:=5) nd rfl (by trivial) (cS iK mr (ah (wpv 5)) (ax ak))))) a8)
   (aq (bo (iI (ah (wpv 4)) (ae (dW (ae (aS aC) av)) av)))
   (aB (aN (i:=5) nd rfl (by trivial) (cS iK mr (ah (wpv 5)) (ax ak)))))) (aB (bD (AN (qX (aP qZ Cr (ah (wpv 5)) (ax ak) (aF _)) (qb (aP jD uo (bp eZ eY rfl B.len PySem.boot_len (ae (ah (wpv 4)) av)) (ax ak) (aF _))))) (aq (aN (i:=9) nd rfl (by trivial) (aI gb hr rfl (ae (ah (wpv 0)) (ae (ah (wpv 1)) (ae (aI aM hr rfl (ae (ah (wpv 0)) (ae (ah (wpv 5)) av))) (ae (cS iK mr (ah (wpv 3)) (ax ak)) av))))))
   (aq (aN (i:=5) nd rfl (by trivial) (cS iK mr (cS iK mr (ah (wpv 5)) (ax ak)) (aI ig hr rfl (ae (ah (wpv 9)) av))))
   (aq (aN (i:=10) nd rfl (by trivial) (aI gb hr rfl (ae (ah (wpv 0)) (ae (ah (wpv 1)) (ae (aI aM hr rfl (ae (ah (wpv 0)) (ae (cS bZ bY (ah (wpv 5)) (ax ak)) av))) (ae (cS iK mr (ah (wpv 3)) (ax ak)) av))))))
   (aq (aN (i:=5) nd rfl (by trivial) (cS iK mr (ah (wpv 5)) (aI ig hr rfl (ae (ah (wpv 10)) av))))
   (aB (bo (iI (ah (wpv 4)) (ae (dW (ae (aS aC) (ae (ah (wpv 9)) (ae (ah (wpv 10)) av)))) av)))))))) a8)))))))))
   (aB (aJ (cG dh lB rfl B.tuple OG.dR (ae (ah (wpv 4)) av))))))))
theorem md:aG ["dealing","found","deed"] ["dealing"] (ay jO):=⟨rfl,rfl,rfl,by decide +kernel,rfl,by decide +kernel,by decide +kernel⟩
theorem iM{k:Nat}{aW:Fn}(d:Def K mg "_law_words" jO ["dealing"])(B:Blt mg)(iQ:b8 P w K mg base "_law_words" (k) ["dealing"] aW):b8 P w K mg base "_law_words" (k+1) ["dealing"] (fnU 3 1 (j4 aW)):=
 d.pure md fun f cdv A outer s H E hr=>(by
  have hu:=bF hr;have nd:=md.nd;exact(aq (aN (i:=1) nd rfl (by trivial) (je (ae (aS aC) av)))
   (aq (mq PassesOwn.never rfl (jW (ah (wpv 0))) (dU (bC (i:=2) nd rfl (by trivial))) (aB (bD (aP cK iJ (bO hu (ah (wpv 2)) (ax ak) (fun _ _=>rfl) (fun _ _=>rfl)) (aS aC) (aF _)) (aB (aN (i:=1) nd rfl (by trivial) (cS bZ bY (cS bZ bY (cS bZ bY (ah (wpv 1)) (je (ae (aS aC) av))) (aI iQ hr rfl (ae (bO hu (ah (wpv 2)) (ax ak) (fun _ _=>rfl) (fun _ _=>rfl)) av))) (aI iQ hr rfl (ae (bO hu (ah (wpv 2)) (ax ak) (fun _ _=>rfl) (fun _ _=>rfl)) av))))) (aB (aN (i:=1) nd rfl (by trivial) (cS bZ bY (cS bZ bY (ah (wpv 1)) (je (ae (bO hu (ah (wpv 2)) (ax ak) (fun _ _=>rfl) (fun _ _=>rfl)) av))) (p9 (Nc:=["number"]) (tn:=["number"]) (capN:=[]) (caps:=[]) rfl (jW (zb (ah (wpv 2)) (fH (ax ak)) fJ)) (fun _ _ _=>(dU (bC (i:=0) (show(["number"]:List Str).Nodup by decide +kernel) rfl (by trivial)))) (fun _ _ _=>(cG cY uP rfl B.str OG.gQ (ae (ah (wpv 0)) av))) rfl rfl (by decide +kernel) (by decide +kernel) trivial rfl .nil rfl rfl)))))))
   (aB (aJ (cS bZ bY (ah (wpv 1)) (je (ae (aS aC) av))))))))
def kg(CA:Addr):CR:=
 (xIf (xi (aL (ao 0))) (xy CA (ag (ao 1) aD)) xNo)
def yt{CA:Addr}{a0 a1:U}{S:Sto}:fnX 2 2 (kg CA) [a0,a1] S=(kg CA) [some a0,some a1] S:=rfl
theorem Hc{k:Nat}{CA:Addr}{CG CT CM CN CS:Addr}(d:Def K mg "check" sX ["fits","words"])(B:Blt mg)(V:EU K mg CA CG CT CM CN CS):Cy P w K mg base "check" (k+1) ["fits","words"] (fnX 2 2 (kg CA)):=
 DfD.pureX d oQ fun f cdv A outer s H E hr=>(by
  have hu:=bF hr;have nd:=oQ.nd;exact(eW (GY (jd (gI (ah (wpv 0)))) (eW (Dh rfl V.ga V.xa.ex (ae (ah (wpv 1)) av))) GX)))
def dk(bz:Fn)(x_check:FnR)(cDesk:Cl)(CA:Addr):CR:=
 (zZ (b5 2 (cCB bz (ag (ao 1) aD))) (qV x_check (ag (cOp fLt (ao 2) (cCB fx (ag (gh cDesk 2 (ao 0)) aD))) (ag (cC (.str "there is no such dealing")) aD))))
theorem oI{bz:Fn}{x_check:FnR}{cDesk:Cl}{CA:Addr}{a0 a1:U}{S:Sto}:fnX 3 2 (dk bz x_check cDesk CA) [a0,a1] S=(dk bz x_check cDesk CA) [some a0,some a1,none] S:=rfl
theorem p7{k:Nat}{bz:Fn}{x_check:FnR}{cDesk:Cl}{CA:Addr}{CG CT CM CN CS:Addr}(d:MtD K cDesk.C "place_of" "Desk.place_of" eV ["self","word"])(B:Blt mg)(V:EU K mg CA CG CT CM CN CS)(TDesk:TC K cDesk ["world","state","dealings","tries"])(jh:b8 P w K mg base "numbered" k ["word"] bz)(X_check:Cy P w K mg base "check" k ["fits","words"] x_check):mI P w K mg base cDesk "place_of" (k+1) ["self","word"] (fnX 3 2 (dk bz x_check cDesk CA)):=
 d.pureR d8 fun f cdv A outer s H E hr=>(by
  have hu:=bF hr;have nd:=d8.nd;exact(rY (aN (i:=2) nd rfl (by trivial) (aI jh hr rfl (ae (ah (wpv 1)) av))) (eW (sY (sZ X_check hr wg rfl (ae (gJ jD uo (ah (wpv 2)) (bp eZ eY rfl B.len PySem.boot_len (ae (cq TDesk.cl (TDesk.na 2 rfl) (TDesk.ix rfl) (ah (wpv 0))) av)) (aF _)) (ae (aS aC) av)))))))
def cV(aR cw:Fn)(x_check x_Desk_place_of:FnR)(cDesk:Cl)(CA:Addr):CR:=
 (Cq (qV x_check (ag (cOp fEq (cCB fx (ag (ao 1) aD)) (cC (.int 1))) (ag (cC (.str "one dealing is asked")) aD))) (zZ (cP (cCB aR (ag (cOp fEq (cCB fx (ag (ao 1) aD)) (cC (.int 1))) (ag (cC (.str "one dealing is asked")) aD)))) (zY (gh cDesk 0 (ao 0)) (zY (gh cDesk 2 (ao 0)) (mK cDesk x_Desk_place_of (ao 0) (ag (cOp fIx (ao 1) (cC (.int 0))) aD))))))
theorem nr{aR cw:Fn}{x_check x_Desk_place_of:FnR}{cDesk:Cl}{CA:Addr}{a0 a1:U}{S:Sto}:fnX 3 2 (cV aR cw x_check x_Desk_place_of cDesk CA) [a0,a1] S=(cV aR cw x_check x_Desk_place_of cDesk CA) [some a0,some a1,none] S:=rfl
theorem oy{k:Nat}{aR cw:Fn}{x_check x_Desk_place_of:FnR}{cDesk:Cl}{CA:Addr}{CG CT CM CN CS:Addr}(d:MtD K cDesk.C "say_alone" "Desk.say_alone" d9 ["self","words"])(B:Blt mg)(V:EU K mg CA CG CT CM CN CS)(TDesk:TC K cDesk ["world","state","dealings","tries"])(dE:b8 P w K mg base "check" k ["fits","words"] aR)(lT:b8 P w K mg base "alone" k ["world","dealing","state"] cw)(X_check:Cy P w K mg base "check" k ["fits","words"] x_check)(R_Desk_place_of:mI P w K mg base cDesk "place_of" k ["self","word"] x_Desk_place_of):mI P w K mg base cDesk "say_alone" (k+1) ["self","words"] (fnX 3 2 (cV aR cw x_check x_Desk_place_of cDesk CA)):=
 d.pureR dF fun f cdv A outer s H E hr=>(by
  have hu:=bF hr;have nd:=dF.nd;exact(AH (eW (sY (sZ X_check hr wg rfl (ae (gJ cK iJ (bp eZ eY rfl B.len PySem.boot_len (ae (ah (wpv 1)) av)) (ax ak) (aF _)) (ae (aS aC) av))))) (rY (bo (aI dE hr rfl (ae (gJ cK iJ (bp eZ eY rfl B.len PySem.boot_len (ae (ah (wpv 1)) av)) (ax ak) (aF _)) (ae (aS aC) av)))) (eW (KR (i:=2) nd rfl (by trivial) (G7 lT hr rfl (Ha (cq TDesk.cl (TDesk.na 0 rfl) (TDesk.ix rfl) (ah (wpv 0))) (Hb (Pf (cq TDesk.cl (TDesk.na 2 rfl) (TDesk.ix rfl) (ah (wpv 0))) (vX TDesk.cl R_Desk_place_of hr wg (TDesk.nm (by decide +kernel)) (ah (wpv 0)) (ae (bO hu (ah (wpv 1)) (ax ak) (fun _ _=>rfl) (fun _ _=>rfl)) av)) (fun _ _=>rfl))))))))))
def dj(x_check:FnR)(cDesk:Cl)(CA:Addr):CR:=
 (qV x_check (ag (lP (cOp fGt (cCB fx (ag (ao 1) aD)) (cC (.int 0))) (cOp fLt (cCB fx (ag (gh cDesk 2 (ao 0)) aD)) (cC (.int 12)))) (ag (cC (.str "no words, or too many dealings")) aD)))
theorem oH{x_check:FnR}{cDesk:Cl}{CA:Addr}{a0 a1:U}{S:Sto}:fnX 2 2 (dj x_check cDesk CA) [a0,a1] S=(dj x_check cDesk CA) [some a0,some a1] S:=rfl
theorem p6{k:Nat}{x_check:FnR}{cDesk:Cl}{CA:Addr}{CG CT CM CN CS:Addr}(d:MtD K cDesk.C "say_deal" "Desk.say_deal" eU ["self","words"])(B:Blt mg)(V:EU K mg CA CG CT CM CN CS)(C_MOST_DEALINGS:∃t,mg "MOST_DEALINGS"=some (.int (12) t))(TDesk:TC K cDesk ["world","state","dealings","tries"])(X_check:Cy P w K mg base "check" k ["fits","words"] x_check):mI P w K mg base cDesk "say_deal" (k+1) ["self","words"] (fnX 2 2 (dj x_check cDesk CA)):=
 d.pureR d7 fun f cdv A outer s H E hr=>(by
  have hu:=bF hr;have nd:=d7.nd;exact(eW (sY (sZ X_check hr wg rfl (ae (jY (gJ qZ Cr (bp eZ eY rfl B.len PySem.boot_len (ae (ah (wpv 1)) av)) (ax ak) (aF _)) (qW (gJ jD uo (bp eZ eY rfl B.len PySem.boot_len (ae (cq TDesk.cl (TDesk.na 2 rfl) (TDesk.ix rfl) (ah (wpv 0))) av)) (ax (fW rfl C_MOST_DEALINGS)) (aF _)))) (ae (aS aC) av))))))
def fy(aR aY bb:Fn)(x_check x_Desk_say_deal x_Desk_say_alone:FnR)(cDesk:Cl)(CA:Addr):CR:=
 (zZ (b5 2 (cBS jf (ao 1) (ag (cC (.str " ")) aD))) (zZ (dC (aL (cOp fEq (cOp fIx (ao 2) (cC (.int 0))) (cC (.str "world")))) (cT (bH cDesk aY (ao 0) (ag (cSl (ao 2) (some (cC (.int 1))) none) aD))) bB) (Cq (qV x_check (ag (cOp ik (gh cDesk 0 (ao 0)) (cC .non)) (ag (cC (.str "there is no world yet")) aD))) (zZ (cP (cCB aR (ag (cOp ik (gh cDesk 0 (ao 0)) (cC .non)) (ag (cC (.str "there is no world yet")) aD)))) (Cq (xIf (aL (cOp fEq (cOp fIx (ao 2) (cC (.int 0))) (cC (.str "deal")))) (mK cDesk x_Desk_say_deal (ao 0) (ag (cSl (ao 2) (some (cC (.int 1))) none) aD)) xNo) (zZ (dC (aL (cOp fEq (cOp fIx (ao 2) (cC (.int 0))) (cC (.str "deal")))) (cT (bH cDesk bb (ao 0) (ag (cSl (ao 2) (some (cC (.int 1))) none) aD))) bB) (xIf (aL (cOp fEq (cOp fIx (ao 2) (cC (.int 0))) (cC (.str "alone")))) (mK cDesk x_Desk_say_alone (ao 0) (ag (cSl (ao 2) (some (cC (.int 1))) none) aD)) xNo)))))))
theorem qA{aR aY bb:Fn}{x_check x_Desk_say_deal x_Desk_say_alone:FnR}{cDesk:Cl}{CA:Addr}{a0 a1:U}{S:Sto}:fnX 3 2 (fy aR aY bb x_check x_Desk_say_deal x_Desk_say_alone cDesk CA) [a0,a1] S=(fy aR aY bb x_check x_Desk_say_deal x_Desk_say_alone cDesk CA) [some a0,some a1,none] S:=rfl
theorem za{k:Nat}{aR aY bb:Fn}{x_check x_Desk_say_deal x_Desk_say_alone:FnR}{cDesk:Cl}{CA:Addr}{CG CT CM CN CS:Addr}(d:MtD K cDesk.C "say" "Desk.say" kh ["self","row"])(B:Blt mg)(V:EU K mg CA CG CT CM CN CS)(TDesk:TC K cDesk ["world","state","dealings","tries"])(dE:b8 P w K mg base "check" k ["fits","words"] aR)(M_Desk_say_world:cH P w K mg base cDesk "say_world" k ["self","words"] aY)(M_Desk_say_deal:cH P w K mg base cDesk "say_deal" k ["self","words"] bb)(X_check:Cy P w K mg base "check" k ["fits","words"] x_check)(R_Desk_say_deal:mI P w K mg base cDesk "say_deal" k ["self","words"] x_Desk_say_deal)(R_Desk_say_alone:mI P w K mg base cDesk "say_alone" k ["self","words"] x_Desk_say_alone):mI P w K mg base cDesk "say" (k+1) ["self","row"] (fnX 3 2 (fy aR aY bb x_check x_Desk_say_deal x_Desk_say_alone cDesk CA)):=
 d.pureR jj fun f cdv A outer s H E hr=>(by
  have hu:=bF hr;have nd:=jj.nd;exact(rY (aN (i:=2) nd rfl (by trivial) (vY (ah (wpv 1)) (ae (aS aC) av))) (rY (bD (aP cK iJ (bO hu (ah (wpv 2)) (ax ak) (fun _ _=>rfl) (fun _ _=>rfl)) (aS aC) (aF _)) (aB (aJ (b6 TDesk.cl M_Desk_say_world hr (TDesk.nm (by decide +kernel)) (ah (wpv 0)) (ae (zb (ah (wpv 2)) (fH (ax ak)) fJ) av)))) a8) (AH (eW (sY (sZ X_check hr wg rfl (ae (gJ jq mv (cq TDesk.cl (TDesk.na 0 rfl) (TDesk.ix rfl) (ah (wpv 0))) (gz bW) (aF _)) (ae (aS aC) av))))) (rY (bo (aI dE hr rfl (ae (gJ jq mv (cq TDesk.cl (TDesk.na 0 rfl) (TDesk.ix rfl) (ah (wpv 0))) (gz bW) (aF _)) (ae (aS aC) av)))) (AH (eW (GY (aP cK iJ (bO hu (ah (wpv 2)) (ax ak) (fun _ _=>rfl) (fun _ _=>rfl)) (aS aC) (aF _)) (eW (E9 (vX TDesk.cl R_Desk_say_deal hr wg (TDesk.nm (by decide +kernel)) (ah (wpv 0)) (ae (zb (ah (wpv 2)) (fH (ax ak)) fJ) av)))) GX)) (rY (bD (aP cK iJ (bO hu (ah (wpv 2)) (ax ak) (fun _ _=>rfl) (fun _ _=>rfl)) (aS aC) (aF _)) (aB (aJ (b6 TDesk.cl M_Desk_say_deal hr (TDesk.nm (by decide +kernel)) (ah (wpv 0)) (ae (zb (ah (wpv 2)) (fH (ax ak)) fJ) av)))) a8) (eW (GY (aP cK iJ (bO hu (ah (wpv 2)) (ax ak) (fun _ _=>rfl) (fun _ _=>rfl)) (aS aC) (aF _)) (eW (E9 (vX TDesk.cl R_Desk_say_alone hr wg (TDesk.nm (by decide +kernel)) (ah (wpv 0)) (ae (zb (ah (wpv 2)) (fH (ax ak)) fJ) av)))) GX)))))))))
theorem nZ:aG ["desk","row","told","word","some","e"] ["desk","row"] (ay lu):=⟨rfl,rfl,rfl,by decide +kernel,rfl,by decide +kernel,by decide +kernel⟩
def jt(ko:Fn)(x_Desk_say:FnR)(cDesk:Cl)(CA:Addr):CS:=
 (aV (b5 2 (cC .non))
  (aV (b5 3 (cC (.str "told")))
  (aV (Jh [CA,CA] 5 (b5 2 (bH cDesk ko (ao 0) (ag (ao 1) aD))) (mK cDesk x_Desk_say (ao 0) (ag (ao 1) aD)) (aV (b5 4 (kr (ag (rC (fX CA CA false false) (ao 5)) (ag (rC (fX CA CA true true) (ao 5)) aD))))
  (aV (b5 4 (cOp cX (ao 4) (kr (ag (rC (fX CA CA false false) (ao 5)) (ag (rC (fX CA CA false false) (ao 5)) aD)))))
  (aV (b5 4 (cOp cX (ao 4) (kr (ag (rC (fX CA CA false false) (ao 5)) aD))))
  (aV (b5 3 (cC (.str "unlike")))
  (aV (dC (rD (aL (cOp fEq (cBM wW (ao 4) (ag (cC (.bl true)) aD)) (cC (.int 1)))) (aL (rC (fX CA CA true true) (ao 5)))) (b5 3 (cOp fIx (kr (ag (cC (.str "text")) (ag (cC (.str "row")) (ag (cC (.str "many")) (ag (cC (.str "attempt")) (ag (cC (.str "step")) aD)))))) (cBM wU (ao 4) (ag (cC (.bl true)) aD)))) bB)
  (dC (aL (rC (fX CA CA false false) (ao 5))) mD bB)))))))
  (cT (jw (ag (ao 3) (ag (ao 2) aD)))))))
theorem wO{k:Nat}{ko:Fn}{x_Desk_say:FnR}{cDesk:Cl}{CA:Addr}{CG CT CM CN CS:Addr}(d:Def K mg "_law_said" lu ["desk","row"])(B:Blt mg)(V:EU K mg CA CG CT CM CN CS)(TDesk:TC K cDesk ["world","state","dealings","tries"])(M_Desk_say:cH P w K mg base cDesk "say" k ["self","row"] ko)(R_Desk_say:mI P w K mg base cDesk "say" k ["self","row"] x_Desk_say):b8 P w K mg base "_law_said" (k+1) ["desk","row"] (fnU 6 2 (jt ko x_Desk_say cDesk CA)):=
 d.pure nZ fun f cdv A outer s H E hr=>(by
  have hu:=bF hr;have nd:=nZ.nd;exact(aq (aN (i:=2) nd rfl (by trivial) (gz bW))
   (aq (aN (i:=3) nd rfl (by trivial) (aS aC))
   (aq (Hf (fun _ _ h=>h) rfl rfl nd rfl rfl rfl V.gg V.cs (aB (aN (i:=2) nd rfl (by trivial) (b6 TDesk.cl M_Desk_say hr (TDesk.nm (by decide +kernel)) (ah (wpv 0)) (ae (ah (wpv 1)) av)))) (KQ (GV (fun _ _ h=>h) TDesk.cl R_Desk_say hr (TDesk.nm (by decide +kernel)) (ah (wpv 0)) (ae (ah (wpv 1)) av))) (fun ea=>(aq (aN (i:=4) nd rfl (by trivial) (je (ae (se (hkX V.xa V.xa V.ot V.ot) (ah (wpv 5)) (ji rfl V.gt) rfl B.isinstance) (ae (se (hkX V.xa V.xa V.aa V.aa) (ah (wpv 5)) (ji rfl V.ga) rfl B.isinstance) av))))
   (aq (aN (i:=4) nd rfl (by trivial) (cS bZ bY (ah (wpv 4)) (je (ae (se (hkX V.xa V.xa V.om V.om) (ah (wpv 5)) (ji rfl V.gm) rfl B.isinstance) (ae (se (hkX V.xa V.xa V.on V.on) (ah (wpv 5)) (ji rfl V.gn) rfl B.isinstance) av)))))
   (aq (aN (i:=4) nd rfl (by trivial) (cS bZ bY (ah (wpv 4)) (je (ae (se (hkX V.xa V.xa V.os V.os) (ah (wpv 5)) (ji rfl V.gs) rfl B.isinstance) av))))
   (aq (aN (i:=3) nd rfl (by trivial) (aS aC))
   (aq (bD (AN (qX (aP cK iJ (Lb (ah (wpv 4)) (ae (tq eN) av)) (ax ak) (aF _)) (qb (gI (K7 (hkX V.xa V.xa V.va V.va) (ah (wpv 5)) (rH rfl V.gv rfl) rfl B.isinstance))))) (aB (aN (i:=3) nd rfl (by trivial) (bO hu (je (ae (aS aC) (ae (aS aC) (ae (aS aC) (ae (aS aC) (ae (aS aC) av)))))) (K8 (ah (wpv 4)) (ae (tq eN) av)) (fun _ _=>rfl) (fun _ _=>rfl)))) a8)
   (aB (bD (gI (se (hkX V.xa V.xa V.ot V.ot) (ah (wpv 5)) (ji rfl V.gt) rfl B.isinstance)) (aB jo) a8)))))))))
   (aB (aJ (dW (ae (ah (wpv 3)) (ae (ah (wpv 2)) av)))))))))
theorem nW:aG ["desk","row","due","word","told"] ["desk","row","due"] (ay kY):=⟨rfl,rfl,rfl,by decide +kernel,rfl,by decide +kernel,by decide +kernel⟩
def lL(bq:Fn):CS:=
 (aV (NI (cCB bq (ag (ao 0) (ag (ao 1) aD))) (gTp [3,4]))
  (cT (lP (cOp fEq (ao 3) (cC (.str "told"))) (lP (Cu .str (ao 4)) (cOp fEq (ao 4) (ao 2))))))
theorem wM{k:Nat}{bq:Fn}(d:Def K mg "_law_told" kY ["desk","row","due"])(B:Blt mg)(jA:b8 P w K mg base "_law_said" (k) ["desk","row"] bq):b8 P w K mg base "_law_told" (k+1) ["desk","row","due"] (fnU 5 3 (lL bq)):=
 d.pure nW fun f cdv A outer s H E hr=>(by
  have hu:=bF hr;have nd:=nW.nd;exact(aq (K3 (aI jA hr rfl (ae (ah (wpv 0)) (ae (ah (wpv 1)) av))) (xV rfl (iH (bC (i:=3) nd rfl (by trivial)) (iH (bC (i:=4) nd rfl (by trivial)) tj))))
   (aB (aJ (jY (gJ cK iJ (ah (wpv 3)) (aS aC) (aF _)) (jY (AO (T:=.str) (by intro z;cases z) (ah (wpv 4)) (rH rfl B.str OG.gQ) rfl B.isinstance) (qW (gJ cK iJ (ah (wpv 4)) (ah (wpv 2)) (aF _)))))))))
def jI:aG ["numbers"] ["numbers"] (ay iU):=⟨rfl,rfl,rfl,by decide +kernel,rfl,by decide +kernel,by decide +kernel⟩
def i0:CS:=
 (aV (dC (aL (cOp (El false) (cCB vm (ag (ao 0) aD)) (kr aD))) (cT (cC (.str "-"))) bB)
  (cT (cBS lF (cC (.str " ")) (ag (gE (iTp (ao 0)) (gNm 0) (cCB qU (ag (ao 0) aD)) 1 []) aD))))
theorem rl{k:Nat}(d:Def K mg "_law_numbers" iU ["numbers"])(B:Blt mg):b8 P w K mg base "_law_numbers" (k+1) ["numbers"] (fnU 1 1 (i0 )):=
 d.pure jI fun f cdv A outer s H E hr=>(by
  have hu:=bF hr;have nd:=jI.nd;exact(aq (bD (aP (LX hr.units) LP (cG j2 Ff rfl B.list OG.qL (ae (ah (wpv 0)) av)) (je av) (aF _)) (aB (aJ (aS aC))) a8)
   (aB (aJ (xW (aS aC) (ae (p9 (Nc:=["number"]) (tn:=["number"]) (capN:=[]) (caps:=[]) rfl (jW (ah (wpv 0))) (fun _ _ _=>(dU (bC (i:=0) (show(["number"]:List Str).Nodup by decide +kernel) rfl (by trivial)))) (fun _ _ _=>(cG cY uP rfl B.str OG.gQ (ae (ah (wpv 0)) av))) rfl rfl (by decide +kernel) (by decide +kernel) trivial rfl .nil rfl rfl) av))))))
theorem i9:aG ["world","state"] ["world","state"] (ay gq):=⟨rfl,rfl,rfl,by decide +kernel,rfl,by decide +kernel,by decide +kernel⟩
def gB(br:Fn):CS:=
 (cT (cOp cX (cOp cX (cOp cX (cC (.str "world ")) (cCB br (ag (ao 0) aD))) (cC (.str " "))) (cCB br (ag (ao 1) aD))))
theorem oB{k:Nat}{br:Fn}(d:Def K mg "_law_world_row" gq ["world","state"])(B:Blt mg)(dv:b8 P w K mg base "_law_numbers" (k) ["numbers"] br):b8 P w K mg base "_law_world_row" (k+1) ["world","state"] (fnU 2 2 (gB br)):=
 d.pure i9 fun f cdv A outer s H E hr=>(by
  have hu:=bF hr;have nd:=i9.nd;exact(aB (aJ (cS bZ bY (cS bZ bY (cS bZ bY (aS aC) (aI dv hr rfl (ae (ah (wpv 0)) av))) (aS aC)) (aI dv hr rfl (ae (ah (wpv 1)) av))))))
theorem gY:aG ["pen","desk","world","state","dealings","number","found","order","due"] ["pen","desk","world","state","dealings"] (ay eR):=⟨rfl,rfl,rfl,by decide +kernel,rfl,by decide +kernel,by decide +kernel⟩
def fg(aw cw bh br gO:Fn):CS:=
 (aV (b5 5 (cCB aw (ag (ao 0) (ag (cCB fx (ag (ao 4) aD)) aD))))
  (aV (b5 6 (cCB cw (ag (ao 2) (ag (cOp fIx (ao 4) (ao 5)) (ag (ao 3) aD)))))
  (aV (dC (xi (aL (cCB bh (ag (ao 1) (ag (cOp cX (cC (.str "alone ")) (cCB qU (ag (ao 5) aD))) (ag (cOp cX (cOp cX (cOp fIx (ao 6) (cC (.int 0))) (cC (.str " "))) (cCB br (ag (cOp fIx (ao 6) (cC (.int 1))) aD))) aD)))))) (cT (cC (.bl false))) bB)
  (aV (b5 7 (gE (fM (ag (cOp cX (cC (.int 1)) (cCB aw (ag (ao 0) (ag (cOp fIx (kr (ag (cC (.int 3)) (ag (cC (.int 12)) aD))) (cCB aw (ag (ao 0) (ag (cC (.int 2)) aD)))) aD)))) aD)) (gNm 0) (cCB aw (ag (ao 1) (ag (cCB fx (ag (ao 2) aD)) aD))) 1 [0,4]))
  (aV (b5 6 (cCB gO (ag (ao 2) (ag (ao 4) (ag (ao 3) (ag (ao 7) aD))))))
  (aV (b5 8 (cIf (aL (cOp fEq (cOp fIx (ao 6) (cC (.int 0))) (cC (.str "done")))) (cOp cX (cC (.str "done ")) (cCB br (ag (cOp fIx (ao 6) (cC (.int 1))) aD))) (cOp cX (cC (.str "waits ")) (cCB qU (ag (cOp fIx (ao 6) (cC (.int 1))) aD)))))
  (cT (cCB bh (ag (ao 1) (ag (cOp cX (cC (.str "row ")) (cCB br (ag (ao 7) aD))) (ag (ao 8) aD)))))))))))
theorem mz{k:Nat}{aw cw bh br gO:Fn}(d:Def K mg "_law_asked_right" eR ["pen","desk","world","state","dealings"])(B:Blt mg)(aM:b8 P w K mg base "_law_take" (k) ["pen","many"] aw)(lT:b8 P w K mg base "alone" (k) ["world","dealing","state"] cw)(ie:b8 P w K mg base "_law_told" (k) ["desk","row","due"] bh)(dv:b8 P w K mg base "_law_numbers" (k) ["numbers"] br)(uj:b8 P w K mg base "in_row" (k) ["world","dealings","state","order"] gO):b8 P w K mg base "_law_asked_right" (k+1) ["pen","desk","world","state","dealings"] (fnU 9 5 (fg aw cw bh br gO)):=
 d.pure gY fun f cdv A outer s H E hr=>(by
  have hu:=bF hr;have nd:=gY.nd;exact(aq (aN (i:=5) nd rfl (by trivial) (aI aM hr rfl (ae (ah (wpv 0)) (ae (bp eZ eY rfl B.len PySem.boot_len (ae (ah (wpv 4)) av)) av))))
   (aq (aN (i:=6) nd rfl (by trivial) (aI lT hr rfl (ae (ah (wpv 2)) (ae (bO hu (ah (wpv 4)) (ah (wpv 5)) (fun _ _=>rfl) (fun _ _=>rfl)) (ae (ah (wpv 3)) av)))))
   (aq (bD (jd (gI (aI ie hr rfl (ae (ah (wpv 1)) (ae (cS bZ bY (aS aC) (cG cY uP rfl B.str OG.gQ (ae (ah (wpv 5)) av))) (ae (cS bZ bY (cS bZ bY (bO hu (ah (wpv 6)) (ax ak) (fun _ _=>rfl) (fun _ _=>rfl)) (aS aC)) (aI dv hr rfl (ae (bO hu (ah (wpv 6)) (ax ak) (fun _ _=>rfl) (fun _ _=>rfl)) av))) av)))))) (aB (aJ (tq eN))) a8)
   (aq (rZ (Nc:=["k","pen","dealings"]) (tn:=["k"]) (capN:=["pen","dealings"]) (caps:=[0,4]) rfl (jX rfl B.range (ae (cS bZ bY (ax ak) (aI aM hr rfl (ae (ah (wpv 0)) (ae (bO hu (je (ae (ax ak) (ae (ax ak) av))) (aI aM hr rfl (ae (ah (wpv 0)) (ae (ax ak) av))) (fun _ _=>rfl) (fun _ _=>rfl)) av)))) av)) (fun _ _ _=>(dU (bC (i:=0) (show(["k","pen","dealings"]:List Str).Nodup by decide +kernel) rfl (by trivial)))) (fun _ _ _=>(aI aM hr rfl (ae (ah (wpv 1)) (ae (bp eZ eY rfl B.len PySem.boot_len (ae (ah (wpv 2)) av)) av)))) rfl rfl (by decide +kernel) (by decide +kernel) ⟨rfl,rfl,trivial⟩ rfl (.cons ⟨rfl,rfl,rfl,_,rfl⟩ (.cons ⟨rfl,rfl,rfl,_,rfl⟩ .nil)) rfl rfl nd rfl rfl rfl)
   (aq (aN (i:=6) nd rfl (by trivial) (aI uj hr rfl (ae (ah (wpv 2)) (ae (ah (wpv 4)) (ae (ah (wpv 3)) (ae (ah (wpv 7)) av))))))
   (aq (aN (i:=8) nd rfl (by trivial) (Hh (aP cK iJ (bO hu (ah (wpv 6)) (ax ak) (fun _ _=>rfl) (fun _ _=>rfl)) (aS aC) (aF _)) (cS bZ bY (aS aC) (aI dv hr rfl (ae (bO hu (ah (wpv 6)) (ax ak) (fun _ _=>rfl) (fun _ _=>rfl)) av))) (cS bZ bY (aS aC) (cG cY uP rfl B.str OG.gQ (ae (bO hu (ah (wpv 6)) (ax ak) (fun _ _=>rfl) (fun _ _=>rfl)) av)))))
   (aB (aJ (aI ie hr rfl (ae (ah (wpv 1)) (ae (cS bZ bY (aS aC) (aI dv hr rfl (ae (ah (wpv 7)) av))) (ae (ah (wpv 8)) av)))))))))))))
theorem E7:aG ["script","pen","desk","turn","world","state","dealings","k","row"] ["script"] (ay GU):=⟨rfl,rfl,rfl,by decide +kernel,rfl,by decide +kernel,by decide +kernel⟩
def qM(aw bQ bR bh ba bq aK aW aU cy:Fn)(cDesk:Cl):CS:=
 (aV (cP (cBM cN (ao 6) (ag (cCB aK (ag (ao 1) (ag (ao 4) (ag (cC (.int 10)) (ag (cC (.int 2)) aD))))) aD)))
  (aV (dC (xi (aL (cCB bh (ag (ao 2) (ag (cOp cX (cC (.str "deal ")) (cBS lF (cC (.str " ")) (ag (cCB aW (ag (cOp fIx (ao 6) (M5 (cC (.int 1)))) aD)) aD))) (ag (cCB qU (ag (ao 7) aD)) aD)))))) (cT (cC (.bl false))) bB)
  (dC (aL (cOp fEq (cCB aw (ag (ao 1) (ag (cC (.int 2)) aD))) (cC (.int 0)))) (dC (xi (aL (cCB aU (ag (ao 1) (ag (ao 2) (ag (ao 4) (ag (ao 5) (ag (ao 6) aD)))))))) (cT (cC (.bl false))) bB) bB)))
def t8(aw bQ bR bh ba bq aK aW aU cy:Fn)(cDesk:Cl):CS:=
 (dC (aL (cOp (El true) (cCB bq (ag (ao 2) (ag (ao 8) aD))) (jw (ag (cC (.str "row")) (ag (cC .non) aD))))) (cT (cC (.bl false))) bB)
def t7(aw bQ bR bh ba bq aK aW aU cy:Fn)(cDesk:Cl):CS:=
 (aV (b5 4 (cCB bQ (ag (ao 1) aD)))
  (aV (b5 5 (cCB bR (ag (ao 1) (ag (ao 4) aD))))
  (aV (dC (xi (aL (cCB bh (ag (ao 2) (ag (cCB ba (ag (ao 4) (ag (ao 5) aD))) (ag (cC (.str "ok")) aD)))))) (cT (cC (.bl false))) bB)
  (aV (dC (aL (cOp fNe (cOp fIx (cCB bq (ag (ao 2) (ag (cC (.str "alone 0")) aD))) (cC (.int 0))) (cC (.str "row")))) (cT (cC (.bl false))) bB)
  (aV (b5 6 (kr aD))
  (aV (oX (fM (ag (cOp cX (cC (.int 1)) (cCB aw (ag (ao 1) (ag (cOp fIx (kr (ag (cC (.int 4)) (ag (cC (.int 12)) aD))) (cCB aw (ag (ao 1) (ag (cC (.int 2)) aD)))) aD)))) aD)) (gNm 7) (qM aw bQ bR bh ba bq aK aW aU cy cDesk))
  (aV (dC (aL (cOp fEq (cCB fx (ag (ao 6) aD)) (cC (.int 12)))) (oX (iTp (kr (ag (cC (.str "deal ( )")) (ag (cC (.str "deal x")) (ag (cC (.str "deal ( wait")) (ag (cC (.str "deal")) aD)))))) (gNm 8) (t8 aw bQ bR bh ba bq aK aW aU cy cDesk)) bB)
  (dC (xi (aL (cCB aU (ag (ao 1) (ag (ao 2) (ag (ao 4) (ag (ao 5) (ag (ao 6) aD)))))))) (cT (cC (.bl false))) bB))))))))
def EF(aw bQ bR bh ba bq aK aW aU cy:Fn)(cDesk:Cl):CS:=
 (aV (b5 2 (cCB (rA cDesk cy) aD))
  (aV (oX (fM (ag (cOp cX (cC (.int 1)) (cCB aw (ag (ao 1) (ag (cC (.int 3)) aD)))) aD)) (gNm 3) (t7 aw bQ bR bh ba bq aK aW aU cy cDesk))
  (cT (cC (.bl true)))))
theorem Qk{k:Nat}{aw bQ bR bh ba bq aK aW aU cy:Fn}{cDesk:Cl}{fa:Addr}{fd:X5}(F:Fun K "law" "law" GU fa fd)(B:Blt mg)(TDesk:TC K cDesk ["world","state","dealings","tries"])(zS:Has P w K mg base "_law_pen" (k+1) ["script"] (E5 K))(aM:b8 P w K mg base "_law_take" (k+1) ["pen","many"] aw)(vC:b8 P w K mg base "_law_world" (k+1) ["pen"] bQ)(vD:b8 P w K mg base "_law_state" (k+1) ["pen","world"] bR)(ie:b8 P w K mg base "_law_told" (k+1) ["desk","row","due"] bh)(oK:b8 P w K mg base "_law_world_row" (k+1) ["world","state"] ba)(jA:b8 P w K mg base "_law_said" (k+1) ["desk","row"] bq)(gb:b8 P w K mg base "_law_dealing" (k+1) ["pen","world","room","tries"] aK)(iQ:b8 P w K mg base "_law_words" (k+1) ["dealing"] aW)(iR:b8 P w K mg base "_law_asked_right" (k+1) ["pen","desk","world","state","dealings"] aU)(M_Desk:CMk P w K mg base cDesk "Desk" k ["self"] cy)
  (ok:∀(ns:List Int) (a c:Int),0<=a->0<=c->∃ρ' S',EF aw bQ bR bh ba bq aK aW aU cy cDesk [none,some (.ref 1),none,none,none,none,none,none,none] [.lst (ns.map U.int),.lst [.ref 0,.int a,.int c]]=some (.rt (.bl true),ρ',S')):lU P w K mg base CX0 (k+1+1) fa fd ["script"] (C8 K):=by
 refine Fun.okW F E7 (fun vs H Q E h=>(by obtain⟨a,ns,rfl,_⟩:=h;rfl)) fun cdv A outer s H vs Q E hr h=>?_;obtain⟨a,ns,rfl,hS,hlen,q⟩:=h;have hu:=bF hr;have nd:=E7.nd;refine⟨_,lW (u:=tS K (EF aw bQ bR bh ba bq aK aW aU cy cDesk)) (vM (i:=1) nd rfl (by trivial) (Ab zS hr rfl (cZ (wpv 0) jE))) (aq (aN (i:=2) nd rfl (by trivial) (Hg M_Desk hr rfl))
   (aq (mq PassesOwn.never rfl (jX rfl B.range (ae (cS bZ bY (ax ak) (aI aM hr rfl (ae (ah (wpv 1)) (ae (ax ak) av)))) av)) (dU (bC (i:=3) nd rfl (by trivial))) (aq (aN (i:=4) nd rfl (by trivial) (aI vC hr rfl (ae (ah (wpv 1)) av)))
   (aq (aN (i:=5) nd rfl (by trivial) (aI vD hr rfl (ae (ah (wpv 1)) (ae (ah (wpv 4)) av))))
   (aq (bD (jd (gI (aI ie hr rfl (ae (ah (wpv 2)) (ae (aI oK hr rfl (ae (ah (wpv 4)) (ae (ah (wpv 5)) av))) (ae (aS aC) av)))))) (aB (aJ (tq eN))) a8)
   (aq (bD (aP AY LH (bO hu (aI jA hr rfl (ae (ah (wpv 2)) (ae (aS aC) av))) (ax ak) (fun _ _=>rfl) (fun _ _=>rfl)) (aS aC) (aF _)) (aB (aJ (tq eN))) a8)
   (aq (aN (i:=6) nd rfl (by trivial) (je av))
   (aq (mq PassesOwn.never rfl (jX rfl B.range (ae (cS bZ bY (ax ak) (aI aM hr rfl (ae (ah (wpv 1)) (ae (bO hu (je (ae (ax ak) (ae (ax ak) av))) (aI aM hr rfl (ae (ah (wpv 1)) (ae (ax ak) av))) (fun _ _=>rfl) (fun _ _=>rfl)) av)))) av)) (dU (bC (i:=7) nd rfl (by trivial))) (aq (bo (iI (ah (wpv 6)) (ae (aI gb hr rfl (ae (ah (wpv 1)) (ae (ah (wpv 4)) (ae (ax ak) (ae (ax ak) av))))) av)))
   (aq (bD (jd (gI (aI ie hr rfl (ae (ah (wpv 2)) (ae (cS bZ bY (aS aC) (xW (aS aC) (ae (aI iQ hr rfl (ae (bO hu (ah (wpv 6)) (Po (ax ak)) (fun _ _=>rfl) (fun _ _=>rfl)) av)) av))) (ae (cG cY uP rfl B.str OG.gQ (ae (ah (wpv 7)) av)) av)))))) (aB (aJ (tq eN))) a8)
   (aB (bD (aP cK iJ (aI aM hr rfl (ae (ah (wpv 1)) (ae (ax ak) av))) (ax ak) (aF _)) (aB (bD (jd (gI (aI iR hr rfl (ae (ah (wpv 1)) (ae (ah (wpv 2)) (ae (ah (wpv 4)) (ae (ah (wpv 5)) (ae (ah (wpv 6)) av)))))))) (aB (aJ (tq eN))) a8)) a8)))))
   (aq (bD (aP cK iJ (bp eZ eY rfl B.len PySem.boot_len (ae (ah (wpv 6)) av)) (ax ak) (aF _)) (aB (mq PassesOwn.never rfl (jW (je (ae (aS aC) (ae (aS aC) (ae (aS aC) (ae (aS aC) av)))))) (dU (bC (i:=8) nd rfl (by trivial))) (aB (bD (aP (LV hr.units) LP (aI jA hr rfl (ae (ah (wpv 2)) (ae (ah (wpv 8)) av))) (dW (ae (aS aC) (ae (gz bW) av))) (aF _)) (aB (aJ (tq eN))) a8)))) a8)
   (aB (bD (jd (gI (aI iR hr rfl (ae (ah (wpv 1)) (ae (ah (wpv 2)) (ae (ah (wpv 4)) (ae (ah (wpv 5)) (ae (ah (wpv 6)) av)))))))) (aB (aJ (tq eN))) a8))))))))))
   (aB (aJ (tq eN))))),?_⟩
 refine⟨_,rfl,a,ns,rfl,hS,fun p xs H1 s1 P1 n1=>?_⟩;exact Ik P1 ok q
end
end OL
namespace OQ
open PySem PySem.Spec PyProof.Rows L2 OG OP
section
variable{S:Sto}{l l':Nat}{us:List U}
theorem Mf(neg:Bool)(h:S[l]?=some (.lst us))(h':S[l']?=some (.lst [])):El neg (.ref l) (.ref l') S=some (.bl (if neg then !decide (us=[])else decide (us=[])),S):=by
 by_cases e:us=[]
 ·subst e;have k:=(nC.lst (k:=0) h h' .nil);obtain⟨d,a,b,c,e⟩:=k;rw[decide_eq_true rfl];exact wV neg (.inl ⟨d,d,a,b,⟨c,Zl e (by omega)⟩,⟨c,Zl e (by omega)⟩,(SeqAt.eqv_refl d c).symm⟩)
 ·rw[decide_eq_false e];exact wV neg (.inr ⟨l,l',us,[],rfl,rfl,h,h',by simpa using e,rfl⟩)
end
inductive Ev where
 |beg (a:Int)|look (a b x:Int)|put (a b x:Int)|fin (d:Bool) (a:Int)
structure Att where
 en:Option Bool
 lk:List (Int×Int)
 nd:List (Int×Int)
 ps:List (Int×Int)
 bf:List Int
def Su(nd:List (Int×Int))(p:Int×Int):List (Int×Int):=if p∈nd then nd else nd++[p]
def Att.ev(t:Att):Ev->Att
 |.beg _=>t
 |.look _ b x=>if (gG t.ps b).isSome then t else { t with lk:=t.lk++[(b,x)],nd:=Su t.nd (b,x) }
 |.put _ b x=>{ t with ps:=tu t.ps b x }
 |.fin d _=>{ t with en:=some d }
theorem xJ{κ α:Type}[DecidableEq κ]{ps:List (κ×α)}{k:κ}{v:α}(h:gG ps k=some v):(k,v)∈ps:=by
 unfold gG at h;obtain⟨p,hp,rfl⟩:=X2.mp h;have:=List.find?_some hp;have e:p.1=k:=by simpa using this
 subst e;exact List.mem_of_find?_eq_some hp
theorem D0{κ α:Type}[DecidableEq κ]{ps:List (κ×α)}{b:κ}{v:α}{p:κ×α}(h:p∈tu ps b v):p∈ps\/p=(b,v):=by
 unfold tu at h;split at h
 ·obtain⟨q,hq,rfl⟩:=XW.mp h;split
  ·rename_i e;right;rw[<-e]
  ·exact .inl hq
 ·rcases X8.mp h with z|z
  ·exact .inl z
  ·simp at z;exact .inr z
section
variable{w:Int}{now:List Int}
theorem FL{now:List Int}{ps:List (Int×Int)}{w:Int}(h:∀z∈now,0<=z/\z<w)(hp:∀p∈ps,0<=p.2/\p.2<w)(k:Nat):∀z∈beh now ps k,0<=z/\z<w:=fun z hz=>by
 unfold beh at hz;obtain⟨p,hp',rfl⟩:=XW.mp hz;cases hv:gG ps (p.2:Int)with
 |some y=>exact hp _ (xJ hv)
 |none=>exact h _ (List.fst_mem_of_mem_zipIdx hp')
end
theorem yw{α:Type}{ok:Sto->Prop}{gg:CG}{ce:CE}{S:Sto}{f:α->U}{v:α->U}{Rel:Rho->Prop}(hok:∀ys G,ok (S++(.lst ys::G))) :
  ∀(xs:List α) (ys:List U) (G:Sto) (ρ:Rho),Rel ρ->ys.length+xs.length<=9999->
  (∀x∈xs,∀ys G ρ,Rel ρ->∃ρ0 G1,Rel ρ0/\gg (f x) ρ (S++(.lst ys::G))=some (ρ0,S++(.lst ys::G))/\ce ρ0 (S++(.lst ys::G))=some (v x,S++(.lst ys::(G++G1))))->
  ∃G',j1 ok gg ce S.length (xs.map f) ρ (S++(.lst ys::G))=some (S++(.lst (ys++xs.map v)::(G++G')))
 |[],ys,G,ρ,_,_,_=>⟨[],by simp only[Ze,Zu];exact tV (hok ys G)⟩
 |x::xs,ys,G,ρ,hr,hl,hb=>by
  rw[ZT]at hl;obtain⟨ρ0,G1,r0,h1,h2⟩:=hb x ZE ys G ρ hr;obtain⟨G',h⟩:=yw hok xs (ys++[v x]) (G++G1) ρ0 r0 (by simp;omega) (fun x hx=>hb x (ZJ _ hx));refine⟨G1++G',?_⟩;rw[ZG];refine(qH (hok ys G) h1 h2 (by rw[ga0];rfl) (by unfold LIM;omega)).trans ?_;rw[gs0];simp only[List.set_cons_zero];rw[h];simp only[ZG,ZV,Zt,Zo]
section
variable{S G:Sto}{x:List Int}
theorem qG{α:Type}{ok:Sto->Prop}{gg:CG}{ce:CE}{S:Sto}{f:α->U}{v:α->U}{Rel:Rho->Prop}(hok:∀ys G,ok (S++(.lst ys::G))) :
  ∀(xs:List α) (ys:List U) (G:Sto) (ρ:Rho),Rel ρ->ys.length+xs.length<=9999->
  (∀x∈xs,∀ys G ρ,Rel ρ->∃ρ0,Rel ρ0/\gg (f x) ρ (S++(.lst ys::G))=some (ρ0,S++(.lst ys::G))/\ce ρ0 (S++(.lst ys::G))=some (v x,S++(.lst ys::G)))->
  j1 ok gg ce S.length (xs.map f) ρ (S++(.lst ys::G))=some (S++(.lst (ys++xs.map v)::G))
 |[],ys,G,ρ,_,_,_=>by simp only[Ze,Zu];exact tV (hok ys G)
 |x::xs,ys,G,ρ,hr,hl,hb=>by
  rw[ZT]at hl;obtain⟨ρ0,r0,h1,h2⟩:=hb x ZE ys G ρ hr;have h:=qG hok xs (ys++[v x]) G ρ0 r0 (by simp;omega) (fun x hx=>hb x (ZJ _ hx));rw[ZG];refine(qH (hok ys G) h1 h2 (by rw[ga0];rfl) (by unfold LIM;omega)).trans ?_;rw[gs0];simp only[List.set_cons_zero];rw[h];simp only[ZG,ZV,Zt,Zo]
end
def cQ{ca cb:CS}{ρ ρ':Rho}{S S':Sto}(h:ca ρ S=some (.nx,ρ',S')):aV ca cb ρ S=cb ρ' S':=by rw[CB,h,Z8,EW]
def cf(n:Int):Str:=Str.ofString (toString n)
def Jg(m:Nat):List Nat:=(Nat.toDigits 10 m).map Char.toNat
theorem w6:∀m:Nat,m<1001->(Jg m).length<=4/\(Jg m).length≠0/\(∀c∈Jg m,48<=c/\c<=57)/\((Jg m).head?=some 48->Jg m=[48]):=by decide +kernel
theorem wm{n:Int}(n0:0<=n):(cf n).cps.toList=Jg n.toNat:=by
 have:=PySem.W.KIN.signs_num n.toNat;rw[show((n.toNat:Nat):Int)=n from by omega]at this;exact this
def MN:∀c:Nat,c<58->48<=c->Txt.contains (Str.ofString "0123456789") ⟨#[c]⟩=true:=by decide +kernel
def vH:Str.ofString "0"=⟨#[48]⟩:=by decide +kernel
theorem cI(z:Str):z.length=z.cps.toList.length:=by
 show z.cps.size=_;simp
theorem sP{a b:Str}(h:a.cps.toList=b.cps.toList):a=b:=by
 cases a;cases b;exact congrArg Str.mk (Array.ext' h)
def oZ:Fn:=fnU 1 1 lJ
theorem uT{n:Int}(n0:0<=n)(n1:n<1001)(S:Sto):∃G,oZ [.str (cf n)] S=some (.int n,S++G):=by
 obtain⟨d1,d2,d3,d4⟩:=w6 n.toNat (by omega);have ec:=wm n0;rw[<-ec]at d1 d2 d3 d4;have rd:PySem.intText? (cf n)=some n:=PySem.W.KIN.num_reads n0 (by omega);obtain⟨z,hz⟩:∃z,z=cf n:=⟨_,rfl⟩;rw[<-hz]at d1 d2 d3 d4 rd ⊢;have lz:z.length=z.cps.toList.length:=cI z;have asc:z.cps.all (· < 128)=true:=by
  rw[Array.all_eq_true'];intro c hc;have:=d3 c (by simpa using hc);exact decide_eq_true (by omega)
 have sg:∀y∈signs z,Txt.contains (Str.ofString "0123456789") y=true:=fun y hy=>by
  obtain⟨i,hi⟩:=List.mem_iff_getElem?.mp hy;cases hc:z.cps[i]? with
  |none=>
   rw[Zm (by rw[signs_length];exact Array.getElem?_eq_none_iff.mp hc)]at hi;cases hi
  |some c=>
   rw[signs_get hc]at hi;cases hi;have:=d3 c (by rw[Array.mem_toList_iff];exact Array.mem_of_getElem? hc);exact MN c (by omega) this.1
 have e1:=qG (S:=S) (ok:=fun _=>True) (gg:=gNm 0) (ce:=cOp FA (ao 0) (cC (.str "0123456789"))) (f:=U.str) (v:=fun y:Str=>U.bl true) (Rel:=fun ρ=>∃r0,ρ=[r0]) (fun _ _=>trivial) (signs z) [] [] [none] ⟨_,rfl⟩ (by rw[signs_length,List.length_nil];omega) (fun y hy ys G ρ hρ=>by
  obtain⟨r0,rfl⟩:=hρ;refine⟨[some (.str y)],⟨_,rfl⟩,rfl,?_⟩;have h1:∀S':Sto,FA (.str y) (.str "0123456789") S'=some (.bl true,S'):=fun S'=>by
   unfold FA;exact congrArg (fun b=>some (U.bl b,S')) (sg y hy)
  rwa[h1])
 simp only[Zo]at e1;have hi:ao 0 [some (.str z)] S=some (.str z,S):=rfl;have hcomp:gE (NH (ao 0)) (gNm 0) (cOp FA (ao 0) (cC (.str "0123456789"))) 1 [] [some (.str z)] S=some (.ref S.length,S++[.lst ((signs z).map fun _=>.bl true)]):=by
  unfold gE NH;rw[hi,Z8];simp only[asc,if_true,Z8,vF,ZU,Ze,Zu,e1]
 have hall:FC [.ref S.length] (S++[.lst ((signs z).map fun _=>.bl true)])=some (.bl true,S++[.lst ((signs z).map fun _=>.bl true)]):=by
  have em:((signs z).map fun _=>U.bl true)=((signs z).map fun _=>true).map U.bl:=by rw[XX];rfl
  have ea:(((signs z).map fun _=>true).all id)=true:=by simp
  simp only[FC,ga0,List.getElem?_cons_zero,em,t6,Z8,ea]
 have hlen:∀S':Sto,zD [.str z] S'=some (.int z.length,S'):=fun S'=>by
  unfold zD;simp only;rw[if_pos (by omega)]
 have t1:decide ((z.length:Int)=0)=false:=decide_eq_false (by omega);have t2:decide ((z.length:Int)>4)=false:=decide_eq_false (by omega);obtain⟨c,hc⟩:∃c,z.cps[0]?=some c:=⟨_,Array.getElem?_eq_getElem (by rw[<-Array.length_toList];omega)⟩;have hix:∀S':Sto,Jf (.str z) (.int 0) S'=some (.str ⟨#[c]⟩,S'):=fun S'=>by
  unfold Jf;simp only;rw[if_pos ⟨by omega,by omega,by omega⟩,show((0:Int)).toNat=0 from rfl,hc];rfl
 have hint:∀S':Sto,Bw [.str z] S'=some (.int n,S'):=fun S'=>by
  unfold Bw;simp only;rw[if_pos (by omega),rd];rfl
 refine⟨[.lst ((signs z).map fun _=>.bl true)],?_⟩;unfold oZ;rw[qD];unfold lJ;by_cases c48:c=48
 ·have hz0:z.cps.toList=[48]:=d4 (by rw[List.head?_eq_getElem?,Array.getElem?_toList,hc,c48]);have ez:z=Str.ofString "0":=by
   rw[vH];exact sP hz0
  have k1:decide ((⟨#[c]⟩:Str)=(Str.ofString "0"))=true:=decide_eq_true (by rw[vH,c48]);have k2:decide (z=(Str.ofString "0"))=true:=decide_eq_true ez;rwa[hlen,t1,t2,hcomp,hall,hix,k1,k2,hint]
 ·have k1:decide ((⟨#[c]⟩:Str)=(Str.ofString "0"))=false:=decide_eq_false (by rw[vH];intro h;injection h with h;injection h with h;injection h with h;exact c48 h);rwa[hlen,t1,t2,hcomp,hall,hix,k1,hint]
def jn:List (List Nat)->List Nat
 |[]=>[]
 |[x]=>x
 |x::y::r=>x++32::jn (y::r)
theorem B7:∀{x y A B:List Nat},32∉x->32∉y->x++32::A=y++32::B->x=y/\A=B
 |[],[],A,B,_,_,h=>by
  injection h with _ h;exact⟨rfl,h⟩
 |[],c::y,A,B,_,hy,h=>by
  injection h with h _;exact absurd (by rw[h];exact ZE) hy
 |c::x,[],A,B,hx,_,h=>by
  injection h with h _;exact absurd (by rw[<-h];exact ZE) hx
 |c::x,d::y,A,B,hx,hy,h=>by
  injection h with h1 h2;obtain⟨e1,e2⟩:=B7 (fun z=>hx (ZJ _ z)) (fun z=>hy (ZJ _ z)) h2;exact⟨by rw[h1,e1],e2⟩
theorem Fp:∀{xs ys:List (List Nat)},xs≠[]->ys≠[]->(∀x∈xs,32∉x)->(∀y∈ys,32∉y)->jn xs=jn ys->xs=ys
 |[],_,h,_,_,_,_=>absurd rfl h
 |_,[],_,h,_,_,_=>absurd rfl h
 |[x],[y],_,_,_,_,h=>by
  have:x=y:=h;rw[this]
 |[x],y::y2::r,_,_,hx,_,h=>by
  have h':x=y++32::jn (y2::r):=h;exact absurd (by rw[h'];simp) (hx x ZE)
 |x::x2::r,[y],_,_,_,hy,h=>by
  have h':x++32::jn (x2::r)=y:=h;exact absurd (by rw[<-h'];simp) (hy y ZE)
 |x::x2::r,y::y2::s,_,_,hx,hy,h=>by
  have h':x++32::jn (x2::r)=y++32::jn (y2::s):=h;obtain⟨e1,e2⟩:=B7 (hx x ZE) (hy y ZE) h';rw[e1,Fp (X0 _ _) (X0 _ _) (fun z hz=>hx z (ZJ _ hz)) (fun z hz=>hy z (ZJ _ hz)) e2]
theorem mZ:∀ws:List Str,(Str.join ⟨#[32]⟩ ws).cps.toList=jn (ws.map fun y=>y.cps.toList)
 |[]=>rfl
 |[x]=>rfl
 |x::y::r=>by
  show(x++⟨#[32]⟩++Str.join ⟨#[32]⟩ (y::r)).cps.toList=x.cps.toList++32::jn ((y::r).map fun y=>y.cps.toList);rw[<-mZ (y::r),Str.cps_append,Str.cps_append,Array.toList_append,Array.toList_append,ZV];rfl
theorem C7(x y:Str):Txt.split x y≠[]:=by
 unfold Txt.split;split
 ·exact X0 _ _
 ·split
  ·exact X0 _ _
  ·rw[StrLaws.partsBetween_eq];obtain⟨p,r,e⟩:=StrLaws.partsFrom_ne x y.length 0 (Builtin.Str.occurrences x y 0 x.length (x.length+1));rw[e];exact X0 _ _
theorem rM{ws:List Str}(h:ws≠[])(hs:∀y∈ws,32∉y.cps.toList):Txt.split (Str.join ⟨#[32]⟩ ws) ⟨#[32]⟩=ws:=by
 have e:=StrLaws.join_split (Str.join ⟨#[32]⟩ ws) ⟨#[32]⟩;have e2:=congrArg (fun z:Str=>z.cps.toList) e;simp only[mZ]at e2;have e3:=Fp (by intro z;exact C7 _ _ (List.map_eq_nil_iff.mp z)) (by intro z;exact h (List.map_eq_nil_iff.mp z)) (fun x hx=>by
  obtain⟨y,hy,rfl⟩:=XW.mp hx;exact StrLaws.split_free _ 32 y hy) (fun x hx=>by
  obtain⟨y,hy,rfl⟩:=XW.mp hx;exact hs y hy) e2
 exact(List.map_inj_right fun a b=>sP).mp e3
def fq.w:fq->Str
 |.look _ _=>"look"
 |.put _ _=>"put"
 |.set _ _=>"set"
 |.plus _ _=>"plus"
 |.leap _ _=>"leap"
 |.wait=>"wait"
def fq.ns:fq->List Int
 |.look h b=>[h,b]
 |.put b h=>[b,h]
 |.set h v=>[h,v]
 |.plus h g=>[h,g]
 |.leap h k=>[h,k]
 |.wait=>[]
def BE(d:fq):d.u=.tup (.str d.w::d.ns.map U.int):=by cases d<;>rfl
def oU(d:fq):d.ns.length<=2:=by cases d<;>simp[fq.ns]
theorem sv{n w:Int}{d:fq}(n1:n<=6)(w1:w<=1000)(ok:d.ok n w):∀x∈d.ns,0<=x/\x<1000:=by
 cases d<;>simp only[fq.ns,fq.ok,Zx,X9,or_false,false_implies,implies_true]at ok ⊢<;>(intro x hx;rcases hx with rfl|rfl<;>omega)
def HS:decide ((Str.ofString "look")=(Str.ofString "try"))=false:=by decide +kernel
def Md:decide ((Str.ofString "put")=(Str.ofString "try"))=false:=by decide +kernel
def Mc:decide ((Str.ofString "set")=(Str.ofString "try"))=false:=by decide +kernel
def HR:decide ((Str.ofString "plus")=(Str.ofString "try"))=false:=by decide +kernel
def HU:decide ((Str.ofString "leap")=(Str.ofString "try"))=false:=by decide +kernel
def HQ:decide ((Str.ofString "wait")=(Str.ofString "try"))=false:=by decide +kernel
theorem ux(d:fq):decide (d.w=(Str.ofString "try"))=false:=match d with
 |.look _ _=>HS
 |.put _ _=>Md
 |.set _ _=>Mc
 |.plus _ _=>HR
 |.leap _ _=>HU
 |.wait=>HQ
def EA(d:fq)(S:Sto):fSl d.u (some 1) none S=some (.tup (d.ns.map U.int),S):=by cases d<;>rfl
section
variable{α:Type}{w:Int}{f:α->U}{k:List α->Prop}{wd:List α->List Str}
def wdF(wd:List α->List Str):List (DF α)->List Str
 |[]=>[]
 |.pl d::r=>d.w::(d.ns.map cf++wdF wd r)
 |.tr a b::r=>"try"::(wd a++(wd b++wdF wd r))
def wdL(wd:List α->List Str)(ds:List (DF α)):List Str:=("(":Str)::(wdF wd ds++[(")":Str)])
def HvT(fw:Fn)(f:α->U)(k:List α->Prop)(wd:List α->List Str):Prop:=∀(a:List α) (S:Sto),k a->(wd a).length<=5000->∃l G,fw [.tup (a.map f)] S=some (.ref l,S++G)/\(S++G)[l]?=some (.lst ((wd a).map U.str))
theorem GH{x:Int}(h:0<=x/\x<1000)(S:Sto):qU [.int x] S=some (.str (cf x),S):=by
 have hl:x.natAbs.log2<1920:=by
  refine Nat.lt_of_le_of_lt (Nat.log2_le_self _) ?_;omega
 unfold qU;simp only;rw[if_pos hl];rfl
end
def OkM(n w:Int):(j:Nat)->List (Dl j)->Prop
 |0,ds=>ds.length<=12/\∀d∈ds,DF.ok n w (fun _=>False) d
 |j+1,ds=>ds.length<=12/\∀d∈ds,DF.ok n w (OkM n w j) d
section
variable{n w:Int}
theorem sU:∀J j:Nat,j<=J->HsT (zL J) (Dl.u j) (OkM n w j) (kx j)
 |0,0,_=>fun a S ka=>vT (n:=n) (w:=w) (k:=fun _=>False) (fun _ _ z=>z.elim) a S ka.2
 |J+1,0,_=>fun a S ka=>vT (n:=n) (w:=w) (k:=fun _=>False) (fun _ _ z=>z.elim) a S ka.2
 |J+1,j+1,h=>fun a S ka=>vT (n:=n) (w:=w) (sU J j (by omega)) a S ka.2
theorem HdT.twelve{α:Type}{t:Int}{fd:Fn}{f:α->U}{q:α->Prop}{s:List α->Int}(h:HdT n w t fd f (fun ds=>ds.length<=30/\∀d∈ds,q d) s):HdT n w t fd f (fun ds=>ds.length<=12/\∀d∈ds,q d) s:=fun ns T a c room ha hc r0 r1=>by
 obtain⟨ds,a',c',G,e,k1,k2,k3,k4,k5,k6⟩:=h ns T a c room ha hc r0 r1;exact⟨ds,a',c',G,e,⟨k6,k1.2⟩,k2,k3,k4,k5,k6⟩
theorem yu(n0:1<=n)(n1:n<=6)(w0:2<=w)(w1:w<=1000):∀(J j t:Nat),t<=j->j<=J->HdT n w t (vE J) (Dl.u j) (OkM n w j) (kx j)
 |0,0,0,_,_=>(oV (k:=fun _=>False) (fun _ _ z=>z.elim) (fun z=>absurd rfl z) n0 n1 w0 w1).twelve
 |J+1,0,0,_,_=>(oV (k:=fun _=>False) (fun _ _ z=>z.elim) (fun z=>absurd rfl z) n0 n1 w0 w1).twelve
 |J+1,j+1,0,_,h=>(oV (sU J j (by omega)) (fun z=>absurd rfl z) n0 n1 w0 w1).twelve
 | J+1,j+1,t+1,h,h'=>(oV (sU J j (by omega)) (fun _=>by
   have e:((t+1:Nat):Int)-1=(t:Int):=by omega
   rw[e];exact yu n0 n1 w0 w1 J j t (by omega) (by omega)) n0 n1 w0 w1).twelve
end
section
variable{α:Type}{n w:Int}{f:α->U}{k:List α->Prop}{wd:List α->List Str}
theorem lI{S:Sto}{l m:Nat}{a b:List U}(h1:S[l]?=some (.lst a))(h2:S[m]?=some (.lst b))(h:a.length+b.length<=9000):cX (.ref l) (.ref m) S=some (.ref S.length,S++[.lst (a++b)]):=by
 have hz:a.length+b.length<=LIM:=by unfold LIM;omega
 simp only[cX,tR,h1,h2];rw[if_pos hz]
theorem wF{fw:Fn}{D:Option U}(Hw:HvT fw f k wd)(n1:n<=6)(w1:w<=1000):∀(ds:List (DF α)) (us:List U) (T:Sto) (l:Nat) (r2:Option U),T[l]?=some (.lst us)->(∀d∈ds,d.ok n w k)->us.length+(wdF wd ds).length<=5000->
  ∃l' G r2',fv (fun _=>True) (gNm 2) (dr fw) (ds.map (DF.u f)) [D,some (.ref l),r2] T=some (.nx,[D,some (.ref l'),r2'],T++G)/\(T++G)[l']?=some (.lst (us++(wdF wd ds).map U.str))
 |[],us,T,l,r2,h,_,_=>⟨l,[],r2,by rw[Zu];exact iL trivial,by rw[Zu];simp only[wdF,Ze,Zu];exact h⟩
 |.pl d::ds,us,T,l,r2,h,oa,hl=>by
  have od:d.ok n w:=oa _ ZE;simp only[wdF,ZT,ZY,ZN]at hl;have c1:=lI (S:=T++[.lst [.str d.w]]) (l:=l) (m:=T.length) (aX h) (by rw[ga0];rfl) (by simp;omega);obtain⟨T2,hT2⟩:∃T2,T2=T++[.lst [.str d.w]]++[.lst (us++[.str d.w])]:=⟨_,rfl⟩;rw[<-hT2]at c1;have l1:(T++[O.lst [.str d.w]]).length=T.length+1:=by rw[ZY];rfl
  rw[l1]at c1;have e1:=qG (S:=T2) (ok:=fun _=>True) (gg:=gNm 0) (ce:=cCB qU (ag (ao 0) aD)) (f:=U.int) (v:=fun x:Int=>U.str (cf x)) (Rel:=fun ρ=>∃r0,ρ=[r0]) (fun _ _=>trivial) d.ns [] [] [none] ⟨_,rfl⟩ (by have:=oU d;simp;omega) (fun x hx ys G ρ hρ=>by
   obtain⟨r0,rfl⟩:=hρ;refine⟨[some (.int x)],⟨_,rfl⟩,rfl,?_⟩;have h1:∀S',qU [.int x] S'=some (.str (cf x),S'):=GH (sv n1 w1 od x hx);rwa[h1])
  simp only[Zo]at e1;have hcut:cSl (ao 2) (some (cC (.int 1))) none [D,some (.ref l),some d.u] T2=some (.tup (d.ns.map U.int),T2):=by
   have hv:ao 2 [D,some (.ref l),some d.u] T2=some (d.u,T2):=rfl;simp only[cSl,BV,hv,cC,Z8,EA]
  have hcomp:gE (iTp (cSl (ao 2) (some (cC (.int 1))) none)) (gNm 0) (cCB qU (ag (ao 0) aD)) 1 [] [D,some (.ref l),some d.u] T2=some (.ref T2.length,T2++[.lst (d.ns.map fun x=>.str (cf x))]):=by
   unfold gE iTp;rw[hcut,Z8];simp only[Z8,vF,ZU,Ze,Zu,e1]
  have g2:(T2++[O.lst (d.ns.map fun x=>.str (cf x))])[T.length+1]?=some (.lst (us++[.str d.w])):=aX (by rw[hT2,<-l1,ga0];rfl);have c2:=lI (S:=T2++[.lst (d.ns.map fun x=>.str (cf x))]) (l:=T.length+1) (m:=T2.length) g2 (by rw[ga0];rfl) (by have:=oU d;simp;omega);obtain⟨T4,hT4⟩:∃T4,T4=T2++[.lst (d.ns.map fun x=>.str (cf x))]++[.lst (us++[.str d.w]++d.ns.map fun x=>.str (cf x))]:=⟨_,rfl⟩;rw[<-hT4]at c2;obtain⟨l',G,r2',ih,g'⟩:=wF Hw n1 w1 ds (us++[.str d.w]++d.ns.map fun x=>.str (cf x)) T4 _ (some d.u) (by rw[hT4,ga0];rfl) (fun z hz=>oa z (ZJ _ hz)) (by simp;omega);have e4:T4++G=T++([.lst [.str d.w],.lst (us++[.str d.w]),.lst (d.ns.map fun x=>.str (cf x)),.lst (us++[.str d.w]++d.ns.map fun x=>.str (cf x))]++G):=by rw[hT4,hT2];simp only[ZV,Zt,Zo]
  rw[e4]at ih g';refine⟨l',_,r2',(dz trivial rfl (ρ1:=[D,some (.ref (T2++[O.lst (d.ns.map fun x=>.str (cf x))]).length),some d.u]) (S1:=T4) ?_).trans ih,?_⟩
  ·show dr fw [D,some (.ref l),some d.u] _=_;have ht:aL (cOp fEq (cOp fIx (ao 2) (cC (.int 0))) (cC (.str "try"))) [D,some (.ref l),some d.u] T=some (false,T):=by
    rw[BE];have:=ux d;rwa[this]
   have hh:cOp fIx (ao 2) (cC (.int 0)) [D,some (.ref l),some d.u] T=some (.str d.w,T):=by
    rw[BE];rwa[]
   obtain⟨du,hdu⟩:∃du,du=d.u:=⟨_,rfl⟩;obtain⟨nm,hnm⟩:∃nm,nm=O.lst (d.ns.map fun x=>.str (cf x)):=⟨_,rfl⟩;rw[<-hdu]at ht hh hcomp ⊢;rw[<-hnm]at hcomp c2 ⊢;unfold dr;rw[yQ,ht,Z8,EY,vI,Nt,Nt,show ao 1 [D,some (.ref l),some du] T=some (.ref l,T)from rfl,Z8,CD,JH,o7,hh,Z8,kN,vK,Z8,kM,Z8,EX,Z8,FR,c1,Z8,CD,hcomp,Z8,FR,c2,Z8,EV];rfl
  ·rw[g'];simp only[wdF,ZG,Zp,XX,ZV,Zt,Zo];rfl
 |.tr a b::ds,us,T,l,r2,h,oa,hl=>by
  obtain⟨ka,kb⟩:k a/\k b:=oa _ ZE;simp only[wdF,ZT,ZY]at hl;have c1:=lI (S:=T++[.lst [.str "try"]]) (l:=l) (m:=T.length) (aX h) (by rw[ga0];rfl) (by simp;omega);obtain⟨T2,hT2⟩:∃T2,T2=T++[.lst [.str "try"]]++[.lst (us++[.str "try"])]:=⟨_,rfl⟩;rw[<-hT2]at c1;have l1:(T++[O.lst [.str "try"]]).length=T.length+1:=by rw[ZY];rfl
  rw[l1]at c1;have g2:T2[T.length+1]?=some (.lst (us++[.str "try"])):=by rw[hT2,<-l1,ga0];rfl
  obtain⟨la,G1,e1,g1⟩:=Hw a T2 ka (by omega);have c2:=lI (S:=T2++G1) (l:=T.length+1) (m:=la) (aX g2) g1 (by simp;omega);obtain⟨T3,hT3⟩:∃T3,T3=T2++G1:=⟨_,rfl⟩;rw[<-hT3]at e1 c2;obtain⟨T4,hT4⟩:∃T4,T4=T3++[.lst (us++[.str "try"]++(wd a).map U.str)]:=⟨_,rfl⟩;rw[<-hT4]at c2;have g4:T4[T3.length]?=some (.lst (us++[.str "try"]++(wd a).map U.str)):=by rw[hT4,ga0];rfl
  obtain⟨lb,G2,e2,g3⟩:=Hw b T4 kb (by omega);have c3:=lI (S:=T4++G2) (l:=T3.length) (m:=lb) (aX g4) g3 (by simp;omega);obtain⟨T5,hT5⟩:∃T5,T5=T4++G2:=⟨_,rfl⟩;rw[<-hT5]at e2 c3;obtain⟨T6,hT6⟩:∃T6,T6=T5++[.lst (us++[.str "try"]++(wd a).map U.str++(wd b).map U.str)]:=⟨_,rfl⟩;rw[<-hT6]at c3;obtain⟨l',G,r2',ih,g'⟩:=wF Hw n1 w1 ds (us++[.str "try"]++(wd a).map U.str++(wd b).map U.str) T6 T5.length (some (DF.u f (.tr a b))) (by rw[hT6,ga0];rfl) (fun z hz=>oa z (ZJ _ hz)) (by simp;omega);obtain⟨ua,hua⟩:∃ua,ua=U.tup (a.map f):=⟨_,rfl⟩;obtain⟨ub,hub⟩:∃ub,ub=U.tup (b.map f):=⟨_,rfl⟩;have ed:DF.u f (.tr a b)=.tup [.str "try",ua,ub]:=by rw[hua,hub];rfl
  rw[<-hua]at e1;rw[<-hub]at e2;have e4:T6++G=T++([.lst [.str "try"],.lst (us++[.str "try"])]++G1++[.lst (us++[.str "try"]++(wd a).map U.str)]++G2++[.lst (us++[.str "try"]++(wd a).map U.str++(wd b).map U.str)]++G):=by rw[hT6,hT5,hT4,hT3,hT2];simp only[ZV,Zt,Zo]
  rw[e4]at ih g';refine⟨l',_,r2',(dz trivial rfl (ρ1:=[D,some (.ref T5.length),some (DF.u f (.tr a b))]) (S1:=T6) ?_).trans ih,?_⟩
  ·rw[ed];rwa[dr,c1,e1,c2,e2,c3]
  ·rw[g'];simp only[wdF,ZG,Zp,ZV,Zt,Zo]
def o5(fw:Fn):Fn:=fnU 3 1 (j4 fw)
theorem qe{fw:Fn}(Hw:HvT fw f k wd)(n1:n<=6)(w1:w<=1000):HvT (o5 fw) (DF.u f) (fun ds=>∀d∈ds,DF.ok n w k d) (wdL wd):=fun ds S oa hl=>by
 have hl':(wdF wd ds).length+2<=5000:=by unfold wdL at hl;simp at hl;omega
 obtain⟨l,G,r2,e,g⟩:=wF (D:=some (.tup (ds.map (DF.u f)))) Hw n1 w1 ds [.str "("] (S++[.lst [.str "("]]) S.length none (by rw[ga0];rfl) oa (by simp;omega);have c1:=lI (S:=S++[.lst [.str "("]]++G++[.lst [.str ")"]]) (l:=l) (m:=(S++[O.lst [.str "("]]++G).length) (aX g) (by rw[ga0];rfl) (by simp;omega);have em:(wdL wd ds).map U.str=[U.str "("]++(wdF wd ds).map U.str++[.str ")"]:=by unfold wdL;rw[ZG,Zp];rfl
 refine⟨(S++[O.lst [.str "("]]++G++[O.lst [.str ")"]]).length,[O.lst [.str "("]]++G++[O.lst [.str ")"]]++[O.lst ((wdL wd ds).map U.str)],?_,?_⟩
 ·unfold o5;rw[MT,em];have hfor:oX (iTp (ao 0)) (gNm 2) (dr fw) [some (.tup (ds.map (DF.u f))),some (.ref S.length),none] (S++[.lst [.str "("]])=some (.nx,[some (.tup (ds.map (DF.u f))),some (.ref l),r2],S++[.lst [.str "("]]++G):=e;obtain⟨x,hx⟩:∃x,x=U.tup (ds.map (DF.u f)):=⟨_,rfl⟩;obtain⟨Y,hY⟩:∃Y,Y=S++[O.lst [.str "("]]++G:=⟨_,rfl⟩;rw[<-hx]at hfor ⊢;rw[<-hY]at hfor c1;unfold j4;rw[cQ (ρ':=[some x,some (.ref S.length),none]) (S':=S++[.lst [.str "("]]) (by rwa[]),cQ hfor];rw[<-ZV S,<-ZV S,<-ZV S,<-hY];obtain⟨Z,hZ⟩:∃Z,Z=Y++[O.lst [.str ")"]]++[.lst ([U.str "("]++(wdF wd ds).map U.str++[.str ")"])]:=⟨_,rfl⟩;rw[<-hZ]at c1 ⊢;rwa[c1]
 ·rw[<-ZV S,<-ZV S,<-ZV S,ga0];rfl
end
def wdD:(j:Nat)->List (Dl j)->List Str
 |0,ds=>wdL (fun _=>[]) ds
 |j+1,ds=>wdL (wdD j) ds
def LwJ:Nat->Fn
 |0=>o5 fun _ _=>none
 |j+1=>o5 (LwJ j)
section
variable{n w:Int}
theorem Fm(n1:n<=6)(w1:w<=1000):∀J j:Nat,j<=J->HvT (LwJ J) (Dl.u j) (OkM n w j) (wdD j)
 |0,0,_=>fun a S ka hl=>qe (n:=n) (w:=w) (k:=fun _=>False) (fun _ _ z=>z.elim) n1 w1 a S ka.2 hl
 |J+1,0,_=>fun a S ka hl=>qe (n:=n) (w:=w) (k:=fun _=>False) (fun _ _ z=>z.elim) n1 w1 a S ka.2 hl
 |J+1,j+1,h=>fun a S ka hl=>qe (n:=n) (w:=w) (Fm n1 w1 J j (by omega)) n1 w1 a S ka.2 hl
theorem vO{α:Type}{k:List α->Prop}{s:List α->Int}{wd:List α->List Str}(h:∀a,k a->((wd a).length:Int)<=5*s a+2):∀ds:List (DF α),(∀d∈ds,d.ok n w k)->((wdF wd ds).length:Int)<=5*szF s ds
 |[],_=>by simp[wdF,szF]
 |.pl d::r,oa=>by
  have ih:=vO h r fun z hz=>oa z (ZJ _ hz);have:=oU d;simp only[wdF,szF,ZT,ZY,ZN];omega
 |.tr a b::r,oa=>by
  have ih:=vO h r fun z hz=>oa z (ZJ _ hz);obtain⟨ka,kb⟩:k a/\k b:=oa _ ZE;have h1:=h a ka;have h2:=h b kb;simp only[wdF,szF,ZT,ZY];omega
def Ah{α:Type}{wd:List α->List Str}(ds:List (DF α)):(wdL wd ds).length=(wdF wd ds).length+2:=by unfold wdL;simp
theorem E2{α:Type}{k:List α->Prop}{s:List α->Int}{wd:List α->List Str}(h:∀a,k a->((wd a).length:Int)<=5*s a+2)(ds:List (DF α))(oa:∀d∈ds,d.ok n w k):((wdL wd ds).length:Int)<=5*szF s ds+2:=by
 have:=vO h ds oa;rw[Ah];omega
theorem Ai:∀(j:Nat) (ds:List (Dl j)),OkM n w j ds->((wdD j ds).length:Int)<=5*kx j ds+2
 |0,ds,ok=>E2 (n:=n) (w:=w) (k:=fun _=>False) (s:=fun _=>0) (wd:=fun _=>[]) (fun _ z=>z.elim) ds ok.2
 |j+1,ds,ok=>E2 (n:=n) (w:=w) (Ai j) ds ok.2
def WOk(y:Str):Prop:=y.length<=4/\32∉y.cps.toList
instance (y:Str):Decidable (WOk y):=by unfold WOk;infer_instance
theorem HP{x:Int}(h:0<=x/\x<1000):WOk (cf x):=by
 obtain⟨d1,d2,d3,d4⟩:=w6 x.toNat (by omega);rw[<-wm h.1]at d1 d3;exact⟨by rw[cI];omega,fun z=>by have:=d3 32 z;omega⟩
def Gw:WOk (Str.ofString "look"):=by decide +kernel
def J9:WOk (Str.ofString "put"):=by decide +kernel
def J8:WOk (Str.ofString "set"):=by decide +kernel
def Gv:WOk (Str.ofString "plus"):=by decide +kernel
def Gx:WOk (Str.ofString "leap"):=by decide +kernel
def Gu:WOk (Str.ofString "wait"):=by decide +kernel
def J7:WOk (Str.ofString "try"):=by decide +kernel
def O2:WOk (Str.ofString "("):=by decide +kernel
def O3:WOk (Str.ofString ")"):=by decide +kernel
theorem Gy(d:fq):WOk d.w:=match d with
 |.look _ _=>Gw
 |.put _ _=>J9
 |.set _ _=>J8
 |.plus _ _=>Gv
 |.leap _ _=>Gx
 |.wait=>Gu
theorem sH{α:Type}{k:List α->Prop}{wd:List α->List Str}(n1:n<=6)(w1:w<=1000)(h:∀a,k a->∀y∈wd a,WOk y):∀ds:List (DF α),(∀d∈ds,d.ok n w k)->∀y∈wdF wd ds,WOk y
 |[],_,y,hy=>by cases hy
 |.pl d::r,oa,y,hy=>by
  have od:d.ok n w:=oa _ ZE;simp only[wdF,Zx,X8]at hy;rcases hy with rfl|hy|hy
  ·exact Gy d
  ·obtain⟨x,hx,rfl⟩:=XW.mp hy;exact HP (sv n1 w1 od x hx)
  ·exact sH n1 w1 h r (fun z hz=>oa z (ZJ _ hz)) y hy
 |.tr a b::r,oa,y,hy=>by
  obtain⟨ka,kb⟩:k a/\k b:=oa _ ZE;simp only[wdF,Zx,X8]at hy;rcases hy with rfl|hy|hy|hy
  ·exact J7
  ·exact h a ka y hy
  ·exact h b kb y hy
  ·exact sH n1 w1 h r (fun z hz=>oa z (ZJ _ hz)) y hy
theorem Ag{α:Type}{wd:List α->List Str}{ds:List (DF α)}(h:∀y∈wdF wd ds,WOk y):∀y∈wdL wd ds,WOk y:=fun y hy=>by
 unfold wdL at hy;simp only[Zx,X8,X9,or_false]at hy;rcases hy with rfl|hy|rfl
 ·exact O2
 ·exact h y hy
 ·exact O3
theorem sI(n1:n<=6)(w1:w<=1000):∀(j:Nat) (ds:List (Dl j)),OkM n w j ds->∀y∈wdD j ds,WOk y
 |0,ds,ok=>Ag (sH (n:=n) (w:=w) (k:=fun _=>False) n1 w1 (fun _ z=>z.elim) ds ok.2)
 |j+1,ds,ok=>Ag (sH (n:=n) (w:=w) n1 w1 (sI n1 w1 j) ds ok.2)
end
structure Kq(X:Nat->Prop)(T T':Sto):Prop where
 len:T.length<=T'.length
 keep:∀j,j<T.length->¬X j->T'[j]?=T[j]?
section
variable{X Y:Nat->Prop}{T T1 T2:Sto}{j:Nat}{o:O}
def Kq.refl:Kq X T T:=⟨ZD _,fun _ _ _=>rfl⟩
theorem Kq.trans(a:Kq X T T1)(b:Kq X T1 T2):Kq X T T2:=⟨Zl a.len b.len,fun j h n=>by rw[b.keep j (Zz h a.len) n,a.keep j h n]⟩
def Kq.app(G:Sto):Kq X T (T++G):=⟨by simp,fun j h _=>Zq h⟩
def Kq.set(h:X j):Kq X T (T.set j o):=⟨by simp,fun i _ n=>ZH fun e=>n (by rw[<-e];exact h)⟩
def Kq.get(a:Kq X T T1)(h:T[j]?=some o)(n:¬X j):T1[j]?=some o:=by rw[a.keep j (Z9.mp h).1 n];exact h
def Kq.imp(a:Kq X T T1)(h:∀j,j<T.length->X j->Y j):Kq Y T T1:=⟨a.len,fun j hj n=>a.keep j hj fun x=>n (h j hj x)⟩
end
def Wa(ws:List Str)(p:Nat)(xs:List Str):Prop:=∃rest,ws.drop p=xs++rest
section
variable{ws xs ys:List Str}{p:Nat}{x:Str}
theorem Wa.head(h:Wa ws p (x::xs)):ws[p]?=some x:=by
 obtain⟨rest,e⟩:=h;have:(ws.drop p)[0]?=some x:=by rw[e];rfl
 rw[List.getElem?_drop]at this;exact this
theorem Wa.tail(h:Wa ws p (x::xs)):Wa ws (p+1) xs:=by
 obtain⟨rest,e⟩:=h;refine⟨rest,?_⟩;rw[<-List.drop_drop,e];rfl
theorem Wa.left(h:Wa ws p (xs++ys)):Wa ws p xs:=by
 obtain⟨rest,e⟩:=h;exact⟨ys++rest,by rw[e,ZV]⟩
theorem Wa.right(h:Wa ws p (xs++ys)):Wa ws (p+xs.length) ys:=by
 obtain⟨rest,e⟩:=h;refine⟨rest,?_⟩;rw[<-List.drop_drop,e,ZV,List.drop_left]
end
def mJ(cR:Cl)(n w:Int)(lw:Nat)(p:Nat)(m:Int):O:=.ins cR [some (.tup [.int n,.int w]),some (.ref lw),some (.int p),some (.int m)]
structure Rs(cR:Cl)(n w:Int)(ws:List Str)(r lw p:Nat)(m:Int)(T:Sto):Prop where
 rd:T[r]?=some (mJ cR n w lw p m)
 wd:T[lw]?=some (.lst (ws.map U.str))
 ne:lw≠r
def n8(cR:Cl):Fn:=fnU 1 1 (ju cR)
def jx:Fn:=fnU 2 2 i8
def og(cR:Cl):Fn:=fnU 1 1 (i7 cR)
def vB(cR:Cl):Fn:=fnU 3 2 (dZ oZ (n8 cR) jx (og cR) cR)
def o6:Fn:=fnU 3 2 bJ
def gk(cR:Cl)(fr:Fn):Fn:=fnU 4 2 (fO jx (og cR) fr cR)
def fV(cR:Cl)(ft:Fn):Fn:=fnU 6 2 (dB o6 (n8 cR) ft jx (og cR) (vB cR) cR)
def yJ(cR:Cl)(fd:Fn):Fn:=fnU 3 2 (fP jx (n8 cR) (og cR) fd cR 100)
section
variable{cR:Cl}{n w lo hi x t m:Int}{ws:List Str}{r lw p L:Nat}{T T':Sto}{y:Str}
theorem Rs.aT(R:Rs cR n w ws r lw p m T){p':Nat}{m':Int}(h:T'[r]?=some (mJ cR n w lw p' m'))(k:Kq (·=r) T T'):Rs cR n w ws r lw p' m' T':=⟨h,k.get R.wd R.ne,R.ne⟩
theorem Rs.go(R:Rs cR n w ws r lw p m T)(p':Nat)(m':Int):Rs cR n w ws r lw p' m' (T.set r (mJ cR n w lw p' m')):=
 R.aT (by rw[List.getElem?_set,if_pos rfl,if_pos (Z9.mp R.rd).1]) (.set rfl)
def Rs.app(R:Rs cR n w ws r lw p m T)(G:Sto):Rs cR n w ws r lw p m (T++G):=⟨aX R.rd,aX R.wd,R.ne⟩
theorem mL(R:Rs cR n w ws r lw p m T)(h:ws[p]?=some y):n8 cR [.ref r] T=some (.str y,T):=by
 have t0:=R.rd;have t1:=R.wd;unfold mJ at t0;have hp:p<ws.length:=(Z9.mp h).1;have d1:decide ((p:Int)<((ws.map U.str).length:Int))=true:=decide_eq_true (by rw[ZN];omega);have a1:atI (ws.map U.str) p=some (.str y):=nB (by rw[Zk,h];rfl);obtain⟨us,hus⟩:∃us,us=ws.map U.str:=⟨_,rfl⟩;rw[<-hus]at t1 d1 a1;unfold n8;rw[qD];rwa[ju,t0,t1,d1,a1]
theorem mW{u:U}:jx [u,.bl true] T=some (.non,T):=by
 unfold jx;rw[oJ];rwa[i8]
theorem qq(R:Rs cR n w ws r lw p m T):og cR [.ref r] T=some (.non,T.set r (mJ cR n w lw (p+1) m)):=by
 have t0:=R.rd;unfold mJ at t0 ⊢;have e:((p+1:Nat):Int)=(p:Int)+1:=by omega
 rw[e];unfold og;rw[qD];rwa[i7,t0]
theorem GZ(R:Rs cR n w ws r lw p m T)(h:ws[p]?=some (cf x))(x0:0<=x)(x1:x<1000)(h1:lo<=x)(h2:x<=hi):∃T',vB cR [.ref r,.tup [.int lo,.int hi]] T=some (.int x,T')/\Rs cR n w ws r lw (p+1) m T'/\Kq (·=r) T T':=by
 have ew:=mL R h;obtain⟨G,en⟩:=uT x0 (by omega) T;have R1:=R.app G;have eg:=qq R1;have t0:=R.rd;have t1:=R1.rd;unfold mJ at t0 t1;have d1:decide (lo<=x)=true:=decide_eq_true h1;have d2:decide (x<=hi)=true:=decide_eq_true h2;have hn:∀S',ik (.int x) .non S'=some (.bl true,S'):=fun _=>rfl;have hch:j9 fLe fLe (cOp fIx (ao 1) (cC (.int 0))) (ao 2) (cOp fIx (ao 1) (cC (.int 1))) [some (.ref r),some (.tup [.int lo,.int hi]),some (.int x)] (T++G)=some (.bl true,T++G):=by
  have k1:cOp fIx (ao 1) (cC (.int 0)) [some (.ref r),some (.tup [.int lo,.int hi]),some (.int x)] (T++G)=some (.int lo,T++G):=rfl;have k2:cOp fIx (ao 1) (cC (.int 1)) [some (.ref r),some (.tup [.int lo,.int hi]),some (.int x)] (T++G)=some (.int hi,T++G):=rfl;have k3:ao 2 [some (.ref r),some (.tup [.int lo,.int hi]),some (.int x)] (T++G)=some (.int x,T++G):=rfl;simp only[j9,k1,k2,k3,Z8,JM,d1,d2]
 refine⟨_,?_,R1.go (p+1) m,(Kq.app G).trans (.set rfl)⟩;unfold vB;rw[lG];unfold dZ;rw[cQ (ρ':=[some (.ref r),some (.tup [.int lo,.int hi]),some (.int x)]) (S':=T++G) (by rwa[t0,ew,en])];obtain⟨Y,hY⟩:∃Y,Y=T++G:=⟨_,rfl⟩;rw[<-hY]at t1 eg hch ⊢;rw[cQ (ρ':=[some (.ref r),some (.tup [.int lo,.int hi]),some (.int x)]) (S':=Y) (by rwa[t1,hn,hch,mW])];rw[cQ (ρ':=[some (.ref r),some (.tup [.int lo,.int hi]),some (.int x)]) (S':=Y.set r (mJ cR n w lw (p+1) m)) (by rwa[t1,eg])];rwa[]
def wx:decide ((Str.ofString "put")=(Str.ofString "look"))=false:=by decide +kernel
def wu:decide ((Str.ofString "set")=(Str.ofString "look"))=false:=by decide +kernel
def zg:decide ((Str.ofString "set")=(Str.ofString "put"))=false:=by decide +kernel
def uZ:decide ((Str.ofString "plus")=(Str.ofString "look"))=false:=by decide +kernel
def wz:decide ((Str.ofString "plus")=(Str.ofString "put"))=false:=by decide +kernel
def wy:decide ((Str.ofString "plus")=(Str.ofString "set"))=false:=by decide +kernel
def u6:decide ((Str.ofString "leap")=(Str.ofString "look"))=false:=by decide +kernel
def wB:decide ((Str.ofString "leap")=(Str.ofString "put"))=false:=by decide +kernel
def wA:decide ((Str.ofString "leap")=(Str.ofString "set"))=false:=by decide +kernel
def u0:decide ((Str.ofString "leap")=(Str.ofString "plus"))=false:=by decide +kernel
def uX:decide ((Str.ofString "wait")=(Str.ofString "look"))=false:=by decide +kernel
def wq:decide ((Str.ofString "wait")=(Str.ofString "put"))=false:=by decide +kernel
def wo:decide ((Str.ofString "wait")=(Str.ofString "set"))=false:=by decide +kernel
def uW:decide ((Str.ofString "wait")=(Str.ofString "plus"))=false:=by decide +kernel
def uY:decide ((Str.ofString "wait")=(Str.ofString "leap"))=false:=by decide +kernel
def HY:decide ((Str.ofString "look")=(Str.ofString ")"))=false:=by decide +kernel
def Mi:decide ((Str.ofString "put")=(Str.ofString ")"))=false:=by decide +kernel
def Mh:decide ((Str.ofString "set")=(Str.ofString ")"))=false:=by decide +kernel
def HX:decide ((Str.ofString "plus")=(Str.ofString ")"))=false:=by decide +kernel
def HZ:decide ((Str.ofString "leap")=(Str.ofString ")"))=false:=by decide +kernel
def HW:decide ((Str.ofString "wait")=(Str.ofString ")"))=false:=by decide +kernel
def Mg:decide ((Str.ofString "try")=(Str.ofString ")"))=false:=by decide +kernel
def fq.bs(n w:Int):fq->List (Int×Int)
 |.look _ _=>[(0,3),(0,n-1)]
 |.put _ _=>[(0,n-1),(0,3)]
 |.set _ _=>[(0,3),(0,w-1)]
 |.plus _ _=>[(0,3),(0,3)]
 |.leap _ _=>[(0,3),(1,12)]
 |.wait=>[]
def bU(b:Int×Int):U:=.tup [.int b.1,.int b.2]
theorem BW(d:fq)(S:Sto):o6 [.tup [.int n,.int w],.str d.w] S=some (.tup ((d.bs n w).map bU),S):=by
 unfold o6;rw[lG];cases d with
 |look _ _=>
  show(bJ [some (.tup [.int n,.int w]),some (.str "look"),none] S).bind kFn=_;rwa[bJ,fq.bs,bU]
 |put _ _=>
  show(bJ [some (.tup [.int n,.int w]),some (.str "put"),none] S).bind kFn=_;rwa[bJ,fq.bs,bU,wx]
 |set _ _=>
  show(bJ [some (.tup [.int n,.int w]),some (.str "set"),none] S).bind kFn=_;rwa[bJ,fq.bs,bU,wu,zg]
 |plus _ _=>
  show(bJ [some (.tup [.int n,.int w]),some (.str "plus"),none] S).bind kFn=_;rwa[bJ,fq.bs,bU,uZ,wz,wy]
 |leap _ _=>
  show(bJ [some (.tup [.int n,.int w]),some (.str "leap"),none] S).bind kFn=_;rwa[bJ,fq.bs,bU,u6,wB,wA,u0]
 |wait=>
  show(bJ [some (.tup [.int n,.int w]),some (.str "wait"),none] S).bind kFn=_;rwa[bJ,fq.bs,bU,uX,wq,wo,uW,uY]
inductive In2:List (Int×Int)->List Int->Prop
 |nil:In2 [] []
 |cons {b:Int×Int} {x:Int} {bs:List (Int×Int)} {xs:List Int} (h1:b.1<=x) (h2:x<=b.2) (h3:0<=x) (h4:x<1000) (t:In2 bs xs):In2 (b::bs) (x::xs)
theorem IM(n1:n<=6)(w1:w<=1000){d:fq}(ok:d.ok n w):In2 (d.bs n w) d.ns:=by
 cases d<;>simp only[fq.ok]at ok<;>first
  |exact .nil
  |exact .cons (by simp only;omega) (by simp only;omega) (by omega) (by omega) (.cons (by simp only;omega) (by simp only;omega) (by omega) (by omega) .nil)
abbrev rdB(cR:Cl)(ft:Fn):CS:=d0 o6 (n8 cR) ft jx (og cR) (vB cR) cR
theorem x6{ft:Fn}{r1 r2 r3:Option U}(hL:L≠r):∀(bs:List (Int×Int)) (xs:List Int) (us:List U) (p:Nat) (T:Sto) (r5:Option U),In2 bs xs->Wa ws p (xs.map cf)->Rs cR n w ws r lw p m T->T[L]?=some (.lst us)->L≠lw->us.length+xs.length<=1000->
  ∃T' r5',fv (fun _=>True) (gNm 5) (rdB cR ft) (bs.map bU) [some (.ref r),r1,r2,r3,some (.ref L),r5] T=some (.nx,[some (.ref r),r1,r2,r3,some (.ref L),r5'],T')/\T'[L]?=some (.lst (us++xs.map U.int))/\Rs cR n w ws r lw (p+xs.length) m T'/\Kq (fun j=>j=r\/j=L) T T'
 |_,_,us,p,T,r5,.nil,_,R,hT,_,_=>⟨T,r5,iL trivial,by rw[Ze,Zu];exact hT,R,.refl⟩
 |b::bs,x::xs,us,p,T,r5,.cons h1 h2 h3 h4 ht,wa,R,hT,nl,hl=>by
  rw[ZT]at hl;obtain⟨T1,e1,R1,k1⟩:=GZ R wa.head h3 h4 h1 h2;have g1:T1[L]?=some (.lst us):=k1.get hT hL;have t0:=R.rd;unfold mJ at t0;have hlim:us.length<LIM:=by unfold LIM;omega
  have R2:Rs cR n w ws r lw (p+1) m (T1.set L (.lst (us++[.int x]))):=⟨by rw[ZH hL];exact R1.rd,by rw[ZH nl];exact R1.wd,R1.ne⟩;obtain⟨T',r5',ih,g',R',k'⟩:=x6 hL bs xs (us++[.int x]) (p+1) (T1.set L (.lst (us++[.int x]))) (some (bU b)) ht wa.tail R2 (by rw[List.getElem?_set,if_pos rfl,if_pos (Z9.mp g1).1]) nl (by simp;omega);refine⟨T',r5',(dz trivial rfl ?_).trans ih,by rw[g',ZG,ZV];rfl,by rw[ZT,show p+(xs.length+1)=p+1+xs.length from by omega];exact R',((k1.imp fun j _ e=>.inl e).trans (.set (.inr rfl))).trans k'⟩;have e1':vB cR [.ref r,bU b] T=some (.int x,T1):=e1;obtain⟨bu,hbu⟩:∃bu,bu=bU b:=⟨_,rfl⟩;rw[<-hbu]at e1' ⊢;unfold rdB d0;rwa[hT,t0,e1',g1,lV hlim]
theorem DO{ft:Fn}(R:Rs cR n w ws r lw p m T)(n1:n<=6)(w1:w<=1000){d:fq}(ok:d.ok n w)(wa:Wa ws p (d.w::d.ns.map cf)) :
  ∃T',fV cR ft [.ref r,.int t] T=some (d.u,T')/\Rs cR n w ws r lw (p+(1+d.ns.length)) m T'/\Kq (·=r) T T':=by
 have t0:=R.rd;have ew:=mL R wa.head;have eb:=BW (n:=n) (w:=w) d T;have eg:=qq R;have nt:=ux d;have R1:=R.go (p+1) m;obtain⟨T1,hT1⟩:∃T1,T1=T.set r (mJ cR n w lw (p+1) m):=⟨_,rfl⟩;rw[<-hT1]at eg R1;have l1:T1.length=T.length:=by rw[hT1,List.length_set]
 have hr:r<T.length:=(Z9.mp R.rd).1;have hlw:lw<T.length:=(Z9.mp R.wd).1;have R2:=R1.app [.lst [.str d.w]];obtain⟨T3,r5,e3,g3,R3,k3⟩:=x6 (ft:=ft) (r1:=some (.int t)) (r2:=some (.str d.w)) (r3:=some (.tup ((d.bs n w).map bU))) (L:=T1.length) (by omega) (d.bs n w) d.ns [.str d.w] (p+1) (T1++[.lst [.str d.w]]) none (IM n1 w1 ok) wa.tail R2 (by rw[ga0];rfl) (by omega) (by have:=oU d;simp;omega);have k1:Kq (·=r) T T1:=by rw[hT1];exact .set rfl
 refine⟨T3,?_,by rw[show p+(1+d.ns.length)=p+1+d.ns.length from by omega];exact R3,k1.trans ⟨?_,?_⟩⟩
 ·have hn:∀S',ik (.tup ((d.bs n w).map bU)) .non S'=some (.bl true,S'):=fun _=>rfl;have hfor:oX (iTp (ao 3)) (gNm 5) (rdB cR ft) [some (.ref r),some (.int t),some (.str d.w),some (.tup ((d.bs n w).map bU)),some (.ref T1.length),none] (T1++[.lst [.str d.w]])=some (.nx,[some (.ref r),some (.int t),some (.str d.w),some (.tup ((d.bs n w).map bU)),some (.ref T1.length),r5],T3):=e3;obtain⟨bs,hbs⟩:∃bs,bs=U.tup ((d.bs n w).map bU):=⟨_,rfl⟩;rw[<-hbs]at eb hn hfor;rw[BE];obtain⟨us,hus⟩:∃us,us=U.str d.w::d.ns.map U.int:=⟨_,rfl⟩;have g3':T3[T1.length]?=some (.lst us):=by rw[hus];exact g3
  rw[<-hus];unfold mJ at t0;unfold fV;rw[Eu];unfold dB;rw[cQ (ρ':=[some (.ref r),some (.int t),some (.str d.w),none,none,none]) (S':=T) (by rwa[t0,ew])];rw[cQ (ρ':=[some (.ref r),some (.int t),some (.str d.w),none,none,none]) (S':=T) (by rwa[nt])];rw[cQ (ρ':=[some (.ref r),some (.int t),some (.str d.w),some bs,none,none]) (S':=T) (by rwa[t0,eb])];rw[cQ (ρ':=[some (.ref r),some (.int t),some (.str d.w),some bs,none,none]) (S':=T) (by rwa[t0,hn,mW])];rw[cQ (ρ':=[some (.ref r),some (.int t),some (.str d.w),some bs,none,none]) (S':=T1) (by rwa[t0,eg])];rw[cQ (ρ':=[some (.ref r),some (.int t),some (.str d.w),some bs,some (.ref T1.length),none]) (S':=T1++[.lst [.str d.w]]) (by rwa[])];rw[cQ hfor];rwa[g3']
 ·exact Zl (by simp) k3.len
 ·intro j hj hn;rw[k3.keep j (by simp;omega) (fun z=>z.elim hn (by omega)),Zq hj]
end
section
variable{α:Type}{cR:Cl}{n w t m tm:Int}{ws:List Str}{r lw p L:Nat}{T T':Sto}{f:α->U}{k:List α->Prop}{s:List α->Int}{wd:List α->List Str}
def HqT(cR:Cl)(n w:Int)(ws:List Str)(r lw:Nat)(tm:Int)(fr:Fn)(f:α->U)(k:List α->Prop)(s:List α->Int)(wd:List α->List Str):Prop:=∀(ds:List α) (t m:Int) (p:Nat) (T:Sto),k ds->tm<=t->m+s ds<=40->Wa ws p (wd ds)->Rs cR n w ws r lw p m T->
 ∃T',fr [.ref r,.int t] T=some (.tup (ds.map f),T')/\Rs cR n w ws r lw (p+(wd ds).length) (m+s ds) T'/\Kq (·=r) T T'
theorem GW{fr:Fn}(Hr:HqT cR n w ws r lw tm fr f k s wd)(s0:∀a,0<=s a)(tm0:0<=tm)(ht:tm+1<=t){a b:List α}(ka:k a)(kb:k b)(hm:m+s a+s b<=40)(wa:Wa ws p ("try"::(wd a++wd b)))(R:Rs cR n w ws r lw p m T) :
  ∃T',gk cR fr [.ref r,.int t] T=some (.tup [.str "try",.tup (a.map f),.tup (b.map f)],T')/\Rs cR n w ws r lw (p+(1+(wd a).length+(wd b).length)) (m+s a+s b) T'/\Kq (·=r) T T':=by
 have t0:=R.rd;have eg:=qq R;have R1:=R.go (p+1) m;obtain⟨T1,hT1⟩:∃T1,T1=T.set r (mJ cR n w lw (p+1) m):=⟨_,rfl⟩;rw[<-hT1]at eg R1;have k1:Kq (·=r) T T1:=by rw[hT1];exact .set rfl
 have sb0:=s0 b;obtain⟨T2,e2,R2,k2⟩:=Hr a (t-1) m (p+1) T1 ka (by omega) (by omega) wa.tail.left R1;obtain⟨T3,e3,R3,k3⟩:=Hr b (t-1) (m+s a) (p+1+(wd a).length) T2 kb (by omega) (by omega) wa.tail.right R2;refine⟨T3,?_,by rw[show p+(1+(wd a).length+(wd b).length)=p+1+(wd a).length+(wd b).length from by omega];exact R3,(k1.trans k2).trans k3⟩;have t1:=R1.rd;have t2:=R2.rd;unfold mJ at t0 t1 t2;have dt:decide (t>0)=true:=decide_eq_true (by omega);obtain⟨ua,hua⟩:∃ua,ua=U.tup (a.map f):=⟨_,rfl⟩;obtain⟨ub,hub⟩:∃ub,ub=U.tup (b.map f):=⟨_,rfl⟩;rw[<-hua]at e2 ⊢;rw[<-hub]at e3 ⊢;unfold gk;rw[Qt];unfold fO;rw[cQ (ρ':=[some (.ref r),some (.int t),none,none]) (S':=T) (by rwa[t0,dt,mW])];rw[cQ (ρ':=[some (.ref r),some (.int t),none,none]) (S':=T1) (by rwa[t0,eg])];rw[cQ (ρ':=[some (.ref r),some (.int t),some ua,none]) (S':=T2) (by rwa[t1,e2])];rw[cQ (ρ':=[some (.ref r),some (.int t),some ua,some ub]) (S':=T3) (by rwa[t2,e3])];rwa[]
def wdO(wd:List α->List Str):DF α->List Str
 |.pl d=>d.w::d.ns.map cf
 |.tr a b=>"try"::(wd a++wd b)
def szO(s:List α->Int):DF α->Int
 |.pl _=>0
 |.tr a b=>s a+s b
theorem xG(d:DF α)(ds:List (DF α)):wdF wd (d::ds)=wdO wd d++wdF wd ds:=by
 cases d with
 |pl d=>simp only[wdF,wdO,Zt]
 |tr a b=>simp only[wdF,wdO,Zt,ZV]
theorem sN(d:DF α)(ds:List (DF α)):szF s (d::ds)=1+szO s d+szF s ds:=by
 cases d with
 |pl d=>simp only[szF,szO];omega
 |tr a b=>simp only[szF,szO];omega
def O7:decide ((Str.ofString "try")=(Str.ofString "try"))=true:=by decide +kernel
theorem Dj{fr:Fn}(Hr:HqT cR n w ws r lw tm fr f k s wd)(s0:∀a,0<=s a)(ht:∀a,k a->0<=tm/\tm+1<=t)(n1:n<=6)(w1:w<=1000){d:DF α}(ok:d.ok n w k)(hm:m+szO s d<=40)(wa:Wa ws p (wdO wd d))(R:Rs cR n w ws r lw p m T) :
  ∃T',fV cR (gk cR fr) [.ref r,.int t] T=some (DF.u f d,T')/\Rs cR n w ws r lw (p+(wdO wd d).length) (m+szO s d) T'/\Kq (·=r) T T':=by
 cases d with
 |pl d=>
  obtain⟨T',e,R',k'⟩:=DO (t:=t) (ft:=gk cR fr) R n1 w1 ok wa;refine⟨T',e,?_,k'⟩;simp only[wdO,szO,ZT,ZN,Int.add_zero];rw[show d.ns.length+1=1+d.ns.length from by omega];exact R'
 |tr a b=>
  obtain⟨T',e,R',k'⟩:=GW (p:=p) (m:=m) Hr s0 (ht a ok.1).1 (ht a ok.1).2 ok.1 ok.2 (by simp only[szO]at hm;omega) wa R;refine⟨T',?_,?_,k'⟩
  ·have t0:=R.rd;have ew:=mL R wa.head;unfold mJ at t0;have et:=O7;show fV cR (gk cR fr) [.ref r,.int t] T=some (.tup [.str "try",.tup (a.map f),.tup (b.map f)],T');obtain⟨v,hv⟩:∃v,v=U.tup [.str "try",.tup (a.map f),.tup (b.map f)]:=⟨_,rfl⟩;rw[<-hv]at e ⊢;unfold fV;rw[Eu];unfold dB;rw[cQ (ρ':=[some (.ref r),some (.int t),some (.str "try"),none,none,none]) (S':=T) (by rwa[t0,ew])];rwa[et,t0,e]
  ·simp only[wdO,szO,ZT,ZY];rw[show(wd a).length+(wd b).length+1=1+(wd a).length+(wd b).length from by omega,show m+(s a+s b)=m+s a+s b from by omega];exact R'
theorem CZ(wd:List α->List Str)(d:DF α):∃y xs,wdO wd d=y::xs/\decide (y=(Str.ofString ")"))=false:=by
 cases d with
 |pl d=>exact⟨d.w,_,rfl,match d with
  |.look _ _=>HY
  |.put _ _=>Mi
  |.set _ _=>Mh
  |.plus _ _=>HX
  |.leap _ _=>HZ
  |.wait=>HW⟩
 |tr a b=>exact⟨_,_,rfl,Mg⟩
def Qx:decide ((Str.ofString ")")=(Str.ofString ")"))=true:=by decide +kernel
def PQ:decide ((Str.ofString "(")=(Str.ofString "("))=true:=by decide +kernel
abbrev rrB(cR:Cl)(fd:Fn):CS:=eG jx (n8 cR) (og cR) fd cR 100
abbrev rrT(cR:Cl):CT:=aL (cOp fNe (bH cR (n8 cR) (ao 0) aD) (cC (.str ")")))
theorem xU{fr:Fn}(Hr:HqT cR n w ws r lw tm fr f k s wd)(s0:∀a,0<=s a)(ht:∀a,k a->0<=tm/\tm+1<=t)(n1:n<=6)(w1:w<=1000)(hL:L≠r)(hl:L≠lw):∀(ds:List (DF α)) (us:List U) (p:Nat) (m:Int) (T:Sto) (fu:Nat),(∀d∈ds,d.ok n w k)->ds.length<fu->us.length+ds.length<=12->m+szF s ds<=40->Wa ws p (wdF wd ds++[(")":Str)])->Rs cR n w ws r lw p m T->T[L]?=some (.lst us)->
  ∃T',d5 (rrT cR) (rrB cR (fV cR (gk cR fr))) fu [some (.ref r),some (.int t),some (.ref L)] T=some (.nx,[some (.ref r),some (.int t),some (.ref L)],T')/\T'[L]?=some (.lst (us++ds.map (DF.u f)))/\Rs cR n w ws r lw (p+(wdF wd ds).length) (m+szF s ds) T'/\Kq (fun j=>j=r\/j=L) T T'
 |[],us,p,m,T,fu+1,_,_,_,_,wa,R,hT=>by
  have t0:=R.rd;have ew:=mL R wa.head;unfold mJ at t0;have ec:=Qx;refine⟨T,lZ ?_,by rw[Ze,Zu];exact hT,by simp only[wdF,szF,List.length_nil,Nat.add_zero,Int.add_zero];exact R,.refl⟩;rwa[rrT,t0,ew,ec]
 |d::ds,us,p,m,T,fu+1,oa,hf,hu,hm,wa,R,hT=>by
  rw[ZT]at hf hu;rw[xG,ZV]at wa;rw[sN]at hm;obtain⟨y,xs,ey,ny⟩:=CZ wd d;have hy:ws[p]?=some y:=Wa.head (xs:=xs++(wdF wd ds++[(")":Str)])) (by rw[ey]at wa;exact wa);have t0:=R.rd;have ew:=mL R hy;have so:0<=szO s d:=by
   cases d with
   |pl d=>exact Int.le_refl _
   |tr a b=>have:=s0 a;have:=s0 b;simp only[szO];omega
  have sf:∀l:List (DF α),0<=szF s l:=fun l=>by
   induction l with
   |nil=>exact Int.le_refl _
   |cons e l ih=>
    rw[sN];cases e with
    |pl _=>simp only[szO];omega
    |tr a b=>have:=s0 a;have:=s0 b;simp only[szO];omega
  have sd:=sf ds;have R1:=R.go p (m+1);obtain⟨T1,hT1⟩:∃T1,T1=T.set r (mJ cR n w lw p (m+1)):=⟨_,rfl⟩;rw[<-hT1]at R1;have k1:Kq (fun j=>j=r\/j=L) T T1:=by rw[hT1];exact .set (.inl rfl)
  have g1:T1[L]?=some (.lst us):=by rw[hT1,ZH (Ne.symm hL)];exact hT
  obtain⟨T2,e2,R2,k2⟩:=Dj (p:=p) (m:=m+1) Hr s0 ht n1 w1 (oa d ZE) (by omega) wa.left R1;have g2:T2[L]?=some (.lst us):=k2.get g1 hL;have hlim:us.length<LIM:=by unfold LIM;omega
  have R3:Rs cR n w ws r lw (p+(wdO wd d).length) (m+1+szO s d) (T2.set L (.lst (us++[DF.u f d]))):=⟨by rw[ZH hL];exact R2.rd,by rw[ZH hl];exact R2.wd,R2.ne⟩;obtain⟨T',ih,g',R',k'⟩:=xU Hr s0 ht n1 w1 hL hl ds (us++[DF.u f d]) (p+(wdO wd d).length) (m+1+szO s d) (T2.set L (.lst (us++[DF.u f d]))) fu (fun z hz=>oa z (ZJ _ hz)) (by omega) (by simp;omega) (by omega) wa.right R3 (by rw[List.getElem?_set,if_pos rfl,if_pos (Z9.mp g2).1]);refine⟨T',(sG (S0:=T) (ρ1:=[some (.ref r),some (.int t),some (.ref L)]) (S1:=T2.set L (.lst (us++[DF.u f d]))) ?_ ?_).trans ih,by rw[g',ZG,ZV];rfl,?_,(k1.trans (k2.imp fun j _ e=>.inl e)).trans ((Kq.set (.inr rfl)).trans k')⟩
  ·unfold mJ at t0;rwa[rrT,t0,ew,ny]
  ·have t1:=R1.rd;have d1:decide ((us.length:Int)<12)=true:=decide_eq_true (by omega);have d2:decide (m<40)=true:=decide_eq_true (by omega);obtain⟨v,hv⟩:∃v,v=DF.u f d:=⟨_,rfl⟩;rw[<-hv]at e2 ⊢;have hs:fj cR 3 (ao 0) (cOp cX (gh cR 3 (ao 0)) (cC (.int 1))) [some (.ref r),some (.int t),some (.ref L)] T=some (.nx,[some (.ref r),some (.int t),some (.ref L)],T1):=by
    rw[hT1];unfold mJ at t0 ⊢;rwa[t0]
   unfold mJ at t0 t1;unfold rrB eG;rw[cQ (ρ':=[some (.ref r),some (.int t),some (.ref L)]) (S':=T) (by rwa[t0,hT,d1,d2,mW])];rw[cQ hs];rwa[g1,t1,e2,g2,lV hlim]
  ·rw[xG,sN,ZY,show p+((wdO wd d).length+(wdF wd ds).length)=p+(wdO wd d).length+(wdF wd ds).length from by omega,show m+(1+szO s d+szF s ds)=m+1+szO s d+szF s ds from by omega];exact R'
theorem vW{fr:Fn}(Hr:HqT cR n w ws r lw tm fr f k s wd){tn:Int}(s0:∀a,0<=s a)(hk:∀a,k a->0<=tm/\tm+1<=tn)(n1:n<=6)(w1:w<=1000):HqT cR n w ws r lw tn (yJ cR (fV cR (gk cR fr))) (DF.u f) (fun ds=>ds.length<=12/\∀d∈ds,DF.ok n w k d) (szF s) (wdL wd):=fun ds t m p T ok ht hm wa R=>by
 have t0:=R.rd;have wa':Wa ws p (("(":Str)::(wdF wd ds++[(")":Str)])):=wa;have ew:=mL R wa'.head;have eg:=qq R;have R1:=R.go (p+1) m;obtain⟨T1,hT1⟩:∃T1,T1=T.set r (mJ cR n w lw (p+1) m):=⟨_,rfl⟩;rw[<-hT1]at eg R1;have l1:T1.length=T.length:=by rw[hT1,List.length_set]
 have hr:r<T.length:=(Z9.mp R.rd).1;have hlw:lw<T.length:=(Z9.mp R.wd).1;have k1:Kq (·=r) T T1:=by rw[hT1];exact .set rfl
 obtain⟨T3,e3,g3,R3,k3⟩:=xU (t:=t) (L:=T1.length) Hr s0 (fun a ka=>⟨(hk a ka).1,Int.le_trans (hk a ka).2 ht⟩) n1 w1 (by omega) (by omega) ds [] (p+1) m (T1++[.lst []]) 100 ok.2 (by have:=ok.1;omega) (by have:=ok.1;simp;omega) hm wa'.tail (R1.app _) (by rw[ga0];rfl);rw[Zo]at g3;have eg3:=qq R3;have R4:=R3.go (p+1+(wdF wd ds).length+1) (m+szF s ds);have t3:=R3.rd;have g4:(T3.set r (mJ cR n w lw (p+1+(wdF wd ds).length+1) (m+szF s ds)))[T1.length]?=some (.lst (ds.map (DF.u f))):=by rw[ZH (by omega)];exact g3
 obtain⟨T4,hT4⟩:∃T4,T4=T3.set r (mJ cR n w lw (p+1+(wdF wd ds).length+1) (m+szF s ds)):=⟨_,rfl⟩;rw[<-hT4]at eg3 R4 g4;refine⟨T4,?_,by rw[Ah,show p+((wdF wd ds).length+2)=p+1+(wdF wd ds).length+1 from by omega];exact R4,k1.trans ⟨?_,?_⟩⟩
 ·have eo:=PQ;obtain⟨us,hus⟩:∃us,us=ds.map (DF.u f):=⟨_,rfl⟩;rw[<-hus]at g4 ⊢;unfold mJ at t0 t3;unfold yJ;rw[lG];unfold fP;rw[cQ (ρ':=[some (.ref r),some (.int t),none]) (S':=T) (by rwa[t0,ew,eo,mW])];rw[cQ (ρ':=[some (.ref r),some (.int t),none]) (S':=T1) (by rwa[t0,eg])];rw[cQ (ρ':=[some (.ref r),some (.int t),some (.ref T1.length)]) (S':=T1++[.lst []]) (by rwa[])];rw[cQ e3];rw[cQ (ρ':=[some (.ref r),some (.int t),some (.ref T1.length)]) (S':=T4) (by rwa[t3,eg3])];rwa[g4]
 ·rw[hT4,List.length_set];exact Zl (by simp) k3.len
 ·intro j hj hn;rw[hT4,ZH (Ne.symm hn),k3.keep j (by simp;omega) (fun z=>z.elim hn (by omega)),Zq hj]
end
def zM(cR:Cl):Nat->Fn
 |0=>yJ cR (fV cR (gk cR fun _ _=>none))
 |j+1=>yJ cR (fV cR (gk cR (zM cR j)))
theorem xN{α:Type}{s:List α->Int}(s0:∀a,0<=s a):∀ds:List (DF α),0<=szF s ds
 |[]=>Int.le_refl _
 |.pl _::r=>by have:=xN s0 r;simp only[szF];omega
 |.tr a b::r=>by have:=xN s0 r;have:=s0 a;have:=s0 b;simp only[szF];omega
theorem xQ:∀(j:Nat) (ds:List (Dl j)),0<=kx j ds
 |0,ds=>xN (fun _=>Int.le_refl _) ds
 |j+1,ds=>xN (xQ j) ds
section
variable{cR:Cl}{n w:Int}{ws:List Str}{r lw:Nat}
theorem AF(n1:n<=6)(w1:w<=1000):∀J j:Nat,j<=J->HqT cR n w ws r lw j (zM cR J) (Dl.u j) (OkM n w j) (kx j) (wdD j)
 |0,0,_=>fun ds t m p T ok ht hm wa R=>vW (tm:=0) (k:=fun _=>False) (s:=fun _=>0) (wd:=fun _=>[]) (fun _ _ _ _ _ z=>z.elim) (fun _=>Int.le_refl _) (fun _ z=>z.elim) n1 w1 ds t m p T ok ht hm wa R
 |J+1,0,_=>fun ds t m p T ok ht hm wa R=>vW (tm:=0) (k:=fun _=>False) (s:=fun _=>0) (wd:=fun _=>[]) (fun _ _ _ _ _ z=>z.elim) (fun _=>Int.le_refl _) (fun _ z=>z.elim) n1 w1 ds t m p T ok ht hm wa R
 |J+1,j+1,h=>fun ds t m p T ok ht hm wa R=>vW (tm:=(j:Int)) (tn:=((j+1:Nat):Int)) (AF n1 w1 J j (by omega)) (xQ j) (fun _ _=>⟨by omega,by omega⟩) n1 w1 ds t m p T ok ht hm wa R
end
def Cm(cR:Cl):Fn:=fnU 2 1 (fQ (zM cR 3) jx cR)
def xo(cR:Cl):Fn:=fnU 3 3 (jv cR)
def Ck(cR:Cl):Fn:=fnU 2 2 (iZ (Cm cR) (xo cR) cR)
def sR:Str.ofString " "=⟨#[32]⟩:=by decide +kernel
section
variable{cR:Cl}{n w:Int}{ds:List (Dl 3)}{S T T':Sto}
def txt(ds:List (Dl 3)):Str:=Str.join ⟨#[32]⟩ (wdD 3 ds)
theorem G8{r lw:Nat}(R:Rs cR n w (wdD 3 ds) r lw 0 0 T)(n1:n<=6)(w1:w<=1000)(ok:OkM n w 3 ds)(sz:kx 3 ds<=40):∃T',Cm cR [.ref r] T=some (.tup (ds.map (Dl.u 3)),T')/\Kq (·=r) T T':=by
 obtain⟨T',e,R',k'⟩:=AF (cR:=cR) (ws:=wdD 3 ds) (r:=r) (lw:=lw) n1 w1 3 3 (by omega) ds 3 0 0 T ok (by omega) (by omega) ⟨[],by simp⟩ R;refine⟨T',?_,k'⟩;have t0:=R.rd;have t1:=R'.rd;have tw:=R'.wd;unfold mJ at t0 t1;have d1:decide (((0+(wdD 3 ds).length:Nat):Int)=(((wdD 3 ds).map U.str).length:Int))=true:=decide_eq_true (by rw[ZN,Nat.zero_add]);obtain⟨us,hus⟩:∃us,us=(wdD 3 ds).map U.str:=⟨_,rfl⟩;obtain⟨v,hv⟩:∃v,v=U.tup (ds.map (Dl.u 3)):=⟨_,rfl⟩;rw[<-hus]at tw d1;rw[<-hv]at e ⊢;unfold Cm;rw[w4];unfold fQ;rw[cQ (ρ':=[some (.ref r),some v]) (S':=T') (by rwa[t0,e])];rw[cQ (ρ':=[some (.ref r),some v]) (S':=T') (by rwa[t1,tw,d1,mW])];rwa[]
theorem uD(n1:n<=6)(w1:w<=1000)(ok:OkM n w 3 ds)(sz:kx 3 ds<=40):((wdD 3 ds).map (·.length)).sum+(wdD 3 ds).length*1<=1010/\(wdD 3 ds).length<=202:=by
 have h1:=Ai 3 ds ok;have h2:=StrLaws.sumLen_le (B:=4) (wdD 3 ds) fun y hy=>(sI n1 w1 3 ds ok y hy).1;omega
def xH:wdD 3 ds≠[]:=X0 _ _
theorem G0(hns:cR.ns.length=4)(n1:n<=6)(w1:w<=1000)(ok:OkM n w 3 ds)(sz:kx 3 ds<=40):∃G,Ck cR [.tup [.int n,.int w],.str (txt ds)] S=some (.tup (ds.map (Dl.u 3)),S++G):=by
 obtain⟨s1,s2⟩:=uD n1 w1 ok sz;obtain⟨us,hus⟩:∃us,us=(wdD 3 ds).map U.str:=⟨_,rfl⟩;have l1:(S++[O.lst us]).length=S.length+1:=by rw[ZY];rfl
 have es:jf (.str (txt ds)) [.str " "] S=some (.ref S.length,S++[.lst us]):=by
  have hl:(txt ds).length<=100000:=by
   have:=StrLaws.join_length_le ⟨#[32]⟩ (wdD 3 ds);have e1:(⟨#[32]⟩:Str).length=1:=rfl;rw[e1]at this;unfold txt;omega
  have hc:((Str.ofString " ").length == 0)=false/\(txt ds).length<=100000:=⟨by rw[sR];rfl,hl⟩;have hsp:Txt.split (txt ds) (Str.ofString " ")=wdD 3 ds:=by
   rw[sR];exact rM xH fun y hy=>(sI n1 w1 3 ds ok y hy).2
  simp only[jf];rw[if_pos hc,hsp,hus]
 have em:rA cR (xo cR) [.tup [.int n,.int w],.ref S.length] (S++[.lst us])=some (.ref (S.length+1),S++[.lst us,mJ cR n w S.length 0 0]):=by
  rw[xw,hns,l1];unfold xo;rw[BC];unfold mJ;have g0:(S++[O.lst us,.ins cR (ZU 4 none)])[S.length+1]?=some (.ins cR (ZU 4 none)):=by rw[ga];rfl
  rwa[jv,ZU];rfl
 have R:Rs cR n w (wdD 3 ds) (S.length+1) S.length 0 0 (S++[.lst us,mJ cR n w S.length 0 0]):=⟨by rw[ga];rfl,by rw[ga0,hus];rfl,by omega⟩;obtain⟨T',e,k⟩:=G8 R n1 w1 ok sz;obtain⟨G,hG⟩:∃G,T'=S++G:=by
  refine⟨T'.drop S.length,?_⟩;have ht:T'.take S.length=S:=by
   refine X6 fun i=>?_;by_cases hi:i<S.length
   ·rw[List.getElem?_take,if_pos hi,k.keep i (by simp;omega) (by omega),Zq hi]
   ·rw[List.getElem?_take,if_neg hi,Zm (by omega)]
  conv=>lhs;rw[<-List.take_append_drop S.length T',ht]
 refine⟨G,?_⟩;have t0:=R.rd;unfold mJ at t0 e em;rw[<-hG];obtain⟨v,hv⟩:∃v,v=U.tup (ds.map (Dl.u 3)):=⟨_,rfl⟩;rw[<-hv]at e ⊢;have hbs:cBS jf (ao 1) (ag (cC (.str " ")) aD) [some (.tup [.int n,.int w]),some (.str (txt ds))] S=some (.ref S.length,S++[.lst us]):=by
  have h1:ao 1 [some (.tup [.int n,.int w]),some (.str (txt ds))] S=some (.str (txt ds),S):=rfl;unfold cBS;rw[h1,Z8];simp only[o7,x_c,kN,vK,kM,Z8,es]
 obtain⟨Y,hY⟩:∃Y,Y=S++[O.lst us,.ins cR [some (.tup [.int n,.int w]),some (.ref S.length),some (.int (0:Nat)),some (.int 0)]]:=⟨_,rfl⟩;rw[<-hY]at e em t0;unfold Ck;rw[oJ];rwa[iZ,hbs,em,t0,e]
theorem Bc{l:Nat}(n1:n<=6)(w1:w<=1000)(ok:OkM n w 3 ds)(sz:kx 3 ds<=40)(h:S[l]?=some (.lst ((wdD 3 ds).map U.str))):lF (.str " ") [.ref l] S=some (.str (txt ds),S):=by
 obtain⟨s1,s2⟩:=uD n1 w1 ok sz;have e1:(Str.ofString " ").length=1:=by rw[sR];rfl
 have hc:((wdD 3 ds).map (·.length)).sum+(wdD 3 ds).length*(Str.ofString " ").length<=1000000:=by rw[e1];omega
 simp only[lF,h,o8,Z8];rw[if_pos hc,sR];rfl
end
def Wp{α:Type}(x:Option α)(Q:α->Prop):Prop:=∃r,x=some r/\Q r
section
variable{α:Type}{x:Option α}{Q:α->Prop}
def Wp.of{r:α}(h:x=some r)(q:Q r):Wp x Q:=⟨r,h,q⟩
end
section
variable{α:Type}{ci:CI}{ca:CE}{gg:CG}{t:CT}{ce:CE}{caps:List Nat}{ρ:Rho}{cs:Rho}{S S1:Sto}{ok:Sto->Prop}{xs:List α}{us:List U}{f v:α->U}{Q:U×Sto->Prop}{l:Nat}
theorem Ec(h:ca ρ S=some (.ref l,S1))(hl:S1[l]?=some (.lst us)):iTp ca ρ S=some (us,fun S=>S[l]?=some (.lst us),S1):=by
 unfold iTp;rw[h,Z8];simp only[hl]
theorem MH(h:ca ρ S=some (.tup us,S1)):iTp ca ρ S=some (us,fun _=>True,S1):=by
 unfold iTp;rw[h,Z8]
theorem Bk{cr:CA}{n:Int}(h:cr ρ S=some ([.int n],S1))(n0:0<=n)(n1:n<=1000):fM cr ρ S=some (hU 0 n.toNat,fun _=>True,S1):=by
 have hb:-(2^62)<=n/\n<2^62:=by omega
 unfold fM;rw[h,Z8];simp only[hb,and_self,if_true]
theorem C0(hi:ci ρ S=some (xs.map f,ok,S1))(hok:∀G,ok (S1++G))(hn:xs.length<=9000)(hr:vF 1 caps ρ=none::cs)
  (hb:∀x∈xs,∀G,Wp (ce (some (f x)::cs) (S1++G)) fun t=>t.1=v x/\∃G2,t.2=S1++G++G2)
  (hQ:∀G,Q (.ref S1.length,S1++(.lst (xs.map v)::G))):Wp (gE ci (gNm 0) ce 1 caps ρ S) Q:=by
 obtain⟨G,e⟩:=yw (S:=S1) (ok:=ok) (gg:=gNm 0) (ce:=ce) (f:=f) (v:=v) (Rel:=fun ρ=>∃r0,ρ=r0::cs) (fun ys G=>hok _) xs [] [] (none::cs) ⟨_,rfl⟩ (by simp;omega) (fun x hx ys G ρ hρ=>by
  obtain⟨r0,rfl⟩:=hρ;obtain⟨⟨b,S2⟩,e1,e2,G1,e3⟩:=hb x hx (.lst ys::G);dsimp only at e2 e3;subst e2 e3;exact⟨some (f x)::cs,G1,⟨_,rfl⟩,rfl,by rw[e1,ZV,Zt]⟩)
 refine⟨_,?_,hQ G⟩;unfold gE;rw[hi,Z8,hr];dsimp only;rw[e];rfl
end
end OQ
namespace OL
open PySem PySem.Spec PyProof.Rows L2 OG OP OQ
abbrev jS(ws:List Str):Str:=Str.join ⟨#[32]⟩ ws
theorem qF(a b:Str):(a++b).cps.toList=a.cps.toList++b.cps.toList:=by
 show(a.cps++b.cps).toList=_;simp
theorem Fq:∀{xs ys:List (List Nat)},xs≠[]->ys≠[]->jn (xs++ys)=jn xs++32::jn ys
 |[],_,h,_=>absurd rfl h
 |[x],[],_,h=>absurd rfl h
 |[x],y::ys,_,_=>rfl
 |x::z::r,ys,_,h=>by
  have:=Fq (xs:=z::r) (X0 _ _) h;show x++32::jn (z::r++ys)=(x++32::jn (z::r))++32::jn ys;rw[this,ZV];rfl
def Fs(x:Str):jS [x]=x:=sP (by rw[mZ];rfl)
theorem Ft{xs ys:List Str}(h1:xs≠[])(h2:ys≠[]):jS xs++" "++jS ys=jS (xs++ys):=sP (by
 rw[qF,qF,mZ,mZ,mZ,Zp,Fq (by simpa using h1) (by simpa using h2),sR];simp)
theorem tJ{w w':Str}{ys:List Str}(h:w'=w++" ")(h2:ys≠[]):w'++jS ys=jS (w::ys):=by
 rw[h];have:=Ft (xs:=[w]) (ys:=ys) (X0 _ _) h2;rw[Fs]at this;exact this
def EJ:(Str.ofString "alone ")=Str.ofString "alone"++" ":=by decide +kernel
def M8:(Str.ofString "row ")=Str.ofString "row"++" ":=by decide +kernel
def IQ:(Str.ofString "deal ")=Str.ofString "deal"++" ":=by decide +kernel
def EI:(Str.ofString "world ")=Str.ofString "world"++" ":=by decide +kernel
structure Rw(ws:List Str):Prop where
 ne:ws≠[]
 few:ws.length<=300
 ok:∀y∈ws,y.length<=5/\32∉y.cps.toList
theorem Rw.len{ws:List Str}(h:Rw ws):(jS ws).length<=2000:=by
 show(Str.join ⟨#[32]⟩ ws).length<=2000;have h1:=StrLaws.join_length_le ⟨#[32]⟩ ws;have h2:=StrLaws.sumLen_le (B:=5) ws fun y hy=>(h.ok y hy).1;have h3:(⟨#[32]⟩:Str).length=1:=rfl;have:=h.few;rw[h3]at h1;omega
section
variable{S:Sto}{ws:List Str}{xs:List Int}{u:U}{l:Nat}{ρ:Rho}{ok:Sto->Prop}
theorem Au(h:Rw ws):jf (.str (jS ws)) [.str " "] S=some (.ref S.length,S++[.lst (ws.map U.str)]):=by
 have hl:=h.len;have hc:((Str.ofString " ").length == 0)=false/\(jS ws).length<=100000:=⟨by rw[sR];rfl,by omega⟩;have hsp:Txt.split (jS ws) (Str.ofString " ")=ws:=by
  rw[sR];exact rM h.ne fun y hy=>(h.ok y hy).2
 simp only[jf];rw[if_pos hc,hsp]
theorem yi(h:∀y∈ws,y.length<=5)(few:ws.length<=300)(hl:S[l]?=some (.lst (ws.map U.str))):lF (.str " ") [.ref l] S=some (.str (jS ws),S):=by
 have e1:(Str.ofString " ").length=1:=by rw[sR];rfl
 have h2:=StrLaws.sumLen_le (B:=5) ws h;have hc:(ws.map (·.length)).sum+ws.length*(Str.ofString " ").length<=1000000:=by rw[e1];omega
 simp only[lF,hl,o8,Z8];rw[if_pos hc,sR]
theorem kI{a b:Str}(h:a.length+b.length<=100000):cX (.str a) (.str b) S=some (.str (a++b),S):=by
 show(if a.length+b.length<=LIM then _ else _:Option (U×Sto))=_;rw[if_pos (by unfold LIM;omega)]
def Nu(x:Int):Prop:=0<=x/\x<=1000
theorem mX{x:Int}(h:Nu x)(S:Sto):qU [.int x] S=some (.str (cf x),S):=by
 obtain⟨h0,h1⟩:=h;have hl:x.natAbs.log2<1920:=by
  refine Nat.lt_of_le_of_lt (Nat.log2_le_self _) ?_;omega
 unfold qU;simp only;rw[if_pos hl];rfl
theorem ze{x:Int}(h:Nu x):(cf x).length<=5/\32∉(cf x).cps.toList:=by
 obtain⟨d1,d2,d3,d4⟩:=w6 x.toNat (by have:=h.1;have:=h.2;omega);rw[<-wm h.1]at d1 d3;exact⟨by rw[cI];omega,fun z=>by have:=d3 32 z;omega⟩
def Sq(u:U)(xs:List Int)(S:Sto):Prop:=u=.tup (xs.map U.int)\/∃l,u=.ref l/\S[l]?=some (.lst (xs.map U.int))
def Sq.app(h:Sq u xs S)(G:Sto):Sq u xs (S++G):=h.imp id fun⟨l,a,b⟩=>⟨l,a,aX b⟩
theorem Sq.it(h:Sq u xs S){ca:CE}(hc:ca ρ S=some (u,S)):∃ok:Sto->Prop,iTp ca ρ S=some (xs.map U.int,ok,S)/\∀G,ok (S++G):=by
 rcases h with rfl|⟨l,rfl,hl⟩
 ·exact⟨_,MH hc,fun _=>trivial⟩
 ·exact⟨_,Ec hc hl,fun G=>aX hl⟩
def eE(xs:List Int):Str:=if xs=[]then "-" else jS (xs.map cf)
theorem yv(h:Sq u xs S)(hx:∀x∈xs,Nu x)(hn:xs.length<=300):∃G,gE (iTp (ao 0)) (gNm 0) (cCB qU (ag (ao 0) aD)) 1 [] [some u] S=some (.ref S.length,S++(.lst ((xs.map cf).map U.str)::G)):=by
 obtain⟨ok,hi,hok⟩:=h.it (ca:=ao 0) (ρ:=[some u]) rfl;obtain⟨⟨v,S'⟩,e,e1,G,e2⟩:=C0 (xs:=xs) (f:=U.int) (v:=fun x=>U.str (cf x)) (ce:=cCB qU (ag (ao 0) aD)) (caps:=[]) (cs:=[]) (Q:=fun r=>r.1=.ref S.length/\∃G,r.2=S++(.lst ((xs.map cf).map U.str)::G)) hi hok (by omega) rfl (fun x hx' G=>.of (r:=(.str (cf x),S++G)) (by rwa[mX (hx x hx')]) ⟨rfl,[],by simp⟩) fun G=>⟨rfl,G,by rw[XX];rfl⟩;dsimp only at e1 e2;subst e1 e2;exact⟨G,e⟩
def nE:Fn:=fnU 1 1 i0
theorem my(h:Sq u xs S)(hx:∀x∈xs,Nu x)(hn:xs.length<=300):∃G,nE [u] S=some (.str (eE xs),S++G):=by
 have hl:vm [u] S=some (.ref S.length,S++[.lst (xs.map U.int)]):=by
  rcases h with rfl|⟨l,rfl,hl⟩
  ·rwa[]
  ·rwa[hl]
 have ne:=Mf false (S:=S++[.lst (xs.map U.int)]++[.lst []]) (l:=S.length) (l':=(S++[O.lst (xs.map U.int)]).length) (us:=xs.map U.int) (aX (by rw[ga0];rfl)) (by rw[ga0];rfl);rw[if_neg ZL]at ne;obtain⟨T,hT⟩:∃T,T=S++[O.lst (xs.map U.int)]:=⟨_,rfl⟩;rw[<-hT]at hl ne;have hT2:T++[O.lst []]=S++[.lst (xs.map U.int),.lst []]:=by rw[hT];simp
 unfold nE eE;rw[qD];unfold i0;by_cases he:xs=[]
 ·rw[if_pos he,decide_eq_true (by rw[he];rfl)]at *;exact⟨_,by rw[<-hT2];rwa[hl,ne]⟩
 ·rw[if_neg he];rw[decide_eq_false (by simpa using he)]at ne;obtain⟨G,ec⟩:=yv (u:=u) (S:=T++[O.lst []]) ((by rw[hT];exact(h.app _).app _)) hx hn;generalize hY:(T++[O.lst []])++(O.lst ((xs.map cf).map U.str)::G)=Y at ec;have gy:Y[(T++[O.lst []]).length]?=some (.lst ((xs.map cf).map U.str)):=by rw[<-hY,ga0];rfl
  have ej:=yi (S:=Y) (ws:=xs.map cf) (fun y hy=>by obtain⟨x,h1,rfl⟩:=XW.mp hy;exact(ze (hx x h1)).1) (by simpa using hn) gy;have hbs:cBS lF (cC (.str " ")) (ag (gE (iTp (ao 0)) (gNm 0) (cCB qU (ag (ao 0) aD)) 1 []) aD) [some u] (T++[O.lst []])=some (.str (jS (xs.map cf)),Y):=by
   unfold cBS;rw[x_c,Z8];simp only[o7,ec,kN,vK,kM,Z8,ej]
  refine⟨[.lst (xs.map U.int),.lst []]++(.lst ((xs.map cf).map U.str)::G),?_⟩;rw[<-ZV,<-hT2,hY];rwa[hl,ne,hbs]
def oY:Fn:=fnU 1 1 tW
theorem uF(h:Sq u xs S)(hx:∀x∈xs,Nu x)(hn:xs.length<=300):∃G,oY [u] S=some (.str (eE xs),S++G):=by
 have hl:fx [u] S=some (.int (xs.length:Nat),S):=by
  rcases h with rfl|⟨l,rfl,hl⟩
  ·rwa[];simp
  ·rwa[hl];simp
 unfold oY eE;rw[qD];unfold tW;by_cases he:xs=[]
 ·have z:decide (((xs.length:Nat):Int)=0)=true:=decide_eq_true (by rw[he];rfl);rw[if_pos he];exact⟨[],by rwa[hl,z];simp⟩
 ·have z:decide (((xs.length:Nat):Int)=0)=false:=decide_eq_false (by have:=XB.mpr he;omega);rw[if_neg he];obtain⟨G,ec⟩:=yv (u:=u) (S:=S) h hx hn;generalize hY:S++(O.lst ((xs.map cf).map U.str)::G)=Y at ec;have gy:Y[S.length]?=some (.lst ((xs.map cf).map U.str)):=by rw[<-hY,ga0];rfl
  have ej:=yi (S:=Y) (ws:=xs.map cf) (fun y hy=>by obtain⟨x,h1,rfl⟩:=XW.mp hy;exact(ze (hx x h1)).1) (by simpa using hn) gy;have hbs:cBS lF (cC (.str " ")) (ag (gE (iTp (ao 0)) (gNm 0) (cCB qU (ag (ao 0) aD)) 1 []) aD) [some u] S=some (.str (jS (xs.map cf)),Y):=by
   unfold cBS;rw[x_c,Z8];simp only[o7,ec,kN,vK,kM,Z8,ej]
  refine⟨.lst ((xs.map cf).map U.str)::G,?_⟩;rw[hY];rwa[hl,z,hbs]
theorem jZ(hx:∀x∈xs,Nu x)(hn:xs.length<=300):(eE xs).length<=2000:=by
 unfold eE;split
 ·decide +kernel
 ·rename_i h;exact Rw.len ⟨by simpa using h,by simpa using hn,fun y hy=>by obtain⟨x,h1,rfl⟩:=XW.mp hy;exact ze (hx x h1)⟩
def mH:Fn:=fnU 2 2 tY
def ud(CA:Addr):FnR:=fnX 2 2 (kg CA)
theorem kH{v:U}:mH [.bl true,v] S=some (.non,S):=by
 unfold mH;rw[oJ];rwa[tY]
theorem FI{v:U}:mH [.bl false,v] S=none:=by
 unfold mH;rw[oJ];rwa[tY];rfl
theorem M4{v:U}{CA:Addr}:ud CA [.bl false,v] S=some (CA,S):=by
 unfold ud;rw[yt];unfold kg xIf xy;rwa[];rfl
def sD:Fn:=fnU 2 1 (nv oZ mH)
theorem wk{x:Int}(h:Nu x):∃G,sD [.str (cf x)] S=some (.int x,S++G):=by
 obtain⟨G,e⟩:=uT h.1 (by have:=h.2;omega) S;refine⟨G,?_⟩;have nn:∀S:Sto,ik (.int x) .non S=some (.bl true,S):=fun _=>rfl;unfold sD;rw[w4];rwa[nv,e,nn,kH]
end
section
variable{n w:Int}{first:List Int}{m:M}
def BdM(w:Int)(m:M):Prop:=(∀h∈m.hs,0<=h/\h<w)/\∀p∈m.ps,0<=p.2/\p.2<w
theorem Bp(w0:2<=w){xs:List Int}(h:∀x∈xs,0<=x/\x<w)(k:Nat):0<=xs.getD k 0/\xs.getD k 0<w:=by
 rw[Zs];cases e:xs[k]? with
 |none=>exact⟨Int.le_refl _,by show(0:Int)<w;omega⟩
 |some y=>exact h y (List.mem_of_getElem? e)
theorem Ih(w0:2<=w)(hf:∀z∈first,0<=z/\z<w)(h:BdM w m)(b:Int):0<=zk first m b/\zk first m b<w:=by
 unfold zk;cases e:gG m.ps b with
 |none=>exact Bp w0 hf _
 |some y=>exact h.2 _ (xJ e)
theorem AA{xs:List Int}(h:∀x∈xs,0<=x/\x<w){v:Int}(hv:0<=v/\v<w)(k:Nat):∀x∈xs.set k v,0<=x/\x<w:=fun x hx=>by
 rcases List.mem_or_eq_of_mem_set hx with z|z
 ·exact h x z
 ·rw[z];exact hv
theorem sQ(w0:2<=w)(hf:∀z∈first,0<=z/\z<w)(h:BdM w m){d:fq}(ok:d.ok n w):BdM w (step w first m d):=by
 cases d with
 |look g b=>exact⟨AA h.1 (Ih w0 hf h b) _,h.2⟩
 | put b g=>exact⟨h.1,fun p hp=>by
   rcases D0 hp with z|z
   ·exact h.2 p z
   ·rw[z];exact Bp w0 h.1 _⟩
 |set g v=>exact⟨AA h.1 ok.2.2 _,h.2⟩
 |plus g v=>exact⟨AA h.1 ⟨XD _ (by omega),Int.emod_lt_of_pos _ (by omega)⟩ _,h.2⟩
 |leap g v=>exact h
 |wait=>exact h
theorem GF{α:Type}{rn:List α->M->Bool×M}{k:List α->Prop}(hr:∀a m,k a->BdM w m->BdM w (rn a m).2){a b:List α}(ka:k a)(kb:k b)(h:BdM w m):BdM w (Kg rn a b m).2:=by
 unfold Kg;have h1:=hr a m ka h;cases e:rn a m with
 |mk t x=>
  rw[e]at h1;cases t with
  |true=>exact h1
  |false=>exact hr b _ kb h
theorem jm{α:Type}{rn:List α->M->Bool×M}{k:List α->Prop}(w0:2<=w)(hf:∀z∈first,0<=z/\z<w)(hr:∀a m,k a->BdM w m->BdM w (rn a m).2):∀(ds:List (DF α)) (j:Nat) (m:M),(∀d∈ds,DF.ok n w k d)->BdM w m->BdM w (jc w first rn ds j m).2
 |[],_,m,_,h=>by rw[jc];exact h
 |d::r,j+1,m,ok,h=>by rw[jc];exact jm w0 hf hr r j m (fun d hd=>ok d (ZJ _ hd)) h
 |.tr a b::r,0,m,ok,h=>by
  rw[jc];have o:=ok (.tr a b) ZE;have h1:=GF hr o.1 o.2 h;cases e:Kg rn a b m with
  |mk t x=>
   rw[e]at h1;cases t with
   |true=>exact jm w0 hf hr r 0 _ (fun d hd=>ok d (ZJ _ hd)) h1
   |false=>exact h1
 |.pl .wait::r,0,m,ok,h=>by rw[jc];exact h
 |.pl (.leap g v)::r,0,m,ok,h=>by rw[jc];exact jm w0 hf hr r _ m (fun d hd=>ok d (ZJ _ hd)) h
 |.pl (.look g b)::r,0,m,ok,h=>by rw[jc];exact jm w0 hf hr r 0 _ (fun d hd=>ok d (ZJ _ hd)) (sQ (n:=n) w0 hf h (ok (.pl (.look g b)) ZE))
 |.pl (.put g b)::r,0,m,ok,h=>by rw[jc];exact jm w0 hf hr r 0 _ (fun d hd=>ok d (ZJ _ hd)) (sQ (n:=n) w0 hf h (ok (.pl (.put g b)) ZE))
 |.pl (.set g b)::r,0,m,ok,h=>by rw[jc];exact jm w0 hf hr r 0 _ (fun d hd=>ok d (ZJ _ hd)) (sQ (n:=n) w0 hf h (ok (.pl (.set g b)) ZE))
 |.pl (.plus g b)::r,0,m,ok,h=>by rw[jc];exact jm w0 hf hr r 0 _ (fun d hd=>ok d (ZJ _ hd)) (sQ (n:=n) w0 hf h (ok (.pl (.plus g b)) ZE))
theorem vV(w0:2<=w)(hf:∀z∈first,0<=z/\z<w):∀(j:Nat) (ds:List (Dl j)) (m:M),OkM n w j ds->BdM w m->BdM w (uM w first j ds m).2
 |0,ds,m,ok,h=>jm (k:=fun _=>False) w0 hf (fun _ _ z=>z.elim) ds 0 m ok.2 h
 |j+1,ds,m,ok,h=>jm w0 hf (vV w0 hf j) ds 0 m ok.2 h
def Ml(w0:2<=w):BdM w m0:=⟨fun h hh=>by simp only[m0,Zx,X9,or_false,or_self]at hh;omega,fun p hp=>nomatch hp⟩
theorem okF{α:Type}{k k':List α->Prop}(h:∀a,k a->k' a){d:DF α}(o:DF.ok n w k d):DF.ok n w k' d:=by
 cases d with
 |pl d=>exact o
 |tr a b=>exact⟨h a o.1,h b o.2⟩
theorem PR:∀(j:Nat) (ds:List (Dl j)),OkM n w j ds->OkL n w j ds
 |0,ds,o=>⟨by have:=o.1;omega,o.2⟩
 |j+1,ds,o=>⟨by have:=o.1;omega,fun d hd=>okF (PR j) (o.2 d hd)⟩
end
section
variable{x lo hi n w:Int}{st:List Int}{S:Sto}
def Ci:Fn:=fnU 1 1 sx
def mG:Fn:=fnU 3 3 (lK Ci)
def IW:Fn:=fnU 1 1 (nz mG)
def IX:Fn:=fnU 2 2 (nA mG)
def GA:Ci [.int x] S=some (.bl true,S):=rfl
theorem sF(h0:lo<=x)(h1:x<=hi):mG [.int x,.int lo,.int hi] S=some (.bl true,S):=by
 have c:j9 fLe fLe (ao 1) (ao 0) (ao 2) [some (.int x),some (.int lo),some (.int hi)] S=some (.bl true,S):=by
  have a1:fLe (.int lo) (.int x) S=some (.bl true,S):=by rw[JM,decide_eq_true h0]
  have a2:fLe (.int x) (.int hi) S=some (.bl true,S):=by rw[JM,decide_eq_true h1]
  have v0:ao 0 [some (.int x),some (.int lo),some (.int hi)] S=some (.int x,S):=rfl;have v1:ao 1 [some (.int x),some (.int lo),some (.int hi)] S=some (.int lo,S):=rfl;have v2:ao 2 [some (.int x),some (.int lo),some (.int hi)] S=some (.int hi,S):=rfl;simp only[j9,v0,v1,v2,a1,a2,Z8]
 unfold mG;rw[BC];rwa[lK,GA,c]
structure Wo(n w:Int)(st:List Int):Prop where
 n0:1<=n
 n1:n<=6
 w0:2<=w
 w1:w<=1000
 ln:st.length=n.toNat
 st:∀z∈st,0<=z/\z<w
theorem ME(W:Wo n w st):IW [.tup [.int n,.int w]] S=some (.bl true,S):=by
 have e1:=sF (S:=S) W.n0 W.n1;have e2:=sF (S:=S) W.w0 W.w1;have d:decide (((0+1+1:Nat):Int)=2)=true:=rfl;have e3:Cu .tuple (ao 0) [some (.tup [.int n,.int w])] S=some (.bl true,S):=rfl;unfold IW;rw[qD];rwa[nz,e1,e2,e3,d]
theorem MF(W:Wo n w st):∃G,IX [.tup [.int n,.int w],.tup (st.map U.int)] S=some (.bl true,S++G):=by
 have d:decide (((st.map U.int).length:Int)=n)=true:=decide_eq_true (by rw[ZN,W.ln];have:=W.n0;omega);have e3:Cu .tuple (ao 1) [some (.tup [.int n,.int w]),some (.tup (st.map U.int))] S=some (.bl true,S):=rfl;obtain⟨⟨v,S'⟩,e,e1,G,e2⟩:=C0 (S:=S) (xs:=st) (f:=U.int) (v:=fun _=>U.bl true) (ci:=iTp (ao 1)) (ce:=cCB mG (ag (ao 0) (ag (cC (.int 0)) (ag (cOp oG (cOp fIx (ao 1) (cC (.int 1))) (cC (.int 1))) aD)))) (caps:=[0]) (ρ:=[some (.tup [.int n,.int w]),some (.tup (st.map U.int))]) (cs:=[some (.tup [.int n,.int w])]) (Q:=fun r=>r.1=.ref S.length/\∃G,r.2=S++(.lst (st.map fun _=>U.bl true)::G)) (MH rfl) (fun _=>trivial) (by have:=W.ln;have:=W.n1;omega) rfl (fun x hx G=>by
   have z:=W.st x hx;have e:=sF (S:=S++G) z.1 (show x<=w-1 by omega);exact .of (r:=(.bl true,S++G)) (by rwa[e]) ⟨rfl,[],by simp⟩) fun G=>⟨rfl,G,rfl⟩
 dsimp only at e1 e2;subst e1 e2;have gy:(S++(O.lst (st.map fun _=>U.bl true)::G))[S.length]?=some (.lst ((st.map fun _=>true).map U.bl)):=by rw[ga0,XX];rfl
 have ha:FC [.ref S.length] (S++(O.lst (st.map fun _=>U.bl true)::G))=some (.bl true,S++(O.lst (st.map fun _=>U.bl true)::G)):=by
  simp only[FC,gy,t6,Z8];rw[show(st.map fun _=>true).all id=true by simp]
 refine⟨O.lst (st.map fun _=>U.bl true)::G,?_⟩;generalize S++(O.lst (st.map fun _=>U.bl true)::G)=Y at e ha;unfold IX;rw[oJ];generalize st.map U.int=us at d e e3;rwa[nA,e3,d,e,ha]
end
theorem M0{us:List U}{i:Nat}(h:i<=us.length):Ct us none (some (i:Int))=us.take i:=by
 have e:HT.sIx us.length us.length (some (i:Int))=i:=by rw[HT.sIx_nat];omega
 unfold Ct;rw[e,HT.sIx_none,List.drop_zero,Nat.sub_zero]
theorem EC{us:List U}{i:Nat}(h:i<=us.length):Ct us (some (i:Int)) none=us.drop i:=by
 have e:HT.sIx us.length 0 (some (i:Int))=i:=by rw[HT.sIx_nat];omega
 unfold Ct;rw[e,HT.sIx_none,List.take_of_length_le (by rw[List.length_drop];omega)]
section
variable{cE:Cl}{CA:Addr}{n w:Int}{st:List Int}{Ds:List (List (Dl 3))}{d ld lw:Nat}{T S:Sto}{ρ:Rho}{us:List U}
theorem GL{i:Nat}(h:S[lw]?=some (.lst us))(hv:ao 2 ρ S=some (.ref lw,S))(hi:i<=us.length):cSl (ao 2) none (some (cC (.int (i:Int)))) ρ S=some (.ref S.length,S++[.lst (us.take i)]):=by
 unfold cSl;rw[hv,Z8];show(fSl (.ref lw) none (some (i:Int)) S)=_;simp only[fSl,h,M0 hi]
theorem pR{v i:Nat}(h:S[lw]?=some (.lst us))(hv:ao v ρ S=some (.ref lw,S))(hi:i<=us.length):cSl (ao v) (some (cC (.int (i:Int)))) none ρ S=some (.ref S.length,S++[.lst (us.drop i)]):=by
 unfold cSl;rw[hv,Z8];show(fSl (.ref lw) (some (i:Int)) none S)=_;simp only[fSl,h,EC hi]
abbrev IJ(cE:Cl)(n w:Int)(st:List Int)(ld:Nat):O:=.ins cE [some (.tup [.int n,.int w]),some (.tup (st.map U.int)),some (.ref ld),some .non]
structure De(cE:Cl)(d ld:Nat)(n w:Int)(st:List Int)(Ds:List (List (Dl 3)))(T:Sto):Prop where
 d:T[d]?=some (IJ cE n w st ld)
 l:T[ld]?=some (.lst (Ds.map dlU))
def De.app(h:De cE d ld n w st Ds T)(G:Sto):De cE d ld n w st Ds (T++G):=⟨aX h.d,aX h.l⟩
theorem De.len(h:De cE d ld n w st Ds T):fx [.ref ld] T=some (.int (Ds.length:Nat),T):=by
 have hl:=h.l;rwa[hl];simp
structure Dk(n w:Int)(Ds:List (List (Dl 3))):Prop where
 few:Ds.length<=12
 ok:∀ds∈Ds,OkM n w 3 ds/\kx 3 ds<=40
def lR(cE:Cl):Fn:=fnU 3 2 (fi sD mH cE)
def uc(cE:Cl)(CA:Addr):FnR:=fnX 3 2 (dk sD (ud CA) cE CA)
theorem xX{o:Int}(h:De cE d ld n w st Ds T)(k:Ds.length<=12)(o0:0<=o)(o1:o<(Ds.length:Nat)):∃G,lR cE [.ref d,.str (cf o)] T=some (.int o,T++G):=by
 obtain⟨G,e⟩:=wk (x:=o) (S:=T) ⟨o0,by omega⟩;refine⟨G,?_⟩;have h2:=h.app G;generalize T++G=Y at e h2;have e1:=h2.d;have e2:=h2.len;have z:decide (o<((Ds.length:Nat):Int))=true:=decide_eq_true o1;unfold lR;rw[lG];rwa[fi,e,e1,e2,z,kH]
theorem Hx{o:Int}(h:De cE d ld n w st Ds T)(k:Ds.length<=12)(o0:0<=o)(o2:o<=1000)(o1:((Ds.length:Nat):Int)<=o):lR cE [.ref d,.str (cf o)] T=none/\∃G,uc cE CA [.ref d,.str (cf o)] T=some (CA,T++G):=by
 obtain⟨G,e⟩:=wk (x:=o) (S:=T) ⟨o0,o2⟩;have h2:=h.app G;generalize hY:T++G=Y at e h2;have e1:=h2.d;have e2:=h2.len;have z:decide (o<((Ds.length:Nat):Int))=false:=decide_eq_false (by omega);constructor
 ·unfold lR;rw[lG];rwa[fi,e,e1,e2,z,FI,Option.bind_none]
 ·refine⟨G,?_⟩;unfold uc;rw[oI];rw[hY];rwa[dk,zZ,qV,e,e1,e2,z,M4]
end
section
variable{cE cD:Cl}{n w:Int}{st:List Int}{Ds:List (List (Dl 3))}{d ld lw:Nat}{T S:Sto}
def Qz(r:Bool×M)(first:List Int):Str:=match r with
 |(true,m)=>("done":Str)++(" ":Str)++eE (beh first m.ps 0)
 |(false,m)=>("waits":Str)++(" ":Str)++eE (oo m.lk)
abbrev rnA(w:Int)(st:List Int)(Ds:List (List (Dl 3)))(o:Int):Bool×M:=uM w st 3 (Ds.getD o.toNat []) m0
def Nu.of{x w:Int}(h:0<=x/\x<w)(w1:w<=1000):Nu x:=⟨h.1,by omega⟩
theorem Rq{o:Int}(k:Dk n w Ds)(o0:0<=o)(o1:o<(Ds.length:Nat)):OkM n w 3 (Ds.getD o.toNat []):=by
 have hk:o.toNat<Ds.length:=by omega
 rw[Zs,ZR hk];exact(k.ok _ (List.getElem_mem hk)).1
def C9{x:Int}{l:List Int}(h:x∈oo l):x∈l:=(mM l).mem_iff.mp h
theorem vz(hns:cD.ns.length=4)(W:Wo n w st)(k:Dk n w Ds){o:Int}(o0:0<=o)(o1:o<(Ds.length:Nat))(S:Sto):∃(G:Sto) (s:Str) (v:U) (r:List U) (xs:List Int),gF cD [.tup [.int n,.int w],dlU (Ds.getD o.toNat []),.tup (st.map U.int)] S=some (.tup (.str s::v::r),S++G)/\Sq v xs (S++G)/\(∀x∈xs,Nu x)/\xs.length<=300/\s.length<=5/\s++(" ":Str)++eE xs=Qz (rnA w st Ds o) st:=by
 have hM:=Rq k o0 o1;obtain⟨wf,G,l,e,hl⟩:=yD (cD:=cD) (n:=n) (w:=w) (first:=st) (j:=3) (by omega) S hns _ (PR 3 _ hM) W.ln W.n0 W.n1 W.w0;have bd:=vV W.w0 W.st 3 _ m0 hM (Ml W.w0);unfold rnA;have e':gF cD [.tup [.int n,.int w],dlU (Ds.getD o.toNat []),.tup (st.map U.int)] S=_:=e;revert wf e' hl bd;generalize uM w st 3 (Ds.getD o.toNat []) m0=r;obtain⟨t,m⟩:=r;intro wf hl bd e;have ln:st.length<=6:=by have:=W.ln;have:=W.n1;omega
 cases t with
 |true=>exact⟨G,"done",_,_,beh st m.ps 0,e,.inl rfl,fun x hx=>Nu.of (FL W.st bd.2 0 x hx) W.w1,by rw[xl];omega,by decide +kernel,rfl⟩
 | false=>exact⟨G,"waits",_,_,oo m.lk,e,.inr ⟨l,rfl,(hl rfl).1⟩,fun x hx=>by have:=wf.lb x (C9 hx);exact Nu.of this (by have:=W.n1;omega),by
   rw[(mM m.lk).length_eq];have:=few n.toNat m.lk wf.lk fun b hb=>by have:=wf.lb b hb;have:=W.n0;omega
   have:=W.n1;omega,by decide +kernel,rfl⟩
theorem NL{s:Str}{xs:List Int}(hs:s.length<=5)(hx:∀x∈xs,Nu x)(hn:xs.length<=300)(S:Sto):cX (.str s) (.str " ") S=some (.str (s++(" ":Str)),S)/\cX (.str (s++(" ":Str))) (.str (eE xs)) S=some (.str (s++(" ":Str)++eE xs),S):=by
 have l1:(" ":Str).length=1:=by decide +kernel
 have l2:(s++(" ":Str)).length=s.length+1:=by rw[cI,qF,ZY,<-cI,<-cI,l1]
 have l3:=jZ hx hn;exact⟨kI (by omega),kI (by omega)⟩
def sC(cE cD:Cl):Fn:=fnU 3 2 (eB mH (gF cD) oY (lR cE) cE)
theorem GS(hns:cD.ns.length=4)(W:Wo n w st)(k:Dk n w Ds){o:Int}(o0:0<=o)(o1:o<(Ds.length:Nat))(h:De cE d ld n w st Ds T)(hl:T[lw]?=some (.lst [.str (cf o)])):∃G,sC cE cD [.ref d,.ref lw] T=some (.str (Qz (rnA w st Ds o) st),T++G):=by
 obtain⟨G1,e1⟩:=xX h k.few o0 o1;have h1:=h.app G1;obtain⟨Y1,hY1⟩:∃Y1,Y1=T++G1:=⟨_,rfl⟩;rw[<-hY1]at e1 h1;obtain⟨G2,s,v,r,xs,e2,q2,nx,nl,sl,et⟩:=vz (cD:=cD) hns W k o0 o1 Y1;obtain⟨Y2,hY2⟩:∃Y2,Y2=Y1++G2:=⟨_,rfl⟩;rw[<-hY2]at e2 q2;obtain⟨G3,e3⟩:=uF q2 nx nl;obtain⟨Y3,hY3⟩:∃Y3,Y3=Y2++G3:=⟨_,rfl⟩;rw[<-hY3]at e3;obtain⟨a1,-⟩:=NL sl nx nl Y2;obtain⟨-,a2⟩:=NL sl nx nl Y3;have t0:=h.d;have t1:=h.l;have t2:=h1.d;have t3:=h1.l;have at':=IK (Ds:=Ds) o0 o1;have fl:fx [.ref lw] T=some (.int 1,T):=by rwa[hl];rfl
 have z:decide ((1:Int)=1)=true:=rfl;refine⟨G1++G2++G3,?_⟩;rw[<-ZV,<-ZV,<-hY1,<-hY2,<-hY3,<-et];unfold sC;rw[lG];rwa[eB,hl,fl,z,kH,t0,t1,t2,t3,at',e1,e2,e3,a1,a2]
end
section
variable{cE cD:Cl}{n w:Int}{st:List Int}{Ds:List (List (Dl 3))}{d ld lw lo:Nat}{T S:Sto}{ρ:Rho}
def RB(w:Int)(b:Nat):Jk->Prop
 |.done st=>∀z∈st,0<=z/\z<w
 |.waits k _=>k<=b
theorem AJ(w0:2<=w)(k:Dk n w Ds):∀(os:List Int) (i:Nat) (st:List Int),(∀z∈st,0<=z/\z<w)->(∀o∈os,0<=o/\o<(Ds.length:Int))->RB w (i+os.length) (qT w Ds os i st)
 |[],i,st,h,_=>h
 |o::os,i,st,h,ho=>by
  have hM:=Rq k (ho o ZE).1 (ho o ZE).2;have bd:=vV w0 h 3 _ m0 hM (Ml w0);rw[qT];generalize uM w st 3 (Ds.getD o.toNat []) m0=r at bd;obtain⟨t,m⟩:=r;cases t with
  |true=>
   have:=AJ w0 k os (i+1) (beh st m.ps 0) (FL h bd.2 0) fun o h=>ho o (ZJ _ h);rw[show i+(o::os).length=i+1+os.length by rw[ZT];omega];exact this
  |false=>exact Nat.le_add_right _ _
def Fc:Jk->Str
 |.done st=>("done ":Str)++eE st
 |.waits k _=>("waits ":Str)++cf (k:Int)
theorem Fb(hns:cD.ns.length=4)(W:Wo n w st)(k:Dk n w Ds){os:List Int}(ho:∀o∈os,0<=o/\o<(Ds.length:Int))(h1:S[ld]?=some (.lst (Ds.map dlU)))(h2:S[lo]?=some (.lst (os.map U.int))):∃X l,EN n (S++X) l (qT w Ds os 0 st)/\RB w os.length (qT w Ds os 0 st)/\Cj cD [.tup [.int n,.int w],.ref ld,.tup (st.map U.int),.ref lo] S=some (yZ (qT w Ds os 0 st) l,S++X):=by
 obtain⟨X,l,a,-,e⟩:=Eb (cD:=cD) (j:=3) (by omega) hns W.n0 W.n1 W.w0 (fun ds h=>PR 3 ds (k.ok ds h).1) os st S h1 h2 ho W.ln;have b:=AJ W.w0 k os 0 st W.st ho;rw[Nat.zero_add]at b;exact⟨X,l,a,b,e⟩
theorem AI{b:Nat}{r:Jk}{s:List Int}(hr:r=.done s)(W:Wo n w st)(a:EN n S ld r)(h:RB w b r):(∀x∈s,Nu x)/\s.length<=300:=by
 subst hr;exact⟨fun x hx=>Nu.of (h x hx) W.w1,by have:s.length=n.toNat:=a;have:=W.n1;omega⟩
theorem Ng{s:List Int}(h:(∀x∈s,Nu x)/\s.length<=300)(S:Sto):cX (.str "done ") (.str (eE s)) S=some (.str (("done ":Str)++eE s),S):=by
 have l1:("done ":Str).length=5:=by decide +kernel
 have:=jZ h.1 h.2;exact kI (by omega)
theorem Nd{k:Int}(h:Nu k)(S:Sto):cX (.str "waits ") (.str (cf k)) S=some (.str (("waits ":Str)++cf k),S):=by
 have l1:("waits ":Str).length=6:=by decide +kernel
 have:=(ze h).1;exact kI (by omega)
def Sn:decide (("done":Str)="waits")=false:=by decide +kernel
def Sl:decide (("waits":Str)="waits")=true:=by decide +kernel
def yI(cE cD:Cl):Fn:=fnU 3 2 (f9 mH (Cj cD) oY (lR cE) cE)
theorem GQ(hns:cD.ns.length=4)(W:Wo n w st)(k:Dk n w Ds){os:List Int}(h0:os≠[])(h12:os.length<=12)(ho:∀o∈os,0<=o/\o<(Ds.length:Int))(h:De cE d ld n w st Ds T)(hl:T[lw]?=some (.lst ((os.map cf).map U.str))):∃G,yI cE cD [.ref d,.ref lw] T=some (.str (Fc (qT w Ds os 0 st)),T++G):=by
 have hl':T[lw]?=some (.lst (os.map fun x=>U.str (cf x))):=by rw[hl,XX];rfl
 have fl:fx [.ref lw] T=some (.int (os.length:Nat),T):=by rwa[hl];simp
 have t0:=h.d;have ch:j9 fLt fLe (cC (.int 0)) (cCB fx (ag (ao 1) aD)) (cC (.int 12)) [some (.ref d),some (.ref lw),none] T=some (.bl true,T):=by
  have p:=XB.mpr h0;have a1:fLt (.int 0) (.int (os.length:Nat)) T=some (.bl true,T):=by rw[QK,decide_eq_true (by omega)]
  have a2:fLe (.int (os.length:Nat)) (.int 12) T=some (.bl true,T):=by rw[JM,decide_eq_true (by omega)]
  have v:cCB fx (ag (ao 1) aD) [some (.ref d),some (.ref lw),none] T=some (.int (os.length:Nat),T):=by rwa[fl]
  have c0:cC (.int 0) [some (.ref d),some (.ref lw),none] T=some (.int 0,T):=rfl;have c1:cC (.int 12) [some (.ref d),some (.ref lw),none] T=some (.int 12,T):=rfl;simp only[j9,v,c0,c1,a1,a2,Z8]
 obtain⟨⟨v,S'⟩,e,e1,G,e2⟩:=C0 (S:=T) (xs:=os) (f:=fun x=>U.str (cf x)) (v:=U.int) (ci:=iTp (ao 1)) (ce:=bH cE (lR cE) (ao 1) (ag (ao 0) aD)) (caps:=[0]) (ρ:=[some (.ref d),some (.ref lw),none]) (cs:=[some (.ref d)]) (Q:=fun r=>r.1=.ref T.length/\∃G,r.2=T++(.lst (os.map U.int)::G)) (Ec rfl hl') (fun G=>aX hl') (by omega) rfl (fun x hx G=>by
   have hx':=ho x hx;have hg:=h.app G;obtain⟨G2,e⟩:=xX hg k.few hx'.1 hx'.2;have g0:=hg.d;exact .of (r:=(.int x,T++G++G2)) (by rwa[g0,e]) ⟨rfl,G2,rfl⟩) fun G=>⟨rfl,G,rfl⟩
 dsimp only at e1 e2;subst e1 e2;have h1:=h.app (.lst (os.map U.int)::G);have gl:(T++(O.lst (os.map U.int)::G))[T.length]?=some (.lst (os.map U.int)):=by rw[ga0];rfl
 obtain⟨Y1,hY1⟩:∃Y1,Y1=T++(O.lst (os.map U.int)::G):=⟨_,rfl⟩;rw[<-hY1]at e h1 gl;obtain⟨X,l,a,b,er⟩:=Fb (cD:=cD) hns W k ho h1.l gl;obtain⟨Y2,hY2⟩:∃Y2,Y2=Y1++X:=⟨_,rfl⟩;rw[<-hY2]at er a;unfold yI;rw[lG];cases hr:qT w Ds os 0 st with
 |done s=>
  have nn:=AI hr W a b;obtain⟨G3,e3⟩:=uF (u:=.tup (s.map U.int)) (S:=Y2) (.inl rfl) nn.1 nn.2;obtain⟨Y3,hY3⟩:∃Y3,Y3=Y2++G3:=⟨_,rfl⟩;rw[<-hY3]at e3;have a1:=Ng nn Y3;rw[hr]at er;refine⟨(.lst (os.map U.int)::G)++X++G3,?_⟩;rw[<-ZV,<-ZV,<-hY1,<-hY2,<-hY3];unfold yZ at er;rwa[f9,fl,ch,kH,t0,e,er,e3,a1,Sn,Fc]
 |waits i lk=>
  rw[hr]at er b;have nn:Nu ((i:Nat):Int):=⟨by omega,by have:i<=os.length:=b;omega⟩;have e3:=mX nn Y2;have a1:=Nd nn Y2;refine⟨(.lst (os.map U.int)::G)++X,?_⟩;rw[<-ZV,<-hY1,<-hY2];unfold yZ at er;rwa[f9,fl,ch,kH,t0,e,er,e3,a1,Sl,Fc]
end
section
variable{cE cD cR:Cl}{CA:Addr}{n w:Int}{st:List Int}{Ds:List (List (Dl 3))}{d ld lw:Nat}{T S:Sto}{us:List U}{ds:List (Dl 3)}
def xp(cE cR:Cl):Fn:=fnU 2 2 (gD (Ck cR) cE)
theorem Di(hns:cR.ns.length=4)(W:Wo n w st)(ok:OkM n w 3 ds)(sz:kx 3 ds<=40)(h:De cE d ld n w st Ds T)(hl:T[lw]?=some (.lst ((wdD 3 ds).map U.str))):∃G,xp cE cR [.ref d,.ref lw] T=some (dlU ds,T++G):=by
 obtain⟨G,e⟩:=G0 (cR:=cR) (S:=T) hns W.n1 W.w1 ok sz;refine⟨G,?_⟩;have ej:=Bc W.n1 W.w1 ok sz hl;have t0:=h.d;have hbs:cBS lF (cC (.str " ")) (ag (ao 1) aD) [some (.ref d),some (.ref lw)] T=some (.str (txt ds),T):=by
  unfold cBS;rw[x_c,Z8];have h1:ao 1 [some (.ref d),some (.ref lw)] T=some (.ref lw,T):=rfl;simp only[o7,h1,kN,vK,kM,Z8,ej]
 unfold xp;rw[oJ];unfold dlU;generalize ds.map (Dl.u 3)=D at e;generalize T++G=Y at e;rwa[gD,t0,hbs,e]
def qP(cE cR:Cl):Fn:=fnU 2 2 (fh mH (xp cE cR) cE)
def Cb(cE:Cl)(CA:Addr):FnR:=fnX 2 2 (dj (ud CA) cE CA)
abbrev dkE(d ld:Nat):Nat->Prop:=fun j=>j=d\/j=ld
theorem GR(hns:cR.ns.length=4)(W:Wo n w st)(k:Dk n w Ds)(few:Ds.length<12)(ok:OkM n w 3 ds)(sz:kx 3 ds<=40)(h:De cE d ld n w st Ds T)(ne:d≠ld)(hl:T[lw]?=some (.lst ((wdD 3 ds).map U.str))):∃T',qP cE cR [.ref d,.ref lw] T=some (.str (cf (Ds.length:Nat)),T')/\De cE d ld n w st (Ds++[ds]) T'/\Kq (dkE d ld) T T':=by
 obtain⟨G,e⟩:=Di (cE:=cE) hns W ok sz h hl;have h1:=h.app G;obtain⟨Y,hY⟩:∃Y,Y=T++G:=⟨_,rfl⟩;rw[<-hY]at e h1;have t0:=h.d;have t1:=h1.d;have fl:fx [.ref lw] T=some (.int ((wdD 3 ds).length:Nat),T):=by rwa[hl];simp
 have z1:decide (0<(((wdD 3 ds).length:Nat):Int))=true:=decide_eq_true (by have:=XB.mpr (xH (ds:=ds));omega);have z2:decide (((Ds.length:Nat):Int)<12)=true:=decide_eq_true (by omega);have f2:=h.len;have ha:cN (.ref ld) [dlU ds] Y=some (.non,Y.set ld (.lst (Ds.map dlU++[dlU ds]))):=by
  have hl:=h1.l;simp only[cN,hl];rw[if_pos (by rw[ZN];unfold LIM;omega)]
 have hd2:(Y.set ld (.lst (Ds.map dlU++[dlU ds])))[d]?=some (IJ cE n w st ld):=by rw[ZH fun z=>ne z.symm];exact t1
 have hl2:(Y.set ld (.lst (Ds.map dlU++[dlU ds])))[ld]?=some (.lst (Ds.map dlU++[dlU ds])):=by rw[Zr (Z9.mp h1.l).1]
 have kq:Kq (dkE d ld) T (Y.set ld (.lst (Ds.map dlU++[dlU ds]))):=by rw[hY];exact(Kq.app G).trans (.set (.inr rfl))
 obtain⟨Y2,hY2⟩:∃Y2,Y2=Y.set ld (.lst (Ds.map dlU++[dlU ds])):=⟨_,rfl⟩;rw[<-hY2]at ha hd2 hl2 kq;have em:(Ds++[ds]).map dlU=Ds.map dlU++[dlU ds]:=by rw[Zp];rfl
 rw[<-em]at hl2;have d3:De cE d ld n w st (Ds++[ds]) (Y2.set d (IJ cE n w st ld)):=⟨by rw[Zr (Z9.mp hd2).1],by rw[ZH ne];exact hl2⟩;refine⟨Y2.set d (IJ cE n w st ld),?_,d3,kq.trans (.set (.inl rfl))⟩;have f3:=d3.len;have tl:=h.l;have t3:=d3.d;unfold qP;rw[oJ];unfold fh;have rx:((((Ds++[ds]).length:Nat):Int)-1)=((Ds.length:Nat):Int):=by rw[ZY];simp
 have es:=mX (x:=((Ds.length:Nat):Int)) ⟨by omega,by omega⟩ (Y2.set d (IJ cE n w st ld));rw[cQ (ρ':=[some (.ref d),some (.ref lw)]) (S':=T) (by rwa[fl,z1,t0,f2,z2,kH])];rw[cQ (ρ':=[some (.ref d),some (.ref lw)]) (S':=Y2) (by rwa[t0,tl,e,ha])];rw[cQ (ρ':=[some (.ref d),some (.ref lw)]) (S':=Y2.set d (IJ cE n w st ld)) (by rwa[hd2])];generalize Y2.set d (IJ cE n w st ld)=Z at t3 f3 es;rwa[t3,f3,rx,es]
theorem KD(h:De cE d ld n w st Ds T)(few:Ds.length=12)(hl:T[lw]?=some (.lst us)):qP cE cR [.ref d,.ref lw] T=none/\Cb cE CA [.ref d,.ref lw] T=some (CA,T):=by
 have t0:=h.d;have fl:fx [.ref lw] T=some (.int (us.length:Nat),T):=by rwa[hl]
 have f2:=h.len;have z2:decide (((Ds.length:Nat):Int)<12)=false:=decide_eq_false (by omega);have ev:lP (cOp fGt (cCB fx (ag (ao 1) aD)) (cC (.int 0))) (cOp fLt (cCB fx (ag (gh cE 2 (ao 0)) aD)) (cC (.int 12))) [some (.ref d),some (.ref lw)] T=some (.bl false,T):=by
  cases z1:decide (0<((us.length:Nat):Int))with
  |true=>rwa[fl,z1,t0,f2,z2]
  |false=>rwa[fl,z1]
 constructor
 ·unfold qP;rw[oJ];rwa[fh,ev,FI,Option.bind_none]
 ·unfold Cb;rw[oH];rwa[dj,qV,ev,M4]
def Cc(cE cD:Cl)(CA:Addr):FnR:=fnX 3 2 (cV mH (gF cD) (ud CA) (uc cE CA) cE CA)
theorem FG{v:U}:ud CA [.bl true,v] S=none:=by
 unfold ud;rw[yt];unfold kg xIf xy;rwa[];rfl
theorem KG{o:Int}(h:De cE d ld n w st Ds T)(k:Ds.length<=12)(o0:0<=o)(o2:o<=1000)(o1:((Ds.length:Nat):Int)<=o)(hl:T[lw]?=some (.lst [.str (cf o)])):sC cE cD [.ref d,.ref lw] T=none/\∃G,Cc cE cD CA [.ref d,.ref lw] T=some (CA,T++G):=by
 obtain⟨e0,G,e⟩:=Hx (CA:=CA) h k o0 o2 o1;have t0:=h.d;have fl:fx [.ref lw] T=some (.int 1,T):=by rwa[hl];rfl
 have z:decide ((1:Int)=1)=true:=rfl;constructor
 ·unfold sC;rw[lG];rwa[eB,hl,fl,z,kH,t0,e0,Option.bind_none]
 ·refine⟨G,?_⟩;have m:mK cE (uc cE CA) (ao 0) (ag (cOp fIx (ao 1) (cC (.int 0))) aD) [some (.ref d),some (.ref lw),none] T=some (CA,T++G):=by
   have v:ao 0 [some (.ref d),some (.ref lw),none] T=some (.ref d,T):=rfl;have a:ag (cOp fIx (ao 1) (cC (.int 0))) aD [some (.ref d),some (.ref lw),none] T=some ([.str (cf o)],T):=by rwa[hl]
   unfold mK;rw[v,Z8];simp only[t0,a,if_true,Z8,e]
  unfold Cc;rw[nr];rwa[cV,Cq,zZ,zY,qV,hl,fl,z,kH,FG,t0,m]
end
section
variable{cE:Cl}{n w:Int}{st:List Int}{d lw:Nat}{T S:Sto}{ρ:Rho}
def rS{o o':O}(h:S[d]?=some o):(S.set d o')[d]?=some o':=by rw[Zr (Z9.mp h).1]
def vA(cE:Cl):Fn:=fnU 5 2 (gC sD mH IW IX cE)
theorem GP(W:Wo n w st){f0 f1 f2 f3:Option U}(h:T[d]?=some (.ins cE [f0,f1,f2,f3]))(hl:T[lw]?=some (.lst (((n::w::st).map cf).map U.str))):∃T' ld',vA cE [.ref d,.ref lw] T=some (.str "ok",T')/\De cE d ld' n w st [] T'/\Kq (·=d) T T'/\T.length<=ld':=by
 have n0:=W.n0;have n1:=W.n1;have w0:=W.w0;have w1:=W.w1;have nu:∀x∈n::w::st,Nu x:=fun x hx=>by
  rcases Zx.mp hx with rfl|hx
  ·exact⟨by omega,by omega⟩
  ·rcases Zx.mp hx with rfl|hx
   ·exact⟨by omega,by omega⟩
   ·exact Nu.of (W.st x hx) W.w1
 have ln:=W.ln;have hl':T[lw]?=some (.lst ((n::w::st).map fun x=>U.str (cf x))):=by rw[hl,XX];rfl
 obtain⟨⟨v,S'⟩,e,e1,G,e2⟩:=C0 (S:=T) (xs:=n::w::st) (f:=fun x=>U.str (cf x)) (v:=U.int) (ci:=iTp (ao 1)) (ce:=cCB sD (ag (ao 0) aD)) (caps:=[]) (ρ:=[some (.ref d),some (.ref lw),none,none,none]) (cs:=[]) (Q:=fun r=>r.1=.ref T.length/\∃G,r.2=T++(.lst ((n::w::st).map U.int)::G)) (Ec rfl hl') (fun G=>aX hl') (by simp only[ZT];omega) rfl (fun x hx G=>by
   obtain⟨G2,e⟩:=wk (S:=T++G) (nu x hx);exact .of (r:=(.int x,T++G++G2)) (by rwa[e]) ⟨rfl,G2,rfl⟩) fun G=>⟨rfl,G,rfl⟩
 dsimp only at e1 e2;subst e1 e2;have gl:(T++(O.lst ((n::w::st).map U.int)::G))[T.length]?=some (.lst ((n::w::st).map U.int)):=by rw[ga0];rfl
 have h1:=aX (r:=O.lst ((n::w::st).map U.int)::G) h;have k1:Kq (·=d) T (T++(O.lst ((n::w::st).map U.int)::G)):=Kq.app _;obtain⟨Y1,hY1⟩:∃Y1,Y1=T++(O.lst ((n::w::st).map U.int)::G):=⟨_,rfl⟩;rw[<-hY1]at e gl h1 k1;obtain⟨q,hq⟩:∃q,q=T.length:=⟨_,rfl⟩;have lq:T.length<=Y1.length:=k1.len;rw[<-hq]at e gl;have s1:=GL (S:=Y1) (lw:=q) (i:=2) (ρ:=[some (.ref d),some (.ref lw),some (.ref q),none,none]) gl rfl (by simp only[ZG,ZT];omega);have k2:Kq (·=d) T (Y1++[.lst (((n::w::st).map U.int).take 2)]):=k1.trans (Kq.app _);have h2:=aX (r:=[O.lst (((n::w::st).map U.int).take 2)]) h1;have gl2:=aX (r:=[O.lst (((n::w::st).map U.int).take 2)]) gl;have ga2:(Y1++[O.lst (((n::w::st).map U.int).take 2)])[Y1.length]?=some (.lst [.int n,.int w]):=by rw[ga0];rfl
 obtain⟨Y2,hY2⟩:∃Y2,Y2=Y1++[O.lst (((n::w::st).map U.int).take 2)]:=⟨_,rfl⟩;rw[<-hY2]at s1 k2 h2 gl2 ga2;have s2:=pR (S:=Y2) (lw:=q) (v:=2) (i:=2) (ρ:=[some (.ref d),some (.ref lw),some (.ref q),some (.tup [.int n,.int w]),none]) gl2 rfl (by simp only[ZG,ZT];omega);have k3:Kq (·=d) T (Y2++[.lst (((n::w::st).map U.int).drop 2)]):=k2.trans (Kq.app _);have h3:=aX (r:=[O.lst (((n::w::st).map U.int).drop 2)]) h2;have ga3:(Y2++[O.lst (((n::w::st).map U.int).drop 2)])[Y2.length]?=some (.lst (st.map U.int)):=by rw[ga0];rfl
 obtain⟨Y3,hY3⟩:∃Y3,Y3=Y2++[O.lst (((n::w::st).map U.int).drop 2)]:=⟨_,rfl⟩;rw[<-hY3]at s2 k3 h3 ga3;have e5:=ME (S:=Y3) W;obtain⟨G4,e6⟩:=MF (S:=Y3) W;have k4:Kq (·=d) T (Y3++G4):=k3.trans (Kq.app _);have h4:=aX (r:=G4) h3;obtain⟨Y4,hY4⟩:∃Y4,Y4=Y3++G4:=⟨_,rfl⟩;rw[<-hY4]at e6 k4 h4;obtain⟨x,hx⟩:∃x,x=U.tup (st.map U.int):=⟨_,rfl⟩;have t2:iN [.ref Y1.length] Y2=some (.tup [.int n,.int w],Y2):=by rwa[ga2]
 have t3:iN [.ref Y2.length] Y3=some (x,Y3):=by rw[hx];rwa[ga3]
 rw[<-hx]at e6;have h5:=rS (o':=.ins cE [some (.tup [.int n,.int w]),f1,f2,f3]) h4;obtain⟨Y5,hY5⟩:∃Y5,Y5=Y4.set d (.ins cE [some (.tup [.int n,.int w]),f1,f2,f3]):=⟨_,rfl⟩;have k5:Kq (·=d) T Y5:=by rw[hY5];exact k4.trans (.set rfl)
 rw[<-hY5]at h5;have h6:=rS (o':=.ins cE [some (.tup [.int n,.int w]),some x,f2,f3]) h5;obtain⟨Y6,hY6⟩:∃Y6,Y6=Y5.set d (.ins cE [some (.tup [.int n,.int w]),some x,f2,f3]):=⟨_,rfl⟩;have k6:Kq (·=d) T Y6:=by rw[hY6];exact k5.trans (.set rfl)
 rw[<-hY6]at h6;have h7:=aX (r:=[O.lst []]) h6;have g7:(Y6++[O.lst []])[Y6.length]?=some (.lst []):=by rw[ga0];rfl
 have k7:Kq (·=d) T (Y6++[O.lst []]):=k6.trans (Kq.app _);have dl:d≠Y6.length:=by have:=(Z9.mp h6).1;omega
 have l6:T.length<=Y6.length:=k6.len;obtain⟨p,hp⟩:∃p,p=Y6.length:=⟨_,rfl⟩;obtain⟨Y7,hY7⟩:∃Y7,Y7=Y6++[O.lst []]:=⟨_,rfl⟩;rw[<-hY7]at h7 g7 k7;rw[<-hp]at g7 dl l6;have h8:=rS (o':=.ins cE [some (.tup [.int n,.int w]),some x,some (.ref p),f3]) h7;have g8:(Y7.set d (.ins cE [some (.tup [.int n,.int w]),some x,some (.ref p),f3]))[p]?=some (.lst []):=by rw[ZH dl];exact g7
 obtain⟨Y8,hY8⟩:∃Y8,Y8=Y7.set d (.ins cE [some (.tup [.int n,.int w]),some x,some (.ref p),f3]):=⟨_,rfl⟩;have k8:Kq (·=d) T Y8:=by rw[hY8];exact k7.trans (.set rfl)
 rw[<-hY8]at h8 g8;have h9:=rS (o':=.ins cE [some (.tup [.int n,.int w]),some x,some (.ref p),some .non]) h8;have g9:(Y8.set d (.ins cE [some (.tup [.int n,.int w]),some x,some (.ref p),some .non]))[p]?=some (.lst []):=by rw[ZH dl];exact g8
 obtain⟨Y9,hY9⟩:∃Y9,Y9=Y8.set d (.ins cE [some (.tup [.int n,.int w]),some x,some (.ref p),some .non]):=⟨_,rfl⟩;have k9:Kq (·=d) T Y9:=by rw[hY9];exact k8.trans (.set rfl)
 rw[<-hY9]at h9 g9;refine⟨Y9,p,?_,⟨by rw[h9,hx],g9⟩,k9,l6⟩;unfold vA;rw[Qq];unfold gC;have s1':cSl (ao 2) none (some (cC (.int 2))) [some (.ref d),some (.ref lw),some (.ref q),none,none] Y1=some (.ref Y1.length,Y2):=s1;have s2':cSl (ao 2) (some (cC (.int 2))) none [some (.ref d),some (.ref lw),some (.ref q),some (.tup [.int n,.int w]),none] Y2=some (.ref Y2.length,Y3):=s2;rw[cQ (ρ':=[some (.ref d),some (.ref lw),some (.ref q),none,none]) (S':=Y1) (by rwa[e])];rw[cQ (ρ':=[some (.ref d),some (.ref lw),some (.ref q),some (.tup [.int n,.int w]),none]) (S':=Y2) (by rwa[s1',t2])];rw[cQ (ρ':=[some (.ref d),some (.ref lw),some (.ref q),some (.tup [.int n,.int w]),some x]) (S':=Y3) (by rwa[s2',t3])];rw[cQ (ρ':=[some (.ref d),some (.ref lw),some (.ref q),some (.tup [.int n,.int w]),some x]) (S':=Y4) (by rwa[e5,e6,kH])];rw[cQ (ρ':=[some (.ref d),some (.ref lw),some (.ref q),some (.tup [.int n,.int w]),some x]) (S':=Y5) (by rwa[h4,hY5])];rw[cQ (ρ':=[some (.ref d),some (.ref lw),some (.ref q),some (.tup [.int n,.int w]),some x]) (S':=Y6) (by rwa[h5,hY6])];rw[cQ (ρ':=[some (.ref d),some (.ref lw),some (.ref q),some (.tup [.int n,.int w]),some x]) (S':=Y8) (by
  have cl:kr aD [some (.ref d),some (.ref lw),some (.ref q),some (.tup [.int n,.int w]),some x] Y6=some (.ref p,Y7):=by rw[hp,hY7];rfl
  rwa[cl,h7,hY8])]
 rw[cQ (ρ':=[some (.ref d),some (.ref lw),some (.ref q),some (.tup [.int n,.int w]),some x]) (S':=Y9) (by rwa[h8,hY9])];rfl
end
section
variable{cE cD cR:Cl}{CA:Addr}{n w:Int}{st:List Int}{Ds:List (List (Dl 3))}{d ld lw:Nat}{T S:Sto}{ρ:Rho}{us:List U}{z y:Str}{ws:List Str}{ca:CS}{r:Out×Rho×Sto}{row:Str}
theorem Mz(h:S[lw]?=some (.lst (.str z::us)))(hv:ao 2 ρ S=some (.ref lw,S)):aL (cOp fEq (cOp fIx (ao 2) (cC (.int 0))) (cC (.str y))) ρ S=some (decide (z=y),S):=by
 rwa[hv,h]
theorem oA(h:S[lw]?=some (.lst (.str z::us)))(hv:ao 2 ρ S=some (.ref lw,S))(hd:decide (z=y)=false):dC (aL (cOp fEq (cOp fIx (ao 2) (cC (.int 0))) (cC (.str y)))) ca bB ρ S=some (.nx,ρ,S):=by
 rw[yQ,Mz h hv,hd];rfl
theorem sk(h:S[lw]?=some (.lst (.str z::us)))(hv:ao 2 ρ S=some (.ref lw,S)):dC (aL (cOp fEq (cOp fIx (ao 2) (cC (.int 0))) (cC (.str z)))) ca bB ρ S=ca ρ S:=by
 rw[yQ,Mz h hv,decide_eq_true rfl];rfl
def xR{c1 c2:CS}{u:U}{ρ':Rho}{S':Sto}(h:c1 ρ S=some (.rt u,ρ',S')):aV c1 c2 ρ S=some (.rt u,ρ',S'):=by rw[CB,h];rfl
def E6{c1 c2:CS}(h:c1 ρ S=none):aV c1 c2 ρ S=none:=by rw[CB,h];rfl
abbrev spS(T:Sto)(z:Str)(ws:List Str):Sto:=T++[.lst (.str z::ws.map U.str),.lst (ws.map U.str)]
def sp1:(T++[O.lst (.str z::ws.map U.str)])[T.length]?=some (.lst (.str z::ws.map U.str)):=by rw[ga0];rfl
def sp2:(spS T z ws)[T.length+1]?=some (.lst (ws.map U.str)):=by unfold spS;rw[ga];rfl
theorem ms{F:Fn}{fs:List (Option U)}(hd:T[d]?=some (.ins cE fs)):bH cE F (ao 0) (ag (cSl (ao 2) (some (cC (.int 1))) none) aD) [some (.ref d),some (.str row),some (.ref T.length)] (T++[.lst (.str z::ws.map U.str)])=F [.ref d,.ref (T.length+1)] (spS T z ws):=by
 have s:=pR (S:=T++[O.lst (.str z::ws.map U.str)]) (lw:=T.length) (v:=2) (i:=1) (ρ:=[some (.ref d),some (.str row),some (.ref T.length)]) sp1 rfl (by simp);have s':cSl (ao 2) (some (cC (.int 1))) none [some (.ref d),some (.str row),some (.ref T.length)] (T++[.lst (.str z::ws.map U.str)])=some (.ref (T.length+1),spS T z ws):=by
  refine s.trans ?_;rw[ZY,ZV];rfl
 have h1:=aX (r:=[O.lst (.str z::ws.map U.str)]) hd;generalize T++[O.lst (.str z::ws.map U.str)]=Y at s' h1;rwa[s',h1]
theorem msx{F:FnR}{fs:List (Option U)}(hd:T[d]?=some (.ins cE fs)):mK cE F (ao 0) (ag (cSl (ao 2) (some (cC (.int 1))) none) aD) [some (.ref d),some (.str row),some (.ref T.length)] (T++[.lst (.str z::ws.map U.str)])=F [.ref d,.ref (T.length+1)] (spS T z ws):=by
 have s:=pR (S:=T++[O.lst (.str z::ws.map U.str)]) (lw:=T.length) (v:=2) (i:=1) (ρ:=[some (.ref d),some (.str row),some (.ref T.length)]) sp1 rfl (by simp);have s':cSl (ao 2) (some (cC (.int 1))) none [some (.ref d),some (.str row),some (.ref T.length)] (T++[.lst (.str z::ws.map U.str)])=some (.ref (T.length+1),spS T z ws):=by
  refine s.trans ?_;rw[ZY,ZV];rfl
 have h1:=aX (r:=[O.lst (.str z::ws.map U.str)]) hd;generalize T++[O.lst (.str z::ws.map U.str)]=Y at s' h1;have v:ao 0 [some (.ref d),some (.str row),some (.ref T.length)] Y=some (.ref d,Y):=rfl;have a:ag (cSl (ao 2) (some (cC (.int 1))) none) aD [some (.ref d),some (.str row),some (.ref T.length)] Y=some ([.ref (T.length+1)],spS T z ws):=by rwa[s']
 unfold mK;rw[v,Z8];simp only[h1,if_true,a,Z8]
def kf(cE cD cR:Cl):Fn:=fnU 3 2 (eL mH (vA cE) (qP cE cR) (sC cE cD) (yI cE cD) cE)
def xm(cE cD cR:Cl)(CA:Addr):FnR:=fnX 3 2 (fy mH (vA cE) (qP cE cR) (ud CA) (Cb cE CA) (Cc cE cD CA) cE CA)
theorem spl(h:Rw (z::ws)):b5 2 (cBS jf (ao 1) (ag (cC (.str " ")) aD)) [some (.ref d),some (.str (jS (z::ws))),none] T=some (.nx,[some (.ref d),some (.str (jS (z::ws))),some (.ref T.length)],T++[.lst (.str z::ws.map U.str)]):=by
 have e:=Au (S:=T) h;rw[ZG]at e;generalize jS (z::ws)=row at e;have hbs:cBS jf (ao 1) (ag (cC (.str " ")) aD) [some (.ref d),some (.str row),none] T=some (.ref T.length,T++[.lst (.str z::ws.map U.str)]):=by
  unfold cBS;have v:ao 1 [some (.ref d),some (.str row),none] T=some (.str row,T):=rfl;rw[v,Z8];rwa[e]
 rw[vI,hbs];rfl
def O5:decide (("deal":Str)="world")=false:=by decide +kernel
def O6:decide (("alone":Str)="world")=false:=by decide +kernel
def R0:decide (("row":Str)="world")=false:=by decide +kernel
def Nv:decide (("alone":Str)="deal")=false:=by decide +kernel
def R6:decide (("row":Str)="deal")=false:=by decide +kernel
def R7:decide (("row":Str)="alone")=false:=by decide +kernel
theorem Pa{fs:List (Option U)}(h:Rw ("world"::ws))(hd:T[d]?=some (.ins cE fs)){u:U}{T':Sto}(e:vA cE [.ref d,.ref (T.length+1)] (spS T "world" ws)=some (u,T')):kf cE cD cR [.ref d,.str (jS ("world"::ws))] T=some (u,T'):=by
 unfold kf;rw[lG];unfold eL;rw[cQ (spl h),xR (u:=u) (ρ':=[some (.ref d),some (.str (jS ("world"::ws))),some (.ref T.length)]) (S':=T') (by
  rw[sk sp1 rfl,vJ,ms hd,e];rfl)]
 rfl
theorem xg(h:De cE d ld n w st Ds T):cP (cCB mH (ag (cOp ik (gh cE 0 (ao 0)) (cC .non)) (ag (cC (.str "there is no world yet")) aD))) [some (.ref d),some (.str row),some (.ref T.length)] (T++[.lst (.str z::ws.map U.str)])=some (.nx,[some (.ref d),some (.str row),some (.ref T.length)],T++[.lst (.str z::ws.map U.str)]):=by
 have t0:=(h.app [.lst (.str z::ws.map U.str)]).d;generalize T++[O.lst (.str z::ws.map U.str)]=Y at t0;have nn:ik (.tup [.int n,.int w]) .non Y=some (.bl true,Y):=rfl;rwa[t0,nn,kH]
theorem FH(h:De cE d ld n w st Ds T):qV (ud CA) (ag (cOp ik (gh cE 0 (ao 0)) (cC .non)) (ag (cC (.str "there is no world yet")) aD)) [some (.ref d),some (.str row),some (.ref T.length)] (T++[.lst (.str z::ws.map U.str)])=none:=by
 have t0:=(h.app [.lst (.str z::ws.map U.str)]).d;generalize T++[O.lst (.str z::ws.map U.str)]=Y at t0;have nn:ik (.tup [.int n,.int w]) .non Y=some (.bl true,Y):=rfl;rwa[qV,t0,nn,FG]
theorem Pc(h:Rw ("deal"::ws))(hd:De cE d ld n w st Ds T){u:U}{T':Sto}(e:qP cE cR [.ref d,.ref (T.length+1)] (spS T "deal" ws)=some (u,T')):kf cE cD cR [.ref d,.str (jS ("deal"::ws))] T=some (u,T'):=by
 unfold kf;rw[lG];unfold eL;rw[cQ (spl h),cQ (oA sp1 rfl O5),cQ (xg hd),xR (u:=u) (ρ':=[some (.ref d),some (.str (jS ("deal"::ws))),some (.ref T.length)]) (S':=T') (by
  rw[sk sp1 rfl,vJ,ms hd.d,e];rfl)]
 rfl
theorem Pd(h:Rw ("alone"::ws))(hd:De cE d ld n w st Ds T){u:U}{T':Sto}(e:sC cE cD [.ref d,.ref (T.length+1)] (spS T "alone" ws)=some (u,T')):kf cE cD cR [.ref d,.str (jS ("alone"::ws))] T=some (u,T'):=by
 unfold kf;rw[lG];unfold eL;rw[cQ (spl h),cQ (oA sp1 rfl O6),cQ (xg hd),cQ (oA sp1 rfl Nv),xR (u:=u) (ρ':=[some (.ref d),some (.str (jS ("alone"::ws))),some (.ref T.length)]) (S':=T') (by
  rw[sk sp1 rfl,vJ,ms hd.d,e];rfl)]
 rfl
theorem Pb(h:Rw ("row"::ws))(hd:De cE d ld n w st Ds T){u:U}{T':Sto}(e:yI cE cD [.ref d,.ref (T.length+1)] (spS T "row" ws)=some (u,T')):kf cE cD cR [.ref d,.str (jS ("row"::ws))] T=some (u,T'):=by
 unfold kf;rw[lG];unfold eL;rw[cQ (spl h),cQ (oA sp1 rfl R0),cQ (xg hd),cQ (oA sp1 rfl R6),cQ (oA sp1 rfl R7),xR (u:=u) (ρ':=[some (.ref d),some (.str (jS ("row"::ws))),some (.ref T.length)]) (S':=T') (by
  rw[sk sp1 rfl,vJ,ms hd.d,e];rfl)]
 rfl
def kL{c:CS}{x:CR}{ρ':Rho}{S':Sto}(h:c ρ S=some (.nx,ρ',S')):zZ c x ρ S=x ρ' S':=by unfold zZ;rw[h];rfl
def zW{x1 x2:CR}(h:x1 ρ S=none):Cq x1 x2 ρ S=x2 ρ S:=by unfold Cq;rw[h]
def Jm{x1 x2:CR}{q:Addr×Sto}(h:x1 ρ S=some q):Cq x1 x2 ρ S=some q:=by unfold Cq;rw[h]
theorem FP{t:CT}{x1 x2:CR}{S':Sto}{b:Bool}(h:t ρ S=some (b,S')):xIf t x1 x2 ρ S=if b=true then x1 ρ S' else x2 ρ S':=by
 unfold xIf;rw[h,Z8]
theorem KH(h:Rw ("deal"::ws))(hd:De cE d ld n w st Ds T)(few:Ds.length=12):kf cE cD cR [.ref d,.str (jS ("deal"::ws))] T=none/\xm cE cD cR CA [.ref d,.str (jS ("deal"::ws))] T=some (CA,spS T "deal" ws):=by
 obtain⟨e1,e2⟩:=KD (cR:=cR) (CA:=CA) (hd.app [.lst (.str "deal"::ws.map U.str),.lst (ws.map U.str)]) few (sp2 (z:="deal"));constructor
 ·unfold kf;rw[lG];unfold eL;rw[cQ (spl h),cQ (oA sp1 rfl O5),cQ (xg hd),E6 (by rw[sk sp1 rfl,vJ,ms hd.d,e1];rfl)];rfl
 ·unfold xm;rw[qA];unfold fy;rw[kL (spl h),kL (oA sp1 rfl O5),zW (FH hd),kL (xg hd)];refine Jm ?_;rw[FP (Mz sp1 rfl),if_pos (decide_eq_true rfl),msx hd.d,e2]
theorem KI{o:Int}(hd:De cE d ld n w st Ds T)(k:Ds.length<=12)(o0:0<=o)(o2:o<=1000)(o1:((Ds.length:Nat):Int)<=o)(h:Rw ["alone",cf o]):kf cE cD cR [.ref d,.str (jS ["alone",cf o])] T=none/\∃G,xm cE cD cR CA [.ref d,.str (jS ["alone",cf o])] T=some (CA,T++G):=by
 obtain⟨e1,G,e2⟩:=KG (cD:=cD) (CA:=CA) (hd.app [.lst (.str "alone"::[cf o].map U.str),.lst ([cf o].map U.str)]) k o0 o2 o1 (sp2 (z:="alone"));constructor
 ·unfold kf;rw[lG];unfold eL;rw[cQ (spl h),cQ (oA sp1 rfl O6),cQ (xg hd),cQ (oA sp1 rfl Nv),E6 (by rw[sk sp1 rfl,vJ,ms hd.d,e1];rfl)];rfl
 ·refine⟨[.lst (.str "alone"::[cf o].map U.str),.lst ([cf o].map U.str)]++G,?_⟩;rw[<-ZV];unfold xm;rw[qA];unfold fy;rw[kL (spl h),kL (oA sp1 rfl O6),zW (FH hd),kL (xg hd),zW (by rw[FP (Mz sp1 rfl),Nv];rfl),kL (oA sp1 rfl Nv)];rw[FP (Mz sp1 rfl),if_pos (decide_eq_true rfl),msx hd.d,e2]
end
section
variable{cE cD cR:Cl}{CA:Addr}{d l e:Nat}{T S Y:Sto}{ρ:Rho}{row t:Str}{fs:List (Option U)}
def qQ(cE cD cR:Cl)(CA:Addr):Fn:=fnU 6 2 (jt (kf cE cD cR) (xm cE cD cR CA) cE CA)
def n9(cE cD cR:Cl)(CA:Addr):Fn:=fnU 5 3 (lL (qQ cE cD cR CA))
theorem Kf{Cs:List Addr}{i:Nat}{c h:CS}{x:CR}{r:Out×Rho×Sto}(e:c ρ S=some r):Jh Cs i c x h ρ S=some r:=by
 unfold Jh;rw[e]
theorem Df(hd:T[d]?=some (.ins cE fs)){T':Sto}(e:kf cE cD cR [.ref d,.str row] T=some (.str t,T')):qQ cE cD cR CA [.ref d,.str row] T=some (.tup [.str "told",.str t],T'):=by
 unfold qQ;rw[Eu];unfold jt;rw[cQ (ρ':=[some (.ref d),some (.str row),some .non,none,none,none]) (S':=T) rfl];rw[cQ (ρ':=[some (.ref d),some (.str row),some .non,some (.str "told"),none,none]) (S':=T) rfl];rw[cQ (ρ':=[some (.ref d),some (.str row),some (.str t),some (.str "told"),none,none]) (S':=T') (Kf (by rwa[hd,e]))];rfl
theorem oO(hd:T[d]?=some (.ins cE fs)){T':Sto}(e:kf cE cD cR [.ref d,.str row] T=some (.str t,T')):n9 cE cD cR CA [.ref d,.str row,.str t] T=some (.bl true,T'):=by
 have e1:=Df (CA:=CA) hd e;have t1:decide (("told":Str)="told")=true:=by decide +kernel
 have t2:decide (t=t)=true:=decide_eq_true rfl;have i:Cu .str (ao 4) [some (.ref d),some (.str row),some (.str t),some (.str "told"),some (.str t)] T'=some (.bl true,T'):=rfl;unfold n9;rw[MS];unfold lL;rw[cQ (ρ':=[some (.ref d),some (.str row),some (.str t),some (.str "told"),some (.str t)]) (S':=T') (by rwa[e1])];rwa[i,t1,t2]
theorem Jc{b1 b2:Bool}(g:Y[e]?=some (.exc CA))(hv:ao 5 ρ Y=some (.ref e,Y)):rC (fX CA CA b1 b2) (ao 5) ρ Y=some (.bl b1,Y):=by
 have f:fX CA CA b1 b2 CA=some b1:=if_pos rfl;unfold rC;rw[hv,Z8];simp only[g,f,Z8]
theorem Nf{cl:CE}{a b:List U}(g:Y[l]?=some (.lst a))(hv:ao 4 ρ Y=some (.ref l,Y))(hc:cl ρ Y=some (.ref Y.length,Y++[.lst b]))(hn:a.length+b.length<=9000):cOp cX (ao 4) cl ρ Y=some (.ref (Y++[O.lst b]).length,Y++[.lst b]++[.lst (a++b)]):=by
 have c:=lI (S:=Y++[.lst b]) (aX (r:=[O.lst b]) g) (by rw[ga0];rfl) hn;rw[Nt,hv,Z8,CD,hc,Z8];exact c
theorem AD(hd:T[d]?=some (.ins cE fs)){T':Sto}(e1:kf cE cD cR [.ref d,.str row] T=none)(e2:xm cE cD cR CA [.ref d,.str row] T=some (CA,T')):∃G,qQ cE cD cR CA [.ref d,.str row] T=some (.tup [.str "row",.non],T'++G):=by
 have c1:b5 2 (bH cE (kf cE cD cR) (ao 0) (ag (ao 1) aD)) [some (.ref d),some (.str row),some .non,some (.str "told"),none,none] T=none:=by
  rwa[hd,e1,Option.bind_none]
 have c2:mK cE (xm cE cD cR CA) (ao 0) (ag (ao 1) aD) [some (.ref d),some (.str row),some .non,some (.str "told"),none,none] T=some (CA,T'):=by
  have v:ao 0 [some (.ref d),some (.str row),some .non,some (.str "told"),none,none] T=some (.ref d,T):=rfl;have a:ag (ao 1) aD [some (.ref d),some (.str row),some .non,some (.str "told"),none,none] T=some ([.str row],T):=rfl;unfold mK;rw[v,Z8];simp only[hd,if_true,a,Z8,e2]
 obtain⟨q,hq⟩:∃q,q=T'.length:=⟨_,rfl⟩;have gx0:(T'++[O.exc CA])[q]?=some (.exc CA):=by rw[hq,ga0];rfl
 obtain⟨Y0,hY0⟩:∃Y0,Y0=T'++[O.exc CA]:=⟨_,rfl⟩;rw[<-hY0]at gx0;have gx1:=aX (r:=[O.lst [.bl false,.bl true]]) gx0;have gl1:(Y0++[O.lst [.bl false,.bl true]])[Y0.length]?=some (.lst [.bl false,.bl true]):=by rw[ga0];rfl
 obtain⟨l1,hl1⟩:∃l1,l1=Y0.length:=⟨_,rfl⟩;obtain⟨Y1,hY1⟩:∃Y1,Y1=Y0++[O.lst [.bl false,.bl true]]:=⟨_,rfl⟩;rw[<-hY1]at gx1 gl1;rw[<-hl1]at gl1;have s2:=Nf (Y:=Y1) (ρ:=[some (.ref d),some (.str row),some .non,some (.str "told"),some (.ref l1),some (.ref q)]) (cl:=kr (ag (rC (fX CA CA false false) (ao 5)) (ag (rC (fX CA CA false false) (ao 5)) aD))) (b:=[.bl false,.bl false]) gl1 rfl (by
  have i:=Jc (b1:=false) (b2:=false) (ρ:=[some (.ref d),some (.str row),some .non,some (.str "told"),some (.ref l1),some (.ref q)]) gx1 rfl;rwa[i]) (by decide)
 have gx2:=aX (r:=[O.lst ([.bl false,.bl true]++[.bl false,.bl false])]) (aX (r:=[O.lst [.bl false,.bl false]]) gx1);have gl2:(Y1++[O.lst [.bl false,.bl false]]++[O.lst ([.bl false,.bl true]++[.bl false,.bl false])])[(Y1++[O.lst [.bl false,.bl false]]).length]?=some (.lst ([.bl false,.bl true]++[.bl false,.bl false])):=by rw[ga0];rfl
 obtain⟨l2,hl2⟩:∃l2,l2=(Y1++[O.lst [.bl false,.bl false]]).length:=⟨_,rfl⟩;obtain⟨Y2,hY2⟩:∃Y2,Y2=Y1++[O.lst [.bl false,.bl false]]++[O.lst ([.bl false,.bl true]++[.bl false,.bl false])]:=⟨_,rfl⟩;rw[<-hY2]at gx2 gl2 s2;rw[<-hl2]at gl2 s2;have s3:=Nf (Y:=Y2) (ρ:=[some (.ref d),some (.str row),some .non,some (.str "told"),some (.ref l2),some (.ref q)]) (cl:=kr (ag (rC (fX CA CA false false) (ao 5)) aD)) (b:=[.bl false]) gl2 rfl (by
  have i:=Jc (b1:=false) (b2:=false) (ρ:=[some (.ref d),some (.str row),some .non,some (.str "told"),some (.ref l2),some (.ref q)]) gx2 rfl;rwa[i]) (by decide)
 have gx3:=aX (r:=[O.lst ([.bl false,.bl true]++[.bl false,.bl false]++[.bl false])]) (aX (r:=[O.lst [.bl false]]) gx2);have gl3:(Y2++[O.lst [.bl false]]++[O.lst ([.bl false,.bl true]++[.bl false,.bl false]++[.bl false])])[(Y2++[O.lst [.bl false]]).length]?=some (.lst [.bl false,.bl true,.bl false,.bl false,.bl false]):=by rw[ga0];rfl
 obtain⟨l3,hl3⟩:∃l3,l3=(Y2++[O.lst [.bl false]]).length:=⟨_,rfl⟩;obtain⟨Y3,hY3⟩:∃Y3,Y3=Y2++[O.lst [.bl false]]++[O.lst ([.bl false,.bl true]++[.bl false,.bl false]++[.bl false])]:=⟨_,rfl⟩;rw[<-hY3]at gx3 gl3 s3;rw[<-hl3]at gl3 s3;have gx4:=aX (r:=[O.lst [.str "text",.str "row",.str "many",.str "attempt",.str "step"]]) gx3;have gl4:=aX (r:=[O.lst [.str "text",.str "row",.str "many",.str "attempt",.str "step"]]) gl3;have gw:(Y3++[O.lst [.str "text",.str "row",.str "many",.str "attempt",.str "step"]])[Y3.length]?=some (.lst [.str "text",.str "row",.str "many",.str "attempt",.str "step"]):=by rw[ga0];rfl
 obtain⟨l4,hl4⟩:∃l4,l4=Y3.length:=⟨_,rfl⟩;obtain⟨Y4,hY4⟩:∃Y4,Y4=Y3++[O.lst [.str "text",.str "row",.str "many",.str "attempt",.str "step"]]:=⟨_,rfl⟩;rw[<-hY4]at gx4 gl4 gw;rw[<-hl4]at gw;have cn:wW (.ref l3) [.bl true] Y3=some (.int 1,Y3):=by
  unfold wW;simp only[gl3];rfl
 have dx:wU (.ref l3) [.bl true] Y4=some (.int 1,Y4):=by
  unfold wU;simp only[gl4];rfl
 have z1:decide ((1:Int)=1)=true:=rfl;have hs:(aV (b5 4 (kr (ag (rC (fX CA CA false false) (ao 5)) (ag (rC (fX CA CA true true) (ao 5)) aD))))
  (aV (b5 4 (cOp cX (ao 4) (kr (ag (rC (fX CA CA false false) (ao 5)) (ag (rC (fX CA CA false false) (ao 5)) aD)))))
  (aV (b5 4 (cOp cX (ao 4) (kr (ag (rC (fX CA CA false false) (ao 5)) aD))))
  (aV (b5 3 (cC (.str "unlike")))
  (aV (dC (rD (aL (cOp fEq (cBM wW (ao 4) (ag (cC (.bl true)) aD)) (cC (.int 1)))) (aL (rC (fX CA CA true true) (ao 5)))) (b5 3 (cOp fIx (kr (ag (cC (.str "text")) (ag (cC (.str "row")) (ag (cC (.str "many")) (ag (cC (.str "attempt")) (ag (cC (.str "step")) aD)))))) (cBM wU (ao 4) (ag (cC (.bl true)) aD)))) bB)
  (dC (aL (rC (fX CA CA false false) (ao 5))) mD bB)))))) [some (.ref d),some (.str row),some .non,some (.str "told"),none,some (.ref q)] Y0=some (.nx,[some (.ref d),some (.str row),some .non,some (.str "row"),some (.ref l3),some (.ref q)],Y4):=by
  rw[cQ (ρ':=[some (.ref d),some (.str row),some .non,some (.str "told"),some (.ref l1),some (.ref q)]) (S':=Y1) (by
   have i1:=Jc (b1:=false) (b2:=false) (ρ:=[some (.ref d),some (.str row),some .non,some (.str "told"),none,some (.ref q)]) gx0 rfl;have i2:=Jc (b1:=true) (b2:=true) (ρ:=[some (.ref d),some (.str row),some .non,some (.str "told"),none,some (.ref q)]) gx0 rfl;rw[hl1,hY1];rwa[i1,i2])]
  rw[cQ (ρ':=[some (.ref d),some (.str row),some .non,some (.str "told"),some (.ref l2),some (.ref q)]) (S':=Y2) (by rw[vI,s2];rfl)];rw[cQ (ρ':=[some (.ref d),some (.str row),some .non,some (.str "told"),some (.ref l3),some (.ref q)]) (S':=Y3) (by rw[vI,s3];rfl)];rw[cQ (ρ':=[some (.ref d),some (.str row),some .non,some (.str "unlike"),some (.ref l3),some (.ref q)]) (S':=Y3) rfl];rw[cQ (ρ':=[some (.ref d),some (.str row),some .non,some (.str "row"),some (.ref l3),some (.ref q)]) (S':=Y4) (by
   have i2:=Jc (b1:=true) (b2:=true) (ρ:=[some (.ref d),some (.str row),some .non,some (.str "unlike"),some (.ref l3),some (.ref q)]) gx3 rfl;have cl:kr (ag (cC (.str "text")) (ag (cC (.str "row")) (ag (cC (.str "many")) (ag (cC (.str "attempt")) (ag (cC (.str "step")) aD))))) [some (.ref d),some (.str row),some .non,some (.str "unlike"),some (.ref l3),some (.ref q)] Y3=some (.ref l4,Y4):=by rw[hl4,hY4];rfl
   rwa[gl3,cn,z1,i2,cl,gl4,dx,gw])]
  have i3:=Jc (b1:=false) (b2:=false) (ρ:=[some (.ref d),some (.str row),some .non,some (.str "row"),some (.ref l3),some (.ref q)]) gx4 rfl;rwa[i3]
 refine⟨[O.exc CA,.lst [.bl false,.bl true],.lst [.bl false,.bl false],.lst ([.bl false,.bl true]++[.bl false,.bl false]),.lst [.bl false],.lst ([.bl false,.bl true]++[.bl false,.bl false]++[.bl false]),.lst [.str "text",.str "row",.str "many",.str "attempt",.str "step"]],?_⟩;have fin:T'++[O.exc CA,.lst [.bl false,.bl true],.lst [.bl false,.bl false],.lst ([.bl false,.bl true]++[.bl false,.bl false]),.lst [.bl false],.lst ([.bl false,.bl true]++[.bl false,.bl false]++[.bl false]),.lst [.str "text",.str "row",.str "many",.str "attempt",.str "step"]]=Y4:=by rw[hY4,hY3,hY2,hY1,hY0];simp
 rw[fin];unfold qQ;rw[Eu];unfold jt;rw[cQ (ρ':=[some (.ref d),some (.str row),some .non,none,none,none]) (S':=T) rfl];rw[cQ (ρ':=[some (.ref d),some (.str row),some .non,some (.str "told"),none,none]) (S':=T) rfl];rw[cQ (ρ':=[some (.ref d),some (.str row),some .non,some (.str "row"),some (.ref l3),none]) (S':=Y4) (by
  unfold Jh;rw[c1];dsimp only;rw[c2,Z8,if_pos (by simp)];dsimp only;rw[<-hq,<-hY0];show Option.bind _ _=_;refine(congrArg (fun x=>Option.bind x _) hs).trans ?_;rfl)]
 rfl
end
section
variable{cE cD cR:Cl}{CA:Addr}{ns:List Int}{n w:Int}{st:List Int}{Ds:List (List (Dl 3))}{d ld lq:Nat}{Y Y':Sto}{ds:List (Dl 3)}{X:Nat->Prop}
def Pn(ns:List Int)(Y:Sto):Prop:=Y[0]?=some (scr ns)/\∃a c,Y[1]?=some (pen a c)/\0<=a/\0<=c
theorem Pn.eq(P:Pn ns Y):∃a c T,Y=scr ns::pen a c::T/\0<=a/\0<=c:=by
 obtain⟨h0,a,c,h1,ha,hc⟩:=P;match Y,h0,h1 with
 |x::y::T,h0,h1=>
  have e0:x=scr ns:=Option.some.inj h0;have e1:y=pen a c:=Option.some.inj h1;exact⟨a,c,T,by rw[e0,e1],ha,hc⟩
def Pn.of{a c:Int}{T:Sto}(ha:0<=a)(hc:0<=c):Pn ns (scr ns::pen a c::T):=⟨rfl,a,c,rfl,ha,hc⟩
theorem Pn.kq(P:Pn ns Y)(k:Kq X Y Y')(h0:¬X 0)(h1:¬X 1):Pn ns Y':=by
 obtain⟨p0,a,c,p1,ha,hc⟩:=P;exact⟨k.get p0 h0,a,c,k.get p1 h1,ha,hc⟩
theorem ye{a c a' c':Int}{T G:Sto}:Kq (· < 2) (scr ns::pen a c::T) (scr ns::pen a' c'::(T++G)):=⟨by simp,fun j hj nj=>by
 match j,nj with
 |0,nj=>exact absurd (by decide) nj
 |1,nj=>exact absurd (by decide) nj
 |j+2,_=>exact Zq (by simpa using hj)⟩
theorem rK{m:Int}(P:Pn ns Y)(hm:0<m)(hb:m<2^60):∃f Y',fk [.ref 1,.int m] Y=some (.int f,Y')/\0<=f/\f<m/\Pn ns Y'/\Kq (· < 2) Y Y'/\Y'.length=Y.length:=by
 obtain⟨a,c,T,rfl,ha,hc⟩:=P.eq;obtain⟨f,a',c',e,f0,f1,ha',hc'⟩:=dD ns T ha hc hm (l9 (by omega) hb);exact⟨f,_,e,f0,f1,.of ha' hc',by have:=ye (ns:=ns) (a:=a) (c:=c) (a':=a') (c':=c') (T:=T) (G:=[]);rw[Zu]at this;exact this,rfl⟩
structure La(ns:List Int)(cE:Cl)(d ld lq:Nat)(n w:Int)(st:List Int)(Ds:List (List (Dl 3)))(Y:Sto):Prop where
 pn:Pn ns Y
 de:De cE d ld n w st Ds Y
 q:Y[lq]?=some (.lst (Ds.map dlU))
 d2:2<=d
 l2:2<=ld
 q2:2<=lq
 nl:d≠ld
 nq:d≠lq
 lq:ld≠lq
theorem De.kq(h:De cE d ld n w st Ds Y)(k:Kq X Y Y')(h0:¬X d)(h1:¬X ld):De cE d ld n w st Ds Y':=⟨k.get h.d h0,k.get h.l h1⟩
theorem La.kq(L:La ns cE d ld lq n w st Ds Y)(P:Pn ns Y')(k:Kq X Y Y')(h0:¬X d)(h1:¬X ld)(h2:¬X lq):La ns cE d ld lq n w st Ds Y':=⟨P,L.de.kq k h0 h1,k.get L.q h2,L.d2,L.l2,L.q2,L.nl,L.nq,L.lq⟩
theorem La.app(L:La ns cE d ld lq n w st Ds Y)(G:Sto):La ns cE d ld lq n w st Ds (Y++G):=L.kq (X:=fun _=>False) (L.pn.kq (X:=fun _=>False) (Kq.app G) (fun z=>z) (fun z=>z)) (Kq.app G) (fun z=>z) (fun z=>z) (fun z=>z)
theorem La.pen(L:La ns cE d ld lq n w st Ds Y)(P:Pn ns Y')(k:Kq (· < 2) Y Y'):La ns cE d ld lq n w st Ds Y':=L.kq P k (by have:=L.d2;omega) (by have:=L.l2;omega) (by have:=L.q2;omega)
theorem La.set(L:La ns cE d ld lq n w st Ds Y){j:Nat}{o:O}(h0:j≠d)(h1:j≠ld)(h2:j≠lq)(h3:2<=j):La ns cE d ld lq n w st Ds (Y.set j o):=L.kq (X:=(·=j)) (L.pn.kq (Kq.set (X:=(·=j)) rfl) (by omega) (by omega)) (Kq.set rfl) (fun z=>h0 z.symm) (fun z=>h1 z.symm) (fun z=>h2 z.symm)
theorem wok{s:Str}(h:s.length<=5/\32∉s.cps.toList){ws:List Str}(h2:∀y∈ws,y.length<=5/\32∉y.cps.toList)(few:ws.length<300):Rw (s::ws):=⟨X0 _ _,by rw[ZT];omega,fun y hy=>by
 rcases Zx.mp hy with rfl|hy
 ·exact h
 ·exact h2 y hy⟩
theorem x5{xs:List Int}(h:∀x∈xs,Nu x):∀y∈xs.map cf,y.length<=5/\32∉y.cps.toList:=fun y hy=>by
 obtain⟨x,hx,rfl⟩:=XW.mp hy;exact ze (h x hx)
def QN:("alone":Str).length<=5/\32∉("alone":Str).cps.toList:=by decide +kernel
def R5:("row":Str).length<=5/\32∉("row":Str).cps.toList:=by decide +kernel
def QM:("deal":Str).length<=5/\32∉("deal":Str).cps.toList:=by decide +kernel
def RZ:("world":Str).length<=5/\32∉("world":Str).cps.toList:=by decide +kernel
theorem Kl(hD:cD.ns.length=4)(W:Wo n w st)(k:Dk n w Ds){o:Int}(o0:0<=o)(o1:o<(Ds.length:Nat))(h:De cE d ld n w st Ds Y):∃G,n9 cE cD cR CA [.ref d,.str (jS ["alone",cf o]),.str (Qz (rnA w st Ds o) st)] Y=some (.bl true,Y++G):=by
 have nu:∀x∈[o],Nu x:=fun x hx=>by rw[XE.mp hx];exact⟨o0,by have:=k.few;omega⟩
 have R:Rw ("alone"::[cf o]):=wok QN (x5 nu) (by show 1<300;decide);obtain⟨G,e⟩:=GS (cE:=cE) hD W k o0 o1 (h.app [.lst (.str "alone"::[cf o].map U.str),.lst ([cf o].map U.str)]) (sp2 (z:="alone") (ws:=[cf o]));rw[ZV]at e;exact⟨_,oO h.d (Pd (cR:=cR) R h e)⟩
theorem Kj(hD:cD.ns.length=4)(W:Wo n w st)(k:Dk n w Ds){os:List Int}(h0:os≠[])(h12:os.length<=12)(ho:∀o∈os,0<=o/\o<(Ds.length:Int))(h:De cE d ld n w st Ds Y):∃G,n9 cE cD cR CA [.ref d,.str (jS ("row"::os.map cf)),.str (Fc (qT w Ds os 0 st))] Y=some (.bl true,Y++G):=by
 have nu:∀x∈os,Nu x:=fun x hx=>⟨(ho x hx).1,by have:=k.few;have:=(ho x hx).2;omega⟩;have R:Rw ("row"::os.map cf):=wok R5 (x5 nu) (by rw[ZN];omega);obtain⟨G,e⟩:=GQ (cE:=cE) hD W k h0 h12 ho (h.app [.lst (.str "row"::(os.map cf).map U.str),.lst ((os.map cf).map U.str)]) (sp2 (z:="row") (ws:=os.map cf));rw[ZV]at e;exact⟨_,oO h.d (Pb (cR:=cR) R h e)⟩
theorem Q3(W:Wo n w st)(ok:OkM n w 3 ds)(sz:kx 3 ds<=40):Rw ("deal"::wdD 3 ds):=wok QM (fun y hy=>by obtain⟨a,b⟩:=sI W.n1 W.w1 3 ds ok y hy;exact⟨by omega,b⟩) (by have:=(uD W.n1 W.w1 ok sz).2;omega)
theorem Kk(hR:cR.ns.length=4)(W:Wo n w st)(k:Dk n w Ds)(few:Ds.length<12)(ok:OkM n w 3 ds)(sz:kx 3 ds<=40)(h:De cE d ld n w st Ds Y)(ne:d≠ld):∃Y',n9 cE cD cR CA [.ref d,.str (jS ("deal"::wdD 3 ds)),.str (cf (Ds.length:Nat))] Y=some (.bl true,Y')/\De cE d ld n w st (Ds++[ds]) Y'/\Kq (dkE d ld) Y Y':=by
 obtain⟨Y',e,h',kq⟩:=GR (cE:=cE) hR W k few ok sz (h.app [.lst (.str "deal"::(wdD 3 ds).map U.str),.lst ((wdD 3 ds).map U.str)]) ne (sp2 (z:="deal") (ws:=wdD 3 ds));exact⟨Y',oO h.d (Pc (cD:=cD) (Q3 W ok sz) h e),h',(Kq.app _).trans kq⟩
theorem Ki(W:Wo n w st){f0 f1 f2 f3:Option U}(h:Y[d]?=some (.ins cE [f0,f1,f2,f3])):∃Y' ld',n9 cE cD cR CA [.ref d,.str (jS ("world"::(n::w::st).map cf)),.str "ok"] Y=some (.bl true,Y')/\De cE d ld' n w st [] Y'/\Kq (·=d) Y Y'/\Y.length<=ld':=by
 have nu:∀x∈n::w::st,Nu x:=fun x hx=>by
  have n0:=W.n0;have n1:=W.n1;have w0:=W.w0;have w1:=W.w1;rcases Zx.mp hx with rfl|hx
  ·exact⟨by omega,by omega⟩
  ·rcases Zx.mp hx with rfl|hx
   ·exact⟨by omega,by omega⟩
   ·exact Nu.of (W.st x hx) W.w1
 have R:Rw ("world"::(n::w::st).map cf):=wok RZ (x5 nu) (by rw[ZN,ZT,ZT,W.ln];have:=W.n1;omega);obtain⟨Y',ld',e,h',kq,l⟩:=GP (cE:=cE) W (aX (r:=[.lst (.str "world"::((n::w::st).map cf).map U.str),.lst (((n::w::st).map cf).map U.str)]) h) (sp2 (z:="world") (ws:=(n::w::st).map cf));exact⟨Y',ld',oO h (Pa (cD:=cD) (cR:=cR) R h e),h',(Kq.app _).trans kq,by rw[ZY]at l;omega⟩
theorem QQ{o:Int}:("alone ":Str)++cf o=jS ["alone",cf o]:=by
 have:=tJ (ys:=[cf o]) EJ (X0 _ _);rw[Fs]at this;exact this
theorem R9{os:List Int}(h0:os≠[]):("row ":Str)++eE os=jS ("row"::os.map cf):=by
 unfold eE;rw[if_neg h0];exact tJ M8 (by simpa using h0)
def Sa:("deal ":Str)++txt ds=jS ("deal"::wdD 3 ds):=tJ IQ xH
theorem R8(h0:st≠[]):("world ":Str)++eE [n,w]++(" ":Str)++eE st=jS ("world"::(n::w::st).map cf):=by
 unfold eE;rw[if_neg (X0 _ _),if_neg h0];have e:=tJ (ys:=[n,w].map cf) EI (by simp);have e2:=Ft (xs:="world"::[n,w].map cf) (ys:=st.map cf) (X0 _ _) (by simpa using h0);rw[e];exact e2
end
theorem M3{α:Type}{ok:Sto->Prop}{ce:CE}{l:Nat}{f:α->U}{cs:Rho}(St:List U->Sto->Prop)(hok:∀ys S,St ys S->ok S)
  (he:∀x ys S,St ys S->Wp (ce (some (f x)::cs) S) fun r=>r.2[l]?=some (.lst ys)/\St (ys++[r.1]) (r.2.set l (.lst (ys++[r.1])))) :
  ∀(xs:List α) (ys:List U) (S:Sto) (r0:Option U),St ys S->ys.length+xs.length<=9000->Wp (j1 ok (gNm 0) ce l (xs.map f) (r0::cs) S) fun S'=>∃ys',ys'.length=ys.length+xs.length/\St ys' S'
 |[],ys,S,r0,h,_=>.of (tV (hok ys S h)) ⟨ys,rfl,h⟩
 |x::xs,ys,S,r0,h,hn=>by
  rw[ZT]at hn;obtain⟨⟨v,S1⟩,e1,g1,h1⟩:=he x ys S h;dsimp only at g1 h1;obtain⟨S2,e2,ys',hl,h2⟩:=M3 St hok he xs (ys++[v]) _ (some (f x)) h1 (by simp;omega);refine⟨S2,?_,ys',by rw[hl];simp;omega,h2⟩;rw[ZG,qH (ρ0:=some (f x)::cs) (S0:=S) (S1:=S1) (x:=v) (ys:=ys) (hok ys S h) rfl e1 g1 (by unfold LIM;omega)];exact e2
theorem Ka{α:Type}{ci:CI}{ok:Sto->Prop}{ce:CE}{f:α->U}{ρ cs:Rho}{S S1:Sto}{xs:List α}{caps:List Nat}{Q:U×Sto->Prop}(St:List U->Sto->Prop)(hi:ci ρ S=some (xs.map f,ok,S1))(hr:vF 1 caps ρ=none::cs)(hok:∀ys S,St ys S->ok S)
  (he:∀x ys S,St ys S->Wp (ce (some (f x)::cs) S) fun r=>r.2[S1.length]?=some (.lst ys)/\St (ys++[r.1]) (r.2.set S1.length (.lst (ys++[r.1]))))
  (h0:St [] (S1++[.lst []])) (hn:xs.length<=9000) (hQ:∀ys S',ys.length=xs.length->St ys S'->Q (.ref S1.length,S')):Wp (gE ci (gNm 0) ce 1 caps ρ S) Q:=by
 obtain⟨S2,e,ys,hl,h⟩:=M3 (l:=S1.length) (cs:=cs) St hok he xs [] (S1++[.lst []]) none h0 (by rw[List.length_nil];omega);refine⟨_,?_,hQ ys S2 (by rw[hl,List.length_nil,Nat.zero_add]) h⟩;unfold gE;rw[hi,Z8,hr];dsimp only;rw[e];rfl
section
variable{cE cD cR:Cl}{CA:Addr}{ns:List Int}{n w:Int}{st:List Int}{Ds:List (List (Dl 3))}{d ld lq:Nat}{Y Y':Sto}{X:Nat->Prop}{ρ:Rho}
theorem La.len(L:La ns cE d ld lq n w st Ds Y):fx [.ref lq] Y=some (.int (Ds.length:Nat),Y):=by
 have hl:=L.q;rwa[hl];simp
theorem La.lt(L:La ns cE d ld lq n w st Ds Y):d<Y.length/\ld<Y.length/\lq<Y.length:=⟨(Z9.mp L.de.d).1,(Z9.mp L.de.l).1,(Z9.mp L.q).1⟩
structure OrS(ns:List Int)(cE:Cl)(d ld lq:Nat)(n w:Int)(st:List Int)(Ds:List (List (Dl 3)))(l:Nat)(ys:List U)(S:Sto):Prop where
 L:La ns cE d ld lq n w st Ds S
 g:S[l]?=some (.lst ys)
 os:∃os:List Int,ys=os.map U.int/\∀o∈os,0<=o/\o<(Ds.length:Int)
theorem DV(k:Dk n w Ds)(ne:Ds≠[])(L:La ns cE d ld lq n w st Ds Y){N:Int}{ci:CI}(N0:1<=N)(N1:N<=12){S0:Sto}(hi:ci ρ S0=some (hU 0 N.toNat,fun _=>True,Y))(hr:vF 1 [0,4] ρ=[none,some (.ref 1),some (.ref lq)]):Wp (gE ci (gNm 0) (cCB fk (ag (ao 1) (ag (cCB fx (ag (ao 2) aD)) aD))) 1 [0,4] ρ S0) fun r=>∃os:List Int,r.1=.ref Y.length/\os≠[]/\os.length<=12/\(∀o∈os,0<=o/\o<(Ds.length:Int))/\r.2[Y.length]?=some (.lst (os.map U.int))/\La ns cE d ld lq n w st Ds r.2:=by
 obtain⟨t1,t2,t3⟩:=L.lt;have p:=XB.mpr ne;have fw:=k.few;have d2:=L.d2;refine Ka (xs:=List.range N.toNat) (f:=fun i:Nat=>U.int (0+(i:Nat))) (OrS ns cE d ld lq n w st Ds Y.length) hi hr (fun _ _ _=>trivial) (fun x ys S h=>?_) ⟨L.app _,by rw[ga0];rfl,[],rfl,fun o h=>nomatch h⟩ (by simp;omega) fun ys S' hl h=>?_
 ·obtain⟨f,S1,e,f0,f1,P,kq,-⟩:=rK (m:=((Ds.length:Nat):Int)) h.L.pn (by omega) (by omega);have el:=h.L.len;refine .of (r:=(.int f,S1)) (by rwa[el,e]) ?_;have L1:=h.L.pen P kq;have g1:=kq.get h.g (by omega);obtain⟨os,rfl,ho⟩:=h.os;refine⟨g1,L1.set (by omega) (by omega) (by omega) (by omega),rS g1,os++[f],by rw[Zp];rfl,fun o hO=>?_⟩;rcases X8.mp hO with z|z
  ·exact ho o z
  ·rw[XE.mp z];exact⟨f0,f1⟩
 ·obtain⟨os,rfl,ho⟩:=h.os;rw[ZN,List.length_range]at hl;exact⟨os,rfl,fun z=>by rw[z]at hl;simp at hl;omega,by omega,ho,h.g,h.L⟩
theorem Py{g:Int}(g0:0<=g)(g1:g<2)(a b:Int):∃h,atI [U.int a,.int b] g=some (.int h)/\(h=a\/h=b):=by
 have:g=0\/g=1:=by omega
 rcases this with rfl|rfl
 ·exact⟨a,rfl,.inl rfl⟩
 ·exact⟨b,rfl,.inr rfl⟩
theorem MV(L:La ns cE d ld lq n w st Ds Y){v:Nat}(hv:∀S,ao v ρ S=some (.ref 1,S)){a b:Int}(a0:0<a)(b0:0<b)(a1:a<=12)(b1:b<=12):∃(N:Int) (Y':Sto),1<=N/\N<=12/\La ns cE d ld lq n w st Ds Y'/\fM (ag (cOp cX (cC (.int 1)) (cCB fk (ag (ao v) (ag (cOp fIx (kr (ag (cC (.int a)) (ag (cC (.int b)) aD))) (cCB fk (ag (ao v) (ag (cC (.int 2)) aD)))) aD)))) aD) ρ Y=some (hU 0 N.toNat,fun _=>True,Y'):=by
 have L1:=L.app [.lst [.int a,.int b]];have g1:(Y++[O.lst [.int a,.int b]])[Y.length]?=some (.lst [.int a,.int b]):=by rw[ga0];rfl
 have cl:kr (ag (cC (.int a)) (ag (cC (.int b)) aD)) ρ Y=some (.ref Y.length,Y++[.lst [.int a,.int b]]):=rfl;obtain⟨l,hl⟩:∃l,l=Y.length:=⟨_,rfl⟩;have l2:2<=l:=by have:=L.lt.1;have:=L.d2;omega
 obtain⟨Y1,hY1⟩:∃Y1,Y1=Y++[O.lst [.int a,.int b]]:=⟨_,rfl⟩;rw[<-hY1]at L1 g1 cl;rw[<-hl]at g1 cl;obtain⟨g,Y2,e2,g0,gl,P2,k2,-⟩:=rK (m:=2) L1.pn (by decide) (by decide);have L2:=L1.pen P2 k2;have g2:=k2.get g1 (by omega);obtain⟨h,hh,ho⟩:=Py g0 gl a b;obtain⟨f,Y3,e3,f0,f1,P3,k3,-⟩:=rK (m:=h) L2.pn (by rcases ho with rfl|rfl<;>omega) (by rcases ho with rfl|rfl<;>omega);refine⟨1+f,Y3,by omega,by rcases ho with rfl|rfl<;>omega,L2.pen P3 k3,?_⟩;refine Bk ?_ (by omega) (by rcases ho with rfl|rfl<;>omega);rwa[hv,cl,e2,g2,hh,e3]
def Cn(cE cD cR:Cl)(CA:Addr):Fn:=fnU 9 5 (fg fk (gF cD) (n9 cE cD cR CA) nE (Cj cD))
def So:decide (("done":Str)="done")=true:=by decide +kernel
def Sm:decide (("waits":Str)="done")=false:=by decide +kernel
theorem B6(hD:cD.ns.length=4)(W:Wo n w st)(k:Dk n w Ds)(ne:Ds≠[])(L:La ns cE d ld lq n w st Ds Y):∃Y',Cn cE cD cR CA [.ref 1,.ref d,.tup [.int n,.int w],.tup (st.map U.int),.ref lq] Y=some (.bl true,Y')/\La ns cE d ld lq n w st Ds Y':=by
 have p:=XB.mpr ne;have fw:=k.few;have el:=L.len;obtain⟨f,Y1,e1,f0,f1,P1,k1,-⟩:=rK (m:=((Ds.length:Nat):Int)) L.pn (by omega) (by omega);have L1:=L.pen P1 k1;have q1:=L1.q;have at':=IK (Ds:=Ds) f0 f1;obtain⟨G2,s,v,r,xs,e2,q2,nx,nl,sl,et⟩:=vz (cD:=cD) hD W k f0 f1 Y1;have L2:=L1.app G2;obtain⟨Y2,hY2⟩:∃Y2,Y2=Y1++G2:=⟨_,rfl⟩;rw[<-hY2]at e2 q2 L2;obtain⟨G3,e3⟩:=my q2 nx nl;have L3:=L2.app G3;obtain⟨Y3,hY3⟩:∃Y3,Y3=Y2++G3:=⟨_,rfl⟩;rw[<-hY3]at e3 L3;have nf:Nu f:=⟨f0,by omega⟩;have s1:=mX nf Y2;have t1:cX (.str "alone ") (.str (cf f)) Y2=some (.str (jS ["alone",cf f]),Y2):=by
  rw[<-QQ];have l1:("alone ":Str).length=6:=by decide +kernel
  have:=(ze nf).1;exact kI (by omega)
 have a1:=(NL sl nx nl Y2).1;have a2:=(NL sl nx nl Y3).2;rw[et]at a2;obtain⟨G4,e4⟩:=Kl (cR:=cR) (CA:=CA) hD W k f0 f1 L3.de;have L4:=L3.app G4;obtain⟨Y4,hY4⟩:∃Y4,Y4=Y3++G4:=⟨_,rfl⟩;rw[<-hY4]at e4 L4;obtain⟨N,Y5,N0,N1,L5,er⟩:=MV (ρ:=[some (.ref 1),some (.ref d),some (.tup [.int n,.int w]),some (.tup (st.map U.int)),some (.ref lq),some (.int f),some (.tup (.str s::v::r)),none,none]) (v:=0) L4 (fun _=>rfl) (a:=3) (b:=12) (by decide) (by decide) (by decide) (by decide);obtain⟨⟨u,Y6⟩,e6,os,e7,o0,o12,ho,g6,L6⟩:=DV (ρ:=[some (.ref 1),some (.ref d),some (.tup [.int n,.int w]),some (.tup (st.map U.int)),some (.ref lq),some (.int f),some (.tup (.str s::v::r)),none,none]) k ne L5 N0 N1 er rfl;dsimp only at e7 g6 L6;subst e7;obtain⟨lo,hlo⟩:∃lo,lo=Y5.length:=⟨_,rfl⟩;rw[<-hlo]at e6 g6;obtain⟨X,l,a,b,e8⟩:=Fb (cD:=cD) hD W k ho L6.q g6;have L8:=L6.app X;have g8:=aX (r:=X) g6;obtain⟨Y8,hY8⟩:∃Y8,Y8=Y6++X:=⟨_,rfl⟩;rw[<-hY8]at e8 a L8 g8;have nu:∀x∈os,Nu x:=fun x hx=>⟨(ho x hx).1,by have:=(ho x hx).2;omega⟩;have due:∃G9,cIf (aL (cOp fEq (cOp fIx (ao 6) (cC (.int 0))) (cC (.str "done")))) (cOp cX (cC (.str "done ")) (cCB nE (ag (cOp fIx (ao 6) (cC (.int 1))) aD))) (cOp cX (cC (.str "waits ")) (cCB qU (ag (cOp fIx (ao 6) (cC (.int 1))) aD))) [some (.ref 1),some (.ref d),some (.tup [.int n,.int w]),some (.tup (st.map U.int)),some (.ref lq),some (.int f),some (yZ (qT w Ds os 0 st) l),some (.ref lo),none] Y8=some (.str (Fc (qT w Ds os 0 st)),Y8++G9):=by
  cases hr:qT w Ds os 0 st with
  |done s'=>
   have nn:=AI hr W a b;obtain⟨G9,e9⟩:=my (u:=.tup (s'.map U.int)) (S:=Y8) (.inl rfl) nn.1 nn.2;have a9:=Ng nn (Y8++G9);refine⟨G9,?_⟩;generalize Y8++G9=Y9 at e9 a9;rwa[yZ,Fc,So,e9,a9]
  |waits i lk=>
   rw[hr]at b;have nn:Nu ((i:Nat):Int):=⟨by omega,by have:i<=os.length:=b;omega⟩;have s9:=mX nn Y8;have a9:=Nd nn Y8;exact⟨[],by rw[Zu];rwa[yZ,Fc,Sm,s9,a9]⟩
 obtain⟨G9,e9⟩:=due;have L9:=L8.app G9;have g9:=aX (r:=G9) g8;obtain⟨Y9,hY9⟩:∃Y9,Y9=Y8++G9:=⟨_,rfl⟩;rw[<-hY9]at e9 L9 g9;obtain⟨G10,e10⟩:=my (u:=.ref lo) (S:=Y9) (.inr ⟨lo,rfl,g9⟩) nu (by omega);have L10:=L9.app G10;obtain⟨Y10,hY10⟩:∃Y10,Y10=Y9++G10:=⟨_,rfl⟩;rw[<-hY10]at e10 L10;have t10:cX (.str "row ") (.str (eE os)) Y10=some (.str (jS ("row"::os.map cf)),Y10):=by
  rw[<-R9 o0];have l1:("row ":Str).length=4:=by decide +kernel
  have:=jZ nu (by omega);exact kI (by omega)
 obtain⟨G11,e11⟩:=Kj (cR:=cR) (CA:=CA) hD W k o0 o12 ho L10.de;refine⟨Y10++G11,?_,L10.app G11⟩;unfold Cn;rw[Qm];unfold fg;obtain⟨su,hsu⟩:∃su,su=U.tup (st.map U.int):=⟨_,rfl⟩;rw[<-hsu]at e2 e6 e8 e9 ⊢;rw[cQ (ρ':=[some (.ref 1),some (.ref d),some (.tup [.int n,.int w]),some su,some (.ref lq),some (.int f),none,none,none]) (S':=Y1) (by rwa[el,e1])];rw[cQ (ρ':=[some (.ref 1),some (.ref d),some (.tup [.int n,.int w]),some su,some (.ref lq),some (.int f),some (.tup (.str s::v::r)),none,none]) (S':=Y2) (by rwa[q1,at',e2])];rw[cQ (ρ':=[some (.ref 1),some (.ref d),some (.tup [.int n,.int w]),some su,some (.ref lq),some (.int f),some (.tup (.str s::v::r)),none,none]) (S':=Y4) (by rwa[s1,t1,a1,e3,a2,e4])];rw[cQ (ρ':=[some (.ref 1),some (.ref d),some (.tup [.int n,.int w]),some su,some (.ref lq),some (.int f),some (.tup (.str s::v::r)),some (.ref lo),none]) (S':=Y6) (by rw[vI,e6];rfl)];rw[cQ (ρ':=[some (.ref 1),some (.ref d),some (.tup [.int n,.int w]),some su,some (.ref lq),some (.int f),some (yZ (qT w Ds os 0 st) l),some (.ref lo),none]) (S':=Y8) (by rwa[e8])];rw[cQ (ρ':=[some (.ref 1),some (.ref d),some (.tup [.int n,.int w]),some su,some (.ref lq),some (.int f),some (yZ (qT w Ds os 0 st) l),some (.ref lo),some (.str (Fc (qT w Ds os 0 st)))]) (S':=Y9) (by rw[vI,e9];rfl)];rwa[e10,t10,e11]
end
section
variable{cE cD cR:Cl}{CA:Addr}{ns:List Int}{n w:Int}{st:List Int}{Ds:List (List (Dl 3))}{d ld lq:Nat}{Y Y':Sto}{ds:List (Dl 3)}{X:Nat->Prop}
def Cg:Fn:=fnU 2 2 (gB nE)
def xt(cE:Cl):Fn:=fnU 1 1 (lO cE)
abbrev fL(cE cD cR:Cl)(CA:Addr)(f:Fn->Fn->Fn->Fn->Fn->Fn->Fn->Fn->Fn->Fn->Cl->CS):CS:=f fk ug uh (n9 cE cD cR CA) Cg (qQ cE cD cR CA) (vE 3) (LwJ 3) (Cn cE cD cR CA) (xt cE) cE
theorem IU{α:Type}{us:List α}{x:α}:atI (us++[x]) (-1)=some x:=by
 unfold atI ixN;rw[if_neg (by decide),if_pos (by rw[ZY];simp;omega),Z8];rw[show(-1+(((us++[x]).length:Nat):Int)).toNat=us.length by rw[ZY];simp;omega];rw[Zb (ZD _),Nat.sub_self];rfl
theorem MZ(W:Wo n w st)(P:Pn ns Y):∃ds Y',vE 3 [.ref 1,.tup [.int n,.int w],.int 10,.int 2] Y=some (dlU (j:=3) ds,Y')/\OkM n w 3 ds/\kx 3 ds<=40/\Pn ns Y'/\Kq (· < 2) Y Y':=by
 obtain⟨a,c,T,rfl,ha,hc⟩:=P.eq;obtain⟨ds,a1,c1,G1,e1,kd,sz,_,ha1,hc1,_⟩:=yu W.n0 W.n1 W.w0 W.w1 3 3 2 (by omega) (by omega) ns T a c 10 ha hc (by omega) (by omega);exact⟨ds,_,e1,kd,by omega,.of ha1 hc1,ye⟩
theorem BI(hD:cD.ns.length=4)(hR:cR.ns.length=4)(W:Wo n w st)(k:Dk n w Ds)(few:Ds.length<12)(L:La ns cE d ld lq n w st Ds Y){r3 r8:Option U}:∃ds Y',fL cE cD cR CA qM [none,some (.ref 1),some (.ref d),r3,some (.tup [.int n,.int w]),some (.tup (st.map U.int)),some (.ref lq),some (.int (Ds.length:Nat)),r8] Y=some (.nx,[none,some (.ref 1),some (.ref d),r3,some (.tup [.int n,.int w]),some (.tup (st.map U.int)),some (.ref lq),some (.int (Ds.length:Nat)),r8],Y')/\Dk n w (Ds++[ds])/\La ns cE d ld lq n w st (Ds++[ds]) Y':=by
 obtain⟨ds,Y1,e1,ok,sz,P1,k1⟩:=MZ W L.pn;have L1:=L.pen P1 k1;have q0:=L.q;have kk:Dk n w (Ds++[ds]):=⟨by rw[ZY];simp;omega,fun x hx=>by
  rcases X8.mp hx with z|z
  ·exact k.ok x z
  ·rw[XE.mp z];exact⟨ok,sz⟩⟩
 have em:(Ds++[ds]).map dlU=Ds.map dlU++[dlU ds]:=by rw[Zp];rfl
 have e2:cN (.ref lq) [dlU ds] Y1=some (.non,Y1.set lq (.lst (Ds.map dlU++[dlU ds]))):=by
  have hl:=L1.q;simp only[cN,hl];rw[if_pos (by rw[ZN];unfold LIM;omega)]
 have hq2:=rS (o':=.lst (Ds.map dlU++[dlU ds])) L1.q;have k2:Kq (·=lq) Y1 (Y1.set lq (.lst (Ds.map dlU++[dlU ds]))):=Kq.set rfl;have D2:=L1.de.kq k2 L.nq (fun z=>L.lq z);have P2:Pn ns (Y1.set lq (.lst (Ds.map dlU++[dlU ds]))):=L1.pn.kq k2 (by have:=L.q2;omega) (by have:=L.q2;omega);obtain⟨Y2,hY2⟩:∃Y2,Y2=Y1.set lq (.lst (Ds.map dlU++[dlU ds])):=⟨_,rfl⟩;rw[<-hY2]at e2 hq2 D2 P2;obtain⟨l,G3,e3,g3⟩:=Fm W.n1 W.w1 3 3 (by omega) ds Y2 ok (by have:=(uD W.n1 W.w1 ok sz).2;omega);have D3:=D2.app G3;have hq3:=aX (r:=G3) hq2;have P3:Pn ns (Y2++G3):=P2.kq (X:=fun _=>False) (Kq.app G3) (fun z=>z) (fun z=>z);obtain⟨Y3,hY3⟩:∃Y3,Y3=Y2++G3:=⟨_,rfl⟩;rw[<-hY3]at e3 g3 D3 hq3 P3;have ej:=Bc W.n1 W.w1 ok sz g3;have t3:cX (.str "deal ") (.str (txt ds)) Y3=some (.str (jS ("deal"::wdD 3 ds)),Y3):=by
  rw[<-Sa];have l1:("deal ":Str).length=5:=by decide +kernel
  have l2:(jS (wdD 3 ds)).length<=2000:=Rw.len ⟨xH,by have:=(uD W.n1 W.w1 ok sz).2;omega,fun y hy=>(Q3 W ok sz).ok y (ZJ _ hy)⟩;have l3:(txt ds).length<=2000:=l2;exact kI (by omega)
 have s3:=mX (x:=((Ds.length:Nat):Int)) ⟨by omega,by omega⟩ Y3;obtain⟨Y4,e4,D4,k4⟩:=Kk (cD:=cD) (CA:=CA) hR W k few ok sz D3 L.nl;have P4:=P3.kq k4 (by rintro(z|z);exact absurd L.d2 (by omega);exact absurd L.l2 (by omega)) (by rintro(z|z);exact absurd L.d2 (by omega);exact absurd L.l2 (by omega));have hq4:=k4.get hq3 (by rintro(z|z);exact L.nq z.symm;exact L.lq z.symm);rw[<-em]at hq4;have L4:La ns cE d ld lq n w st (Ds++[ds]) Y4:=⟨P4,D4,hq4,L.d2,L.l2,L.q2,L.nl,L.nq,L.lq⟩;obtain⟨g,Y5,e5,g0,g1,P5,k5,-⟩:=rK (m:=2) P4 (by decide) (by decide);have L5:=L4.pen P5 k5;obtain⟨Y6,e6,L6⟩:=B6 (cR:=cR) (CA:=CA) hD W kk (by simp) L5;obtain⟨su,hsu⟩:∃su,su=U.tup (st.map U.int):=⟨_,rfl⟩;rw[<-hsu]at e6 ⊢;have hbs:cBS lF (cC (.str " ")) (ag (cCB (LwJ 3) (ag (cOp fIx (ao 6) (M5 (cC (.int 1)))) aD)) aD) [none,some (.ref 1),some (.ref d),r3,some (.tup [.int n,.int w]),some su,some (.ref lq),some (.int (Ds.length:Nat)),r8] Y2=some (.str (txt ds),Y3):=by
  unfold cBS;rw[x_c,Z8];have ng:M5 (cC (.int 1)) [none,some (.ref 1),some (.ref d),r3,some (.tup [.int n,.int w]),some su,some (.ref lq),some (.int (Ds.length:Nat)),r8] Y2=some (.int (-1),Y2):=rfl;have h1:cOp fIx (ao 6) (M5 (cC (.int 1))) [none,some (.ref 1),some (.ref d),r3,some (.tup [.int n,.int w]),some su,some (.ref lq),some (.int (Ds.length:Nat)),r8] Y2=some (dlU ds,Y2):=by
   rwa[ng,hq2,IU]
  have e3':LwJ 3 [dlU ds] Y2=some (.ref l,Y3):=e3;simp only[o7,QL,h1,kN,vK,kM,JW,e3',Z8,ej]
 refine⟨ds,if decide (g=0)=true then Y6 else Y5,?_,kk,by
  cases decide (g=0)with
  |true=>exact L6
  |false=>exact L5⟩
 unfold fL qM;rw[cQ (ρ':=[none,some (.ref 1),some (.ref d),r3,some (.tup [.int n,.int w]),some su,some (.ref lq),some (.int (Ds.length:Nat)),r8]) (S':=Y2) (by rwa[q0,e1,e2])];rw[cQ (ρ':=[none,some (.ref 1),some (.ref d),r3,some (.tup [.int n,.int w]),some su,some (.ref lq),some (.int (Ds.length:Nat)),r8]) (S':=Y4) (by rwa[hbs,t3,s3,e4])];cases z:decide (g=0)with
 |true=>rwa[e5,z,e6,if_true]
 |false=>rwa[e5,z,Bool.false_eq_true,if_false]
theorem vn(hD:cD.ns.length=4)(hR:cR.ns.length=4)(W:Wo n w st){r3 r8:Option U}:∀(m:Nat) (Ds:List (List (Dl 3))) (Y:Sto) (r7:Option U),Dk n w Ds->Ds.length+m<=12->La ns cE d ld lq n w st Ds Y->
  ∃Ds' r7' Y',fv (fun _=>True) (gNm 7) (fL cE cD cR CA qM) ((List.range' Ds.length m).map fun i:Nat=>U.int (0+(i:Nat))) [none,some (.ref 1),some (.ref d),r3,some (.tup [.int n,.int w]),some (.tup (st.map U.int)),some (.ref lq),r7,r8] Y=some (.nx,[none,some (.ref 1),some (.ref d),r3,some (.tup [.int n,.int w]),some (.tup (st.map U.int)),some (.ref lq),r7',r8],Y')/\Dk n w Ds'/\La ns cE d ld lq n w st Ds' Y'/\Ds'.length=Ds.length+m
 |0,Ds,Y,r7,k,hl,L=>⟨Ds,r7,Y,iL trivial,k,L,rfl⟩
 |m+1,Ds,Y,r7,k,hl,L=>by
  obtain⟨ds,Y1,e1,k1,L1⟩:=BI (CA:=CA) hD hR W k (by omega) L (r3:=r3) (r8:=r8);have ln:(Ds++[ds]).length=Ds.length+1:=by rw[ZY];rfl
  obtain⟨Ds',r7',Y',e2,k2,L2,l2⟩:=vn hD hR W (r3:=r3) (r8:=r8) m (Ds++[ds]) Y1 (some (.int (Ds.length:Nat))) k1 (by omega) L1;refine⟨Ds',r7',Y',?_,k2,L2,by omega⟩;rw[List.range'_succ,ZG];rw[ln]at e2;refine(dz trivial (ρ0:=[none,some (.ref 1),some (.ref d),r3,some (.tup [.int n,.int w]),some (.tup (st.map U.int)),some (.ref lq),some (.int (Ds.length:Nat)),r8]) (S0:=Y) (by rw[Int.zero_add];rfl) e1).trans e2
end
section
variable{cE cD cR:Cl}{CA:Addr}{ns:List Int}{n w:Int}{st:List Int}{Ds:List (List (Dl 3))}{d ld lq:Nat}{Y Y':Sto}{X:Nat->Prop}{ρ:Rho}
def Lay.non{k:Nat}{S:Sto}:Lay k S .non:=⟨_,.non,rfl,X1 _⟩
theorem KJ{row:Str}{ws:List Str}(hr:row=jS ("deal"::ws))(R:Rw ("deal"::ws))(few:Ds.length=12)(L:La ns cE d ld lq n w st Ds Y):∃G,qQ cE cD cR CA [.ref d,.str row] Y=some (.tup [.str "row",.non],Y++G):=by
 subst hr;obtain⟨e1,e2⟩:=KH (cD:=cD) (cR:=cR) (CA:=CA) R L.de few;obtain⟨G,e⟩:=AD L.de.d e1 e2;exact⟨_,e.trans (by unfold spS;rw[ZV])⟩
theorem KS(S:Sto):El true (.tup [.str "row",.non]) (.tup [.str "row",.non]) S=some (.bl false,S):=nC.ne (nC.refl (Lay.tup (k:=0) fun u hu=>by
 rcases Zx.mp hu with rfl|hu
 ·exact Lay.str (by decide +kernel)
 ·rw[XE.mp hu];exact Lay.non)) (by decide)
def x1:("deal ( )":Str)=jS (("deal":Str)::[("(":Str),(")":Str)]):=by decide +kernel
def x2:("deal x":Str)=jS (("deal":Str)::[("x":Str)]):=by decide +kernel
def x3:("deal ( wait":Str)=jS (("deal":Str)::[("(":Str),("wait":Str)]):=by decide +kernel
def x4:("deal":Str)=jS (("deal":Str)::[]):=by decide +kernel
def rwx{ws:List Str}(h:∀y∈ws,y.length<=5/\32∉y.cps.toList)(few:ws.length<300):Rw ("deal"::ws):=wok QM h few
theorem Pe{row:Str}(h:row∈[("deal ( )":Str),"deal x","deal ( wait","deal"]):∃ws,row=jS (("deal":Str)::ws)/\Rw ("deal"::ws):=by
 simp only[Zx,X9,or_false]at h;rcases h with rfl|rfl|rfl|rfl
 ·exact⟨_,x1,rwx (by decide +kernel) (by decide)⟩
 ·exact⟨_,x2,rwx (by decide +kernel) (by decide)⟩
 ·exact⟨_,x3,rwx (by decide +kernel) (by decide)⟩
 ·exact⟨_,x4,rwx (fun _ h=>nomatch h) (by decide)⟩
theorem BJ(few:Ds.length=12){a:List (Option U)}(ha:a.length=8)(h2:a[2]?=some (some (.ref d))){us:List U}{l:Nat}:∀(rs:List Str) (Y:Sto) (r8:Option U),(∀r∈rs,r∈[("deal ( )":Str),"deal x","deal ( wait","deal"])->La ns cE d ld lq n w st Ds Y->Y[l]?=some (.lst us)->∃r8' Y',fv (fun S=>S[l]?=some (.lst us)) (gNm 8) (fL cE cD cR CA t8) (rs.map U.str) (a++[r8]) Y=some (.nx,a++[r8'],Y')/\La ns cE d ld lq n w st Ds Y'
 |[],Y,r8,_,L,g=>⟨r8,Y,iL g,L⟩
 |r::rs,Y,r8,h,L,g=>by
  obtain⟨ws,e,R⟩:=Pe (h r ZE);obtain⟨G,es⟩:=KJ (cD:=cD) (cR:=cR) (CA:=CA) e R few L;obtain⟨r8',Y',e2,L2⟩:=BJ few ha h2 rs (Y++G) (some (.str r)) (fun x hx=>h x (ZJ _ hx)) (L.app G) (aX g);refine⟨r8',Y',?_,L2⟩;rw[ZG];have hg:gNm 8 (.str r) (a++[r8]) Y=some (a++[some (.str r)],Y):=by
   have:(a++[r8]).set 8 (some (.str r))=a++[some (.str r)]:=by rw[<-ha,List.set_append_right _ _ (ZD _),Nat.sub_self];rfl
   rw[<-this];rfl
  refine(dz g hg ?_).trans e2;have v2:∀S,ao 2 (a++[some (.str r)]) S=some (.ref d,S):=fun S=>by unfold ao;rw[Zq (by omega),h2]
  have v8:∀S,ao 8 (a++[some (.str r)]) S=some (.str r,S):=fun S=>by
   unfold ao;rw[Zb (by omega),ha];rfl
  have ne:=KS (Y++G);unfold fL t8;generalize Y++G=Z at es ne;rwa[v2,v8,es,ne]
theorem Gs(P:Pn ns Y):∃n w Y',ug [.ref 1] Y=some (.tup [.int n,.int w],Y')/\1<=n/\n<=6/\2<=w/\w<=1000/\Pn ns Y'/\Kq (· < 2) Y Y':=by
 obtain⟨a,c,T,rfl,ha,hc⟩:=P.eq;obtain⟨n,w,a1,c1,G1,e1,n0,n1,w0,w1,ha1,hc1⟩:=CW ns T ha hc;exact⟨n,w,_,e1,n0,n1,w0,w1,.of ha1 hc1,ye⟩
theorem GJ(P:Pn ns Y)(n0:1<=n)(n1:n<=6)(w0:2<=w)(w1:w<=1000):∃st Y',uh [.ref 1,.tup [.int n,.int w]] Y=some (.tup (st.map U.int),Y')/\Wo n w st/\Pn ns Y'/\Kq (· < 2) Y Y':=by
 obtain⟨a,c,T,rfl,ha,hc⟩:=P.eq;obtain⟨st,a1,c1,G1,e1,ln,bd,ha1,hc1⟩:=C6 ns T ha hc n0 n1 w0 w1;exact⟨st,_,e1,⟨n0,n1,w0,w1,ln,bd⟩,.of ha1 hc1,ye⟩
theorem F8(W:Wo n w st)(S:Sto):∃G,Cg [.tup [.int n,.int w],.tup (st.map U.int)] S=some (.str (jS ("world"::(n::w::st).map cf)),S++G):=by
 have n0:=W.n0;have n1:=W.n1;have w0:=W.w0;have w1:=W.w1;have ln:=W.ln;have h0:st≠[]:=fun z=>by rw[z]at ln;simp at ln;omega
 have u1:∀x∈[n,w],Nu x:=fun x hx=>by
  rcases Zx.mp hx with rfl|hx
  ·exact⟨by omega,by omega⟩
  ·rw[XE.mp hx];exact⟨by omega,by omega⟩
 have u2:∀x∈st,Nu x:=fun x hx=>Nu.of (W.st x hx) w1;obtain⟨G1,e1⟩:=my (u:=.tup ([n,w].map U.int)) (S:=S) (.inl rfl) u1 (by show 2<=300;decide);obtain⟨Y1,hY1⟩:∃Y1,Y1=S++G1:=⟨_,rfl⟩;rw[<-hY1]at e1;obtain⟨G2,e2⟩:=my (u:=.tup (st.map U.int)) (S:=Y1) (.inl rfl) u2 (by omega);obtain⟨Y2,hY2⟩:∃Y2,Y2=Y1++G2:=⟨_,rfl⟩;rw[<-hY2]at e2;have l0:("world ":Str).length=6:=by decide +kernel
 have l1:(" ":Str).length=1:=by decide +kernel
 have l2:=jZ u1 (by show 2<=300;decide);have l3:=jZ u2 (by omega);have c1:cX (.str "world ") (.str (eE [n,w])) Y1=some (.str (("world ":Str)++eE [n,w]),Y1):=kI (by omega);have l4:(("world ":Str)++eE [n,w]).length<=2006:=by rw[cI,qF,ZY,<-cI,<-cI,l0];omega
 have c2:cX (.str (("world ":Str)++eE [n,w])) (.str " ") Y1=some (.str (("world ":Str)++eE [n,w]++(" ":Str)),Y1):=kI (by omega);have l5:(("world ":Str)++eE [n,w]++(" ":Str)).length<=2007:=by rw[cI,qF,ZY,<-cI,<-cI,l1];omega
 have c3:cX (.str (("world ":Str)++eE [n,w]++(" ":Str))) (.str (eE st)) Y2=some (.str (("world ":Str)++eE [n,w]++(" ":Str)++eE st),Y2):=kI (by omega);refine⟨G1++G2,?_⟩;rw[<-ZV,<-hY1,<-hY2,<-R8 h0];have e1':nE [.tup [.int n,.int w]] S=some (.str (eE [n,w]),Y1):=e1;unfold Cg;rw[oJ];generalize st.map U.int=su at e2;rwa[gB,e1',c1,c2,e2,c3]
theorem Sb:("alone 0":Str)=jS [("alone":Str),cf 0]:=by
 have e:("alone 0":Str)=("alone ":Str)++cf 0:=by decide +kernel
 rw[e,QQ]
theorem GD(hD:cD.ns.length=4)(hR:cR.ns.length=4)(P:Pn ns Y)(d2:2<=d){f0 f1 f2 f3:Option U}(hd:Y[d]?=some (.ins cE [f0,f1,f2,f3])){r3 r4 r5 r6 r7 r8:Option U}:∃r4' r5' r6' r7' r8' Y' f0' f1' f2' f3',fL cE cD cR CA t7 [none,some (.ref 1),some (.ref d),r3,r4,r5,r6,r7,r8] Y=some (.nx,[none,some (.ref 1),some (.ref d),r3,r4',r5',r6',r7',r8'],Y')/\Pn ns Y'/\Y'[d]?=some (.ins cE [f0',f1',f2',f3']):=by
 obtain⟨n,w,Y1,e1,n0,n1,w0,w1,P1,k1⟩:=Gs P;obtain⟨st,Y2,e2,W,P2,k2⟩:=GJ P1 n0 n1 w0 w1;have h2:=k2.get (k1.get hd (by omega)) (by omega);obtain⟨G3,e3⟩:=F8 W Y2;have h3:=aX (r:=G3) h2;have P3:Pn ns (Y2++G3):=P2.kq (X:=fun _=>False) (Kq.app G3) (fun z=>z) (fun z=>z);obtain⟨Y3,hY3⟩:∃Y3,Y3=Y2++G3:=⟨_,rfl⟩;rw[<-hY3]at e3 h3 P3;obtain⟨Y4,ld,e4,D4,k4,l4⟩:=Ki (cD:=cD) (cR:=cR) (CA:=CA) W h3;have P4:Pn ns Y4:=P3.kq k4 (by omega) (by omega);have dl:=(Z9.mp h3).1;obtain⟨a1,G5,a2⟩:=KI (cD:=cD) (cR:=cR) (CA:=CA) (o:=0) D4 (by decide) (by decide) (by decide) (by decide) (wok QN (x5 (xs:=[0]) fun x hx=>by rw[XE.mp hx];exact⟨by decide,by decide⟩) (by show 1<300;decide));obtain⟨G6,e5⟩:=AD D4.d a1 a2;rw[<-Sb,ZV]at e5;have D5:=D4.app (G5++G6);have P5:Pn ns (Y4++(G5++G6)):=P4.kq (X:=fun _=>False) (Kq.app _) (fun z=>z) (fun z=>z);have l5:ld<(Y4++(G5++G6)).length:=(Z9.mp D5.l).1;have l5':d<(Y4++(G5++G6)).length:=(Z9.mp D5.d).1;obtain⟨Y5,hY5⟩:∃Y5,Y5=Y4++(G5++G6):=⟨_,rfl⟩;rw[<-hY5]at e5 D5 P5 l5 l5';have L6:La ns cE d ld Y5.length n w st [] (Y5++[.lst []]):=⟨P5.kq (X:=fun _=>False) (Kq.app _) (fun z=>z) (fun z=>z),D5.app _,by rw[ga0];rfl,d2,by omega,by omega,by omega,by omega,by omega⟩;obtain⟨lq,hlq⟩:∃lq,lq=Y5.length:=⟨_,rfl⟩;obtain⟨Y6,hY6⟩:∃Y6,Y6=Y5++[O.lst []]:=⟨_,rfl⟩;rw[<-hY6,<-hlq]at L6;obtain⟨su,hsu⟩:∃su,su=U.tup (st.map U.int):=⟨_,rfl⟩;obtain⟨N,Y7,N0,N1,L7,er⟩:=MV (ρ:=[none,some (.ref 1),some (.ref d),r3,some (.tup [.int n,.int w]),some su,some (.ref lq),r7,r8]) (v:=1) L6 (fun _=>rfl) (a:=4) (b:=12) (by decide) (by decide) (by decide) (by decide);obtain⟨Ds,r7',Y8,e8,k8,L8,l8⟩:=vn (CA:=CA) hD hR W (r3:=r3) (r8:=r8) N.toNat [] Y7 r7 ⟨X1 _,fun _ h=>nomatch h⟩ (by show 0+_<=12;omega) L7;have l8':Ds.length=N.toNat:=by rw[l8];exact Nat.zero_add _
 have neD:Ds≠[]:=fun z=>by rw[z]at l8';simp at l8';omega
 have efor:oX (fM (ag (cOp cX (cC (.int 1)) (cCB fk (ag (ao 1) (ag (cOp fIx (kr (ag (cC (.int 4)) (ag (cC (.int 12)) aD))) (cCB fk (ag (ao 1) (ag (cC (.int 2)) aD)))) aD)))) aD)) (gNm 7) (fL cE cD cR CA qM) [none,some (.ref 1),some (.ref d),r3,some (.tup [.int n,.int w]),some su,some (.ref lq),r7,r8] Y6=some (.nx,[none,some (.ref 1),some (.ref d),r3,some (.tup [.int n,.int w]),some su,some (.ref lq),r7',r8],Y8):=by
  rw[hsu]at er ⊢;unfold oX;rw[er,Z8];have rg:hU 0 N.toNat=(List.range' 0 N.toNat).map fun i:Nat=>U.int (0+(i:Nat)):=by unfold hU;rw[List.range_eq_range']
  dsimp only;rw[rg];exact e8
 have e9:∃r8' Y9,dC (aL (cOp fEq (cCB fx (ag (ao 6) aD)) (cC (.int 12)))) (oX (iTp (kr (ag (cC (.str "deal ( )")) (ag (cC (.str "deal x")) (ag (cC (.str "deal ( wait")) (ag (cC (.str "deal")) aD)))))) (gNm 8) (fL cE cD cR CA t8)) bB [none,some (.ref 1),some (.ref d),r3,some (.tup [.int n,.int w]),some su,some (.ref lq),r7',r8] Y8=some (.nx,[none,some (.ref 1),some (.ref d),r3,some (.tup [.int n,.int w]),some su,some (.ref lq),r7',r8'],Y9)/\La ns cE d ld lq n w st Ds Y9:=by
  have el:=L8.len;have et:aL (cOp fEq (cCB fx (ag (ao 6) aD)) (cC (.int 12))) [none,some (.ref 1),some (.ref d),r3,some (.tup [.int n,.int w]),some su,some (.ref lq),r7',r8] Y8=some (decide (((Ds.length:Nat):Int)=12),Y8):=by rwa[el]
  cases z:decide (((Ds.length:Nat):Int)=12)with
  |false=>exact⟨r8,Y8,by rw[yQ,et,z];rfl,L8⟩
  |true=>
   have few:Ds.length=12:=by have:=of_decide_eq_true z;omega
   have g:(Y8++[O.lst ([("deal ( )":Str),"deal x","deal ( wait","deal"].map U.str)])[Y8.length]?=some (.lst ([("deal ( )":Str),"deal x","deal ( wait","deal"].map U.str)):=by rw[ga0];rfl
   obtain⟨r8',Y9,e,L9⟩:=BJ (cD:=cD) (cR:=cR) (CA:=CA) few (a:=[none,some (.ref 1),some (.ref d),r3,some (.tup [.int n,.int w]),some su,some (.ref lq),r7']) rfl rfl [("deal ( )":Str),"deal x","deal ( wait","deal"] _ r8 (fun _ h=>h) (L8.app [.lst ([("deal ( )":Str),"deal x","deal ( wait","deal"].map U.str)]) g;refine⟨r8',Y9,?_,L9⟩;rw[yQ,et,z];show oX _ _ _ _ _=_;unfold oX;rw[Ec (l:=Y8.length) (S1:=Y8++[O.lst ([("deal ( )":Str),"deal x","deal ( wait","deal"].map U.str)]) (us:=[("deal ( )":Str),"deal x","deal ( wait","deal"].map U.str) rfl g,Z8];exact e
 obtain⟨r8',Y9,e9,L9⟩:=e9;obtain⟨Y10,e10,L10⟩:=B6 (cR:=cR) (CA:=CA) hD W k8 neD L9;rw[<-hsu]at e2 e3 e10;obtain⟨row,hrow⟩:∃row,row=jS ("world"::(n::w::st).map cf):=⟨_,rfl⟩;rw[<-hrow]at e3 e4;refine⟨some (.tup [.int n,.int w]),some su,some (.ref lq),r7',r8',Y10,_,_,_,_,?_,L10.pn,L10.de.d⟩;unfold fL t7;have z1:decide (("row":Str)="row")=true:=by decide +kernel
 rw[cQ (ρ':=[none,some (.ref 1),some (.ref d),r3,some (.tup [.int n,.int w]),r5,r6,r7,r8]) (S':=Y1) (by rwa[e1])];rw[cQ (ρ':=[none,some (.ref 1),some (.ref d),r3,some (.tup [.int n,.int w]),some su,r6,r7,r8]) (S':=Y2) (by rwa[e2])];rw[cQ (ρ':=[none,some (.ref 1),some (.ref d),r3,some (.tup [.int n,.int w]),some su,r6,r7,r8]) (S':=Y4) (by rwa[e3,e4])];rw[cQ (ρ':=[none,some (.ref 1),some (.ref d),r3,some (.tup [.int n,.int w]),some su,r6,r7,r8]) (S':=Y5) (by rwa[e5,z1])];rw[cQ (ρ':=[none,some (.ref 1),some (.ref d),r3,some (.tup [.int n,.int w]),some su,some (.ref lq),r7,r8]) (S':=Y6) (by rw[hlq,hY6];rfl)];rw[cQ efor,cQ e9];rwa[e10]
theorem uB(hD:cD.ns.length=4)(hR:cR.ns.length=4)(d2:2<=d):∀(us:List U) (Y:Sto) (f0 f1 f2 f3 r3 r4 r5 r6 r7 r8:Option U),Pn ns Y->Y[d]?=some (.ins cE [f0,f1,f2,f3])->∃ρ' Y',fv (fun _=>True) (gNm 3) (fL cE cD cR CA t7) us [none,some (.ref 1),some (.ref d),r3,r4,r5,r6,r7,r8] Y=some (.nx,ρ',Y')
 |[],Y,f0,f1,f2,f3,r3,r4,r5,r6,r7,r8,_,_=>⟨_,_,iL trivial⟩
 |u::us,Y,f0,f1,f2,f3,r3,r4,r5,r6,r7,r8,P,hd=>by
  obtain⟨r4',r5',r6',r7',r8',Y',g0,g1,g2,g3,e,P',hd'⟩:=GD (CA:=CA) hD hR P d2 hd (r3:=some u) (r4:=r4) (r5:=r5) (r6:=r6) (r7:=r7) (r8:=r8);obtain⟨ρ',Z,e2⟩:=uB hD hR d2 us Y' g0 g1 g2 g3 (some u) r4' r5' r6' r7' r8' P' hd';exact⟨ρ',Z,(dz trivial rfl e).trans e2⟩
theorem Mm(hE:cE.ns.length=4)(hD:cD.ns.length=4)(hR:cR.ns.length=4)(ns:List Int)(a c:Int)(ha:0<=a)(hc:0<=c):∃ρ' S',(fL cE cD cR CA EF) [none,some (.ref 1),none,none,none,none,none,none,none] [.lst (ns.map U.int),.lst [.ref 0,.int a,.int c]]=some (.rt (.bl true),ρ',S'):=by
 have P0:Pn ns [.lst (ns.map U.int),.lst [.ref 0,.int a,.int c]]:=Pn.of (T:=[]) ha hc;have em:rA cE (xt cE) [] [.lst (ns.map U.int),.lst [.ref 0,.int a,.int c]]=some (.ref 2,[.lst (ns.map U.int),.lst [.ref 0,.int a,.int c],.ins cE [some .non,some .non,some (.ref 3),some .non],.lst []]):=by
  rw[xw,hE];unfold xt;rw[qD];generalize O.lst (ns.map U.int)=o0;rwa[lO,ZU]
 have P1:Pn ns [.lst (ns.map U.int),.lst [.ref 0,.int a,.int c],.ins cE [some .non,some .non,some (.ref 3),some .non],.lst []]:=Pn.of (T:=[.ins cE [some .non,some .non,some (.ref 3),some .non],.lst []]) ha hc;obtain⟨f,Y2,e2,f0,f1,P2,k2,-⟩:=rK (m:=3) P1 (by decide) (by decide);have h2:Y2[2]?=some (.ins cE [some .non,some .non,some (.ref 3),some .non]):=k2.get rfl (by decide);obtain⟨ρ',Y',e⟩:=uB (CA:=CA) hD hR (d:=2) (by decide) (hU 0 (1+f).toNat) Y2 _ _ _ _ none none none none none none P2 h2;refine⟨ρ',Y',?_⟩;unfold fL EF;rw[cQ (ρ':=[none,some (.ref 1),some (.ref 2),none,none,none,none,none,none]) (S':=[.lst (ns.map U.int),.lst [.ref 0,.int a,.int c],.ins cE [some .non,some .non,some (.ref 3),some .non],.lst []]) (by rwa[em])];rw[cQ (ρ':=ρ') (S':=Y') (by
  have er:fM (ag (cOp cX (cC (.int 1)) (cCB fk (ag (ao 1) (ag (cC (.int 3)) aD)))) aD) [none,some (.ref 1),some (.ref 2),none,none,none,none,none,none] [.lst (ns.map U.int),.lst [.ref 0,.int a,.int c],.ins cE [some .non,some .non,some (.ref 3),some .non],.lst []]=some (hU 0 (1+f).toNat,fun _=>True,Y2):=by
   refine Bk ?_ (by omega) (by omega);generalize ([.lst (ns.map U.int),.lst [.ref 0,.int a,.int c],.ins cE [some .non,some .non,some (.ref 3),some .non],.lst []]:Sto)=Z at e2;rwa[e2]
  unfold oX;rw[er,Z8];exact e)]
 rfl
end
section
variable{P:ZS}{w:Zg}{K:Z6}{mg:Str->Option Z7}{base:Heap}
def pY:aG ["script"] ["script"] (ay mV):=⟨rfl,rfl,rfl,by decide +kernel,rfl,by decide +kernel,by decide +kernel⟩
theorem Iy{k:Nat}(B:Blt mg)(d:Def K mg "_law_pen" mV ["script"]):Has P w K mg base "_law_pen" (k+1) ["script"] (E5 K):=by
 refine d.has pY (fun vs H Q E h=>?_) (fun f cdv A outer s H vs Q E hr h=>?_)
 ·obtain⟨a,ns,rfl,_⟩:=h;rfl
 obtain⟨a,ns,rfl,hS,q⟩:=h;have nd:=pY.nd;refine⟨_,(xA (vN (z9 (cZ (rJ j2 rfl B.list OG.qL (cZ (uu Az (wpv 0) xD (xC ak)) jE)) (cZ ak (cZ ak jE)))))),?_⟩;refine⟨_,rfl,_,rfl,a,_,rfl,hS,fun p hp=>⟨p,_,rfl,.inl (SqL.of bx),fun l hl=>⟨(by show 3<=ZP;decide),fun r hr'=>?_⟩⟩⟩;obtain⟨ms,em⟩:∃ms:List Int,BN (ns.map V.int) none (some 63)=ms.map V.int:=⟨_,EB _ _ _⟩;rw[em]at hl hr' ⊢;refine q r l _ (((eQ hp _).trans (eQ hl _)).trans (eQ hr' _)) ⟨ms,0,0,bx,?_,dG bx hr',by decide,by decide⟩ ?_
 ·rw[bN (dG bx hr')];exact bx
 ·exact(((eQ hp _).trans (eQ hl _))).free hr'
end
theorem Na{l:PySem.W.OpenLaw}{w:Zg}{K:Z6}{h:Heap}{mg:Str->Option Z7}{fa:Addr}(X:K.In h)(G:h.Ns mainGlobals mg)(hfa:mg "law"=some (.ref fa))
  {y138:Addr}
  {y134:Addr}
  {y140:Addr}
  {tk1:Tok}
  {tk2:Tok}
  {tk3:Tok}
  {tk4_0 tk4_1:Tok} {pt4:Addr} {pn4:Nat} {pl4:Array (Option Z7)}
  {tk5_0 tk5_1:Tok} {pt5:Addr} {pn5:Nat} {pl5:Array (Option Z7)}
  {tk6:Tok}
  {tk7:Tok}
  {tk8:Tok}
  {tk9:Tok}
  {tk10:Tok}
  {tk11:Tok}
  {tk12:Tok}
  (ds:Np K [("is_whole",mS),("is_within",kW),("is_world",mR),("is_state",mU),("with_at",pZ),("onwards",p4),("goes_through",iT),("alone",vU),("in_row",sW),("bounds_of",kX),("number_in",kS),("read_dealing",iS),("check",sX),("numbered",mQ),("spaced",sV),("_law_take",kZ),("_law_world",jN),("_law_state",jP),("_law_size",lj),("_law_plain_deed",fz),("_law_dealing",iV),("_law_words",jO),("_law_said",lu),("_law_told",kY),("_law_numbers",iU),("_law_world_row",gq),("_law_asked_right",eR),("_law_pen",mV),("law",GU)])
  (y127:Ja K "Doing" y138 ["wheel","held","puts","part"] [("__init__","Doing.__init__",jQ),("deed","Doing.deed",jU),("asks","Doing.asks",jV),("hold","Doing.hold",jR),("part_behind","Doing.part_behind",eD),("go_behind","Doing.go_behind",fF),("hear","Doing.hear",jT),("enter_try","Doing.enter_try",fG),("goes_back","Doing.goes_back",fE),("do_deed","Doing.do_deed",hJ),("put_pairs","Doing.put_pairs",fD)])
  (y120:Ja K "Reader" y134 ["world","words","place","many"] [("__init__","Reader.__init__",jl),("word","Reader.word",jk),("check","Reader.check",iX),("go_on","Reader.go_on",iW),("read_number","Reader.read_number",dS),("read_deed","Reader.read_deed",eS),("read_try","Reader.read_try",fA),("read_run","Reader.read_run",fB),("read_all","Reader.read_all",fC)])
  (y133:Ja K "Desk" y140 ["world","state","dealings","tries"] [("__init__","Desk.__init__",lA),("place_of","Desk.place_of",eV),("read_deal","Desk.read_deal",gx),("say_world","Desk.say_world",gu),("say_deal","Desk.say_deal",eU),("say_alone","Desk.say_alone",d9),("say_row","Desk.say_row",iY),("say","Desk.say",kh)])
  (g1:PySem.W.nsIn K mainGlobals "MOST_BOXES"=some (some (.int (6) tk1)))
  (g2:PySem.W.nsIn K mainGlobals "MOST_WHEEL"=some (some (.int (1000) tk2)))
  (g3:PySem.W.nsIn K mainGlobals "LEAST_WHEEL"=some (some (.int (2) tk3)))
  (g4:PySem.W.nsIn K mainGlobals "HAND"=some (some (.ref pt4))) (h4:K.lookup pt4=some ⟨.type "tuple",none,.seq #[.int 0 tk4_0,.int 3 tk4_1] pn4,pl4⟩)
  (g5:PySem.W.nsIn K mainGlobals "LEAP"=some (some (.ref pt5))) (h5:K.lookup pt5=some ⟨.type "tuple",none,.seq #[.int 1 tk5_0,.int 12 tk5_1] pn5,pl5⟩)
  (g6:PySem.W.nsIn K mainGlobals "MOST_FIGURES"=some (some (.int (4) tk6)))
  (g7:PySem.W.nsIn K mainGlobals "FIGURES"=some (some (.str "0123456789" tk7)))
  (g8:PySem.W.nsIn K mainGlobals "MOST_IN_TUPLE"=some (some (.int (12) tk8)))
  (g9:PySem.W.nsIn K mainGlobals "MOST_IN_ALL"=some (some (.int (40) tk9)))
  (g10:PySem.W.nsIn K mainGlobals "MOST_TRIES"=some (some (.int (3) tk10)))
  (g11:PySem.W.nsIn K mainGlobals "MOST_DEALINGS"=some (some (.int (12) tk11)))
  (g12:PySem.W.nsIn K mainGlobals "MOST_IN_ROW"=some (some (.int (12) tk12)))
  (zs:NR K Rt) {y142 y146 y144 y145 y147 y143:Addr} (xk:QH K y142 y146 y144 y145 y147 y143) :
  ∃fd:X5,(∀(s:ZZ) (v:Z7),BindsTo s fd ⟨[v],[]⟩ [("script",v)])/\∀base:Heap,K.In base->base.Ns mainGlobals mg->lU l.prog w K mg base CX0 22 fa fd ["script"] (C8 K):=by
 obtain⟨y115,y98,y118,y112,y122,y124,y56,y130,y126,y107,y95,y65,y136,y114,y128,y94,y78,y88,y103,y21,y55,y76,y96,y97,y61,y37,y11,y108,y141,-⟩:=ds;obtain⟨y90,y89,y84,y92,y6,y26,y77,y29,y24,y52,y28,-⟩:=y127.ms;have y137:=y127.tc;obtain⟨y71,y70,y60,y66,y0,y8,y19,y22,y32,-⟩:=y120.ms;have y135:=y120.tc;obtain⟨y105,y46,y34,y39,y42,y38,y58,y111,-⟩:=y133.ms;have y139:=y133.tc;have C_MOST_BOXES:=ED X G g1;have C_MOST_WHEEL:=ED X G g2;have C_LEAST_WHEEL:=ED X G g3;have C_HAND:Nm K mg "HAND" [0,3]:=⟨_,_,_,_,PySem.W.mg_of X G g4,h4,⟨rfl,rfl⟩,rfl,(show 2<=ZP by decide),(.cons ⟨tk4_0,rfl⟩ (.cons ⟨tk4_1,rfl⟩ .nil))⟩;have C_LEAP:Nm K mg "LEAP" [1,12]:=⟨_,_,_,_,PySem.W.mg_of X G g5,h5,⟨rfl,rfl⟩,rfl,(show 2<=ZP by decide),(.cons ⟨tk5_0,rfl⟩ (.cons ⟨tk5_1,rfl⟩ .nil))⟩;have C_MOST_FIGURES:=ED X G g6;have C_FIGURES:=Ss X G g7;have C_MOST_IN_TUPLE:=ED X G g8;have C_MOST_IN_ALL:=ED X G g9;have C_MOST_TRIES:=ED X G g10;have C_MOST_DEALINGS:=ED X G g11;have C_MOST_IN_ROW:=ED X G g12;have B:=zs.blt X G;have V:=xk.k X G;refine Mn y141 X G hfa fun fd F_law base=>?_;have Gp:=Iy (P:=l.prog) (w:=w) (base:=base) (k:=0) B (y108.df X G);have y116:=zv (P:=l.prog) (w:=w) (base:=base) (k:=0) (y115.df X G) B;have y100:=wK (P:=l.prog) (w:=w) (base:=base) (k:=1) (y98.df X G) B y116;have y109:=zu (P:=l.prog) (w:=w) (base:=base) (k:=2) (y118.df X G) B C_MOST_BOXES C_MOST_WHEEL C_LEAST_WHEEL y100;have y113:=zw (P:=l.prog) (w:=w) (base:=base) (k:=2) (y112.df X G) B y100;have y123:=Bn (P:=l.prog) (w:=w) (base:=base) (k:=0) (y122.df X G) B;have y121:=Bo (P:=l.prog) (w:=w) (base:=base) (k:=0) (fuel:=100) (y124.df X G) B;have y85:=vj (P:=l.prog) (w:=w) (base:=base) (k:=0) (y89.mt) B y137;have y83:=vk (P:=l.prog) (w:=w) (base:=base) (k:=1) (y84.mt) B y137 y85;have y81:=vh (P:=l.prog) (w:=w) (base:=base) (k:=1) (y92.mt) B y137 y123;have y5:=lE (P:=l.prog) (w:=w) (base:=base) (k:=0) (y6.mt) B y137;have y23:=nh (P:=l.prog) (w:=w) (base:=base) (k:=1) (y26.mt) B y137 y121 y5;have y87:=vi (P:=l.prog) (w:=w) (base:=base) (k:=2) (y77.mt) B y137 y81 (y85.mono (by decide)) y23;have y25:=ni (P:=l.prog) (w:=w) (base:=base) (k:=1) (y29.mt) B y137 y121 y5;have y31:=m9 (P:=l.prog) (w:=w) (base:=base) (k:=0) (y24.mt) B y137;have y47:=ql (P:=l.prog) (w:=w) (base:=base) (k:=2) (y52.mt) B y137 (Has.mono y123 (by decide)) (y85.mono (by decide)) (y31.mono (by decide)) y25 y81 y23;have y30:=m8 (P:=l.prog) (w:=w) (base:=base) (k:=0) (y28.mt) B y137;have y75:=vg (P:=l.prog) (w:=w) (base:=base) (k:=1) (y127.mkd y90 X G) B y137 y121;have y54:=rj (P:=l.prog) (w:=w) (base:=base) (k:=3) (fuel:=20000000) (y56.df X G) B y137 (y85.mono (by decide)) (y83.mono (by decide)) y87 y47;have y131:=IB (P:=l.prog) (w:=w) (base:=base) (k:=3) (y130.df X G) B y137 y54 (y30.mono (by decide)) (y75.mono (by decide));have y125:=Eg (P:=l.prog) (w:=w) (base:=base) (k:=5) (y126.df X G) B y131;have y101:=wL (P:=l.prog) (w:=w) (base:=base) (k:=0) (y107.df X G) B C_HAND C_LEAP;have y102:=wJ (P:=l.prog) (w:=w) (base:=base) (k:=0) (y95.df X G) B C_MOST_FIGURES C_FIGURES;have y73:=tP (P:=l.prog) (w:=w) (base:=base) (k:=0) (y120.mkd y71 X G) B y135;have y74:=tN (P:=l.prog) (w:=w) (base:=base) (k:=0) (y70.mt) B y135;have y62:=rq (cReader:=⟨y134,["world","words","place","many"]⟩) (P:=l.prog) (w:=w) (base:=base) (k:=0) (y60.mt) B;have y64:=rp (P:=l.prog) (w:=w) (base:=base) (k:=0) (y66.mt) B y135;have y1:=ky (P:=l.prog) (w:=w) (base:=base) (k:=1) (y0.mt) B y135 y102 y74 y62 y64;have y18:cH l.prog w K mg base (⟨y134,["world","words","place","many"]⟩:Cl) "read_try" 2 ["self","tries_left"] (gk (⟨y134,["world","words","place","many"]⟩:Cl) (fun _ _=>none)):=dH (P:=l.prog) (w:=w) (base:=base) (k:=1) (y19.mt) B y135 y62 y64 (MtD.no (y22.mt (ps:=["self","tries_left"])));have y2:cH l.prog w K mg base (⟨y134,["world","words","place","many"]⟩:Cl) "read_deed" 3 ["self","tries_left"] (fV (⟨y134,["world","words","place","many"]⟩:Cl) (gk (⟨y134,["world","words","place","many"]⟩:Cl) (fun _ _=>none))):=dA (P:=l.prog) (w:=w) (base:=base) (k:=2) (y8.mt) B y135 (Has.mono y101 (by decide)) (y74.mono (by decide)) y18 (y62.mono (by decide)) (y64.mono (by decide)) y1;have y10:cH l.prog w K mg base (⟨y134,["world","words","place","many"]⟩:Cl) "read_run" 4 ["self","tries_left"] (zM (⟨y134,["world","words","place","many"]⟩:Cl) 0):=dI (P:=l.prog) (w:=w) (base:=base) (k:=3) (fuel:=100) (y22.mt) B C_MOST_IN_TUPLE C_MOST_IN_ALL y135 (y62.mono (by decide)) (y74.mono (by decide)) (y64.mono (by decide)) y2;have y14:cH l.prog w K mg base (⟨y134,["world","words","place","many"]⟩:Cl) "read_try" 5 ["self","tries_left"] (gk (⟨y134,["world","words","place","many"]⟩:Cl) (zM (⟨y134,["world","words","place","many"]⟩:Cl) 0)):=dH (P:=l.prog) (w:=w) (base:=base) (k:=4) (y19.mt) B y135 (y62.mono (by decide)) (y64.mono (by decide)) y10;have y4:cH l.prog w K mg base (⟨y134,["world","words","place","many"]⟩:Cl) "read_deed" 6 ["self","tries_left"] (fV (⟨y134,["world","words","place","many"]⟩:Cl) (gk (⟨y134,["world","words","place","many"]⟩:Cl) (zM (⟨y134,["world","words","place","many"]⟩:Cl) 0))):=dA (P:=l.prog) (w:=w) (base:=base) (k:=5) (y8.mt) B y135 (Has.mono y101 (by decide)) (y74.mono (by decide)) y14 (y62.mono (by decide)) (y64.mono (by decide)) (y1.mono (by decide));have y15:cH l.prog w K mg base (⟨y134,["world","words","place","many"]⟩:Cl) "read_run" 7 ["self","tries_left"] (zM (⟨y134,["world","words","place","many"]⟩:Cl) 1):=dI (P:=l.prog) (w:=w) (base:=base) (k:=6) (fuel:=100) (y22.mt) B C_MOST_IN_TUPLE C_MOST_IN_ALL y135 (y62.mono (by decide)) (y74.mono (by decide)) (y64.mono (by decide)) y4;have y16:cH l.prog w K mg base (⟨y134,["world","words","place","many"]⟩:Cl) "read_try" 8 ["self","tries_left"] (gk (⟨y134,["world","words","place","many"]⟩:Cl) (zM (⟨y134,["world","words","place","many"]⟩:Cl) 1)):=dH (P:=l.prog) (w:=w) (base:=base) (k:=7) (y19.mt) B y135 (y62.mono (by decide)) (y64.mono (by decide)) y15;have y3:cH l.prog w K mg base (⟨y134,["world","words","place","many"]⟩:Cl) "read_deed" 9 ["self","tries_left"] (fV (⟨y134,["world","words","place","many"]⟩:Cl) (gk (⟨y134,["world","words","place","many"]⟩:Cl) (zM (⟨y134,["world","words","place","many"]⟩:Cl) 1))):=dA (P:=l.prog) (w:=w) (base:=base) (k:=8) (y8.mt) B y135 (Has.mono y101 (by decide)) (y74.mono (by decide)) y16 (y62.mono (by decide)) (y64.mono (by decide)) (y1.mono (by decide));have y9:cH l.prog w K mg base (⟨y134,["world","words","place","many"]⟩:Cl) "read_run" 10 ["self","tries_left"] (zM (⟨y134,["world","words","place","many"]⟩:Cl) 2):=dI (P:=l.prog) (w:=w) (base:=base) (k:=9) (fuel:=100) (y22.mt) B C_MOST_IN_TUPLE C_MOST_IN_ALL y135 (y62.mono (by decide)) (y74.mono (by decide)) (y64.mono (by decide)) y3;have y12:cH l.prog w K mg base (⟨y134,["world","words","place","many"]⟩:Cl) "read_try" 11 ["self","tries_left"] (gk (⟨y134,["world","words","place","many"]⟩:Cl) (zM (⟨y134,["world","words","place","many"]⟩:Cl) 2)):=dH (P:=l.prog) (w:=w) (base:=base) (k:=10) (y19.mt) B y135 (y62.mono (by decide)) (y64.mono (by decide)) y9;have y7:cH l.prog w K mg base (⟨y134,["world","words","place","many"]⟩:Cl) "read_deed" 12 ["self","tries_left"] (fV (⟨y134,["world","words","place","many"]⟩:Cl) (gk (⟨y134,["world","words","place","many"]⟩:Cl) (zM (⟨y134,["world","words","place","many"]⟩:Cl) 2))):=dA (P:=l.prog) (w:=w) (base:=base) (k:=11) (y8.mt) B y135 (Has.mono y101 (by decide)) (y74.mono (by decide)) y12 (y62.mono (by decide)) (y64.mono (by decide)) (y1.mono (by decide));have y13:cH l.prog w K mg base (⟨y134,["world","words","place","many"]⟩:Cl) "read_run" 13 ["self","tries_left"] (zM (⟨y134,["world","words","place","many"]⟩:Cl) 3):=dI (P:=l.prog) (w:=w) (base:=base) (k:=12) (fuel:=100) (y22.mt) B C_MOST_IN_TUPLE C_MOST_IN_ALL y135 (y62.mono (by decide)) (y74.mono (by decide)) (y64.mono (by decide)) y7;have y20:=m7 (P:=l.prog) (w:=w) (base:=base) (k:=13) (y32.mt) B C_MOST_TRIES y135 y13 (y62.mono (by decide));have y59:=rh (P:=l.prog) (w:=w) (base:=base) (k:=13) (y65.df X G) B y135 y20 (y73.mono (by decide));have y132:=IA (P:=l.prog) (w:=w) (base:=base) (k:=0) (y136.df X G) B;have y110:=zt (P:=l.prog) (w:=w) (base:=base) (k:=1) (y114.df X G) B y102 y132;have y129:=Ef (P:=l.prog) (w:=w) (base:=base) (k:=0) (y128.df X G) B;have y104:=wQ (P:=l.prog) (w:=w) (base:=base) (k:=0) (y133.mkd y105 X G) B y139;have y49:=qp (P:=l.prog) (w:=w) (base:=base) (k:=2) (y46.mt) B y139 y110 (Has.mono y132 (by decide));have y33:=oF (P:=l.prog) (w:=w) (base:=base) (k:=15) (y34.mt) B y139 y59;have y35:=oC (P:=l.prog) (w:=w) (base:=base) (k:=3) (y39.mt) B y139 (Has.mono y110 (by decide)) (Has.mono y132 (by decide)) y109 y113;have y50:=qo (P:=l.prog) (w:=w) (base:=base) (k:=16) (y42.mt) B C_MOST_DEALINGS y139 (Has.mono y132 (by decide)) y33;have y36:=oE (P:=l.prog) (w:=w) (base:=base) (k:=5) (y38.mt) B y139 (Has.mono y132 (by decide)) y131 (Has.mono y129 (by decide)) (y49.mono (by decide));have y57:=rz (P:=l.prog) (w:=w) (base:=base) (k:=6) (y58.mt) B C_MOST_IN_ROW y139 (Has.mono y132 (by decide)) y125 (Has.mono y129 (by decide)) (y49.mono (by decide));have y119:=zx (P:=l.prog) (w:=w) (base:=base) (k:=17) (y111.mt) B y139 (Has.mono y132 (by decide)) (y35.mono (by decide)) y50 (y36.mono (by decide)) (y57.mono (by decide));have y106:=wN (P:=l.prog) (w:=w) (base:=base) (k:=0) (y94.df X G) B;have y79:=ve (P:=l.prog) (w:=w) (base:=base) (k:=1) (y78.df X G) B y106;have y86:=vf (P:=l.prog) (w:=w) (base:=base) (k:=1) (y88.df X G) B y106;have y80:b8 l.prog w K mg base "_law_size" 1 ["dealing"] (zL 0):=lD (P:=l.prog) (w:=w) (base:=base) (k:=0) (y103.df X G) B ((y103.df X G (ps:=["dealing"])).no);have y91:b8 l.prog w K mg base "_law_size" 2 ["dealing"] (zL 1):=lD (P:=l.prog) (w:=w) (base:=base) (k:=1) (y103.df X G) B y80;have y82:b8 l.prog w K mg base "_law_size" 3 ["dealing"] (zL 2):=lD (P:=l.prog) (w:=w) (base:=base) (k:=2) (y103.df X G) B y91;have y27:=m6 (P:=l.prog) (w:=w) (base:=base) (k:=1) (y21.df X G) B y106;have y51:b8 l.prog w K mg base "_law_dealing" 3 ["pen","world","room","tries"] (vE 0):=fY (P:=l.prog) (w:=w) (base:=base) (k:=2) (y55.df X G) B (Has.mono y106 (by decide)) y27 ((y55.df X G (ps:=["pen","world","room","tries"])).no) ((y103.df X G (ps:=["dealing"])).no);have y48:b8 l.prog w K mg base "_law_dealing" 4 ["pen","world","room","tries"] (vE 1):=fY (P:=l.prog) (w:=w) (base:=base) (k:=3) (y55.df X G) B (Has.mono y106 (by decide)) (Has.mono y27 (by decide)) y51 (Has.mono y80 (by decide));have y45:b8 l.prog w K mg base "_law_dealing" 5 ["pen","world","room","tries"] (vE 2):=fY (P:=l.prog) (w:=w) (base:=base) (k:=4) (y55.df X G) B (Has.mono y106 (by decide)) (Has.mono y27 (by decide)) y48 (Has.mono y91 (by decide));have y43:b8 l.prog w K mg base "_law_dealing" 6 ["pen","world","room","tries"] (vE 3):=fY (P:=l.prog) (w:=w) (base:=base) (k:=5) (y55.df X G) B (Has.mono y106 (by decide)) (Has.mono y27 (by decide)) y45 (Has.mono y82 (by decide));have y72:b8 l.prog w K mg base "_law_words" 1 ["dealing"] (LwJ 0):=iM (P:=l.prog) (w:=w) (base:=base) (k:=0) (y76.df X G) B ((y76.df X G (ps:=["dealing"])).no);have y68:b8 l.prog w K mg base "_law_words" 2 ["dealing"] (LwJ 1):=iM (P:=l.prog) (w:=w) (base:=base) (k:=1) (y76.df X G) B y72;have y67:b8 l.prog w K mg base "_law_words" 3 ["dealing"] (LwJ 2):=iM (P:=l.prog) (w:=w) (base:=base) (k:=2) (y76.df X G) B y68;have y69:b8 l.prog w K mg base "_law_words" 4 ["dealing"] (LwJ 3):=iM (P:=l.prog) (w:=w) (base:=base) (k:=3) (y76.df X G) B y67;have X_check:=Hc (P:=l.prog) (w:=w) (base:=base) (k:=0) (y136.df X G) B V;have y44:=p7 (P:=l.prog) (w:=w) (base:=base) (k:=2) (y46.mt) B V y139 y110 (X_check.mono (by decide));have y41:=oy (P:=l.prog) (w:=w) (base:=base) (k:=5) (y38.mt) B V y139 (Has.mono y132 (by decide)) y131 (X_check.mono (by decide)) (y44.mono (by decide));have y53:=p6 (P:=l.prog) (w:=w) (base:=base) (k:=1) (y42.mt) B V C_MOST_DEALINGS y139 X_check;have y117:=za (P:=l.prog) (w:=w) (base:=base) (k:=17) (y111.mt) B V y139 (Has.mono y132 (by decide)) (y35.mono (by decide)) y50 (X_check.mono (by decide)) (y53.mono (by decide)) (y41.mono (by decide));have y93:=wO (P:=l.prog) (w:=w) (base:=base) (k:=18) (y96.df X G) B V y139 y119 y117;have y99:=wM (P:=l.prog) (w:=w) (base:=base) (k:=19) (y97.df X G) B y93;have y63:=rl (P:=l.prog) (w:=w) (base:=base) (k:=0) (y61.df X G) B;have y40:=oB (P:=l.prog) (w:=w) (base:=base) (k:=1) (y37.df X G) B y63;have y17:=mz (P:=l.prog) (w:=w) (base:=base) (k:=20) (y11.df X G) B (Has.mono y106 (by decide)) (Has.mono y131 (by decide)) y99 (Has.mono y63 (by decide)) (Has.mono y125 (by decide));exact Qk (P:=l.prog) (w:=w) (base:=base) (k:=20) F_law B y139 (Has.mono Gp (by decide)) (Has.mono y106 (by decide)) (Has.mono y79 (by decide)) (Has.mono y86 (by decide)) (Has.mono y99 (by decide)) (Has.mono y40 (by decide)) (Has.mono y93 (by decide)) (Has.mono y43 (by decide)) (Has.mono y69 (by decide)) y17 (y104.mono (by decide)) fun ns a c ha hc=>Mm (cE:=⟨y140,_⟩) (cD:=⟨y138,_⟩) (cR:=⟨y134,_⟩) rfl rfl rfl ns a c ha hc
theorem RY{l:PySem.W.OpenLaw}{q:ZS}{loose:List Str}{XP:(Str->Option Z7)->Heap->Prop}{YP:Zg->Heap->Prop}{d:DefRec}{K:Params->Z6}(hn:l.most=some 63)(hdf:d.params.defaults=[])
  (hY:∀(w:Zg) (h:Heap),YP w h->(K w.params).In h)
  (F:∀(w:Zg) (mg:Str->Option Z7) (fa:Addr) (h:Heap),(K w.params).In h->h.Ns mainGlobals mg->mg d.name=some (.ref fa)->
   ∃fd:X5,(∀(s:ZZ) (u:Z7),BindsTo s fd ⟨[u],[]⟩ [("script",u)])/\∀base:Heap,(K w.params).In base->base.Ns mainGlobals mg->lU l.prog w (K w.params) mg base CX0 22 fa fd ["script"] (C8 (K w.params))) :
  PySem.W.WalkO q loose XP YP l.row.toRowW d [] (fun f vs=>PySem.call f vs):=
 L2.GB (n:=63) (k:=22) (x:="script") (CX:=fun _=>CX0) (sp:=fun w=>C8 (K w.params)) hn (by decide) hdf ⟨rfl,by decide,by decide,rfl⟩ hY F (fun _ _ a ns hl _ hS=>⟨a,ns,rfl,hS,hl,fun _=>rfl⟩) fun _ _ _ _ _ z=>z
end OL
namespace PySem.W.Fast
def tw3911529257133516794:=0
def tw13890455048919245943:=0
def tw8054618765455257040:=0
def tw11833984879449132748:=0
def tw13441717983732726221:=0
def tw16357259170941641022:=0
def tw8165689761791045145:=0
def tw12612013722612275095:=0
def tw7742756905321817401:=0
def tw8579742092533056426:=0
def tw9781755831907697743:=0
def tw10209801250552678679:=0
def tw16074340693131951239:=0
def tw8842376580958432686:=0
def tw15995070443041636190:=0
def tw6881604526869855805:=0
def tw6404688418892968992:=0
def tw9997458157250658155:=0
def tw12798283760702746342:=0
def tw2133841991133450432:=0
def tw10953709687389460880:=0
def tw673261598027792027:=0
def tw1629925350751156823:=0
def tw9791873025110132921:=0
def tw10368736014867579921:=0
def tw9294591339431749896:=0
def tw5172748104984599837:=0
def tw18366830350106763151:=0
def tw13420273570995246330:=0
def tw17557370656348759879:=0
def tw17367696675773698521:=0
def tw8692293626703693950:=0
def tw12466614522387289413:=0
def tw1113104681805418947:=0
def tw1554735540950028739:=0
def tw11154131129299296623:=0
def tw14801401334937389773:=0
def tw14757419905001045677:=0
def tw12920684020734666140:=0
def tw18336361467239731009:=0
def tw12596666666299016067:=0
def tw3105190114434268932:=0
def tw4514592187722365630:=0
def tw17783178804604501783:=0
def tw12534705081066937198:=0
def tw5078531766751658825:=0
def tw164578619244354883:=0
def tw13617865026053232953:=0
def tw8182958699976493300:=0
def tw869141443999622116:=0
def tw13516373891808454399:=0
def tw9401720901443637358:=0
def tw4920597197997838502:=0
def tw2943641479491758309:=0
def tw6207362174412239402:=0
def tw17976663729584272544:=0
def tw16728653183520777662:=0
def tw7015150821866862998:=0
def tw17413687847779946255:=0
def tw13291107159602721486:=0
def tw2847082273449627515:=0
def tw4700058872982064423:=0
def tw16322643285213866837:=0
def tw8946940428676060191:=0
def tw12554454457936422524:=0
def tw14660634745647457332:=0
def tw11894562012576350615:=0
def tw7416138903856705583:=0
def tw17188815999709891098:=0
def tw9090114551062638374:=0
def tw15996639776643731710:=0
def tw9075671888191726845:=0
def tw6382294391030742877:=0
def tw12641577407771858223:=0
def tw14624660868351828259:=0
def tw7388904519263832212:=0
def tw3161147608783303075:=0
def tw11637338878528975265:=0
def tw1516330088150881327:=0
def tw1531426901402164330:=0
def tw4949861214723281404:=0
def tw16581631769212717610:=0
def tw6698278696215672603:=0
def tw12143206539109349777:=0
def tw12266836098109443394:=0
def tw12234892183577274571:=0
def tw601716323110953045:=0
def tw4132692257196214518:=0
def tw14248860461186320783:=0
def tw16744262598481560401:=0
def tw16703256417691987738:=0
def tw2260877829148193358:=0
def tw1560518160764571760:=0
def tw10916227720885893660:=0
def tw17236188205731076610:=0
def tw16089521345114873309:=0
def tw11153292359519765432:=0
def tw4464417603383982920:=0
def tw3889459053539954681:=0
def tw4823361054510192600:=0
def tw3642249977216843167:=0
def tw9604841904204490241:=0
def tw3252986139559279648:=0
def tw15839837338832687061:=0
def tw5806041384695037667:=0
def tw2378679317347264643:=0
def tw562826916202020355:=0
def tw4200004009941641871:=0
def tw5564504946097636272:=0
def tw5474593264867573531:=0
def tw17272589456248178422:=0
def tw9867274385890268530:=0
def tw14504302024135315459:=0
def tw1862028271325745615:=0
def tw16756228526391363463:=0
def tw8890682265572166570:=0
def tw13916079518325469328:=0
def tw3122752875569375011:=0
def tw15780037498475872514:=0
def tw11990625492607542312:=0
def tw4032700698448510833:=0
def tw10480544906495335741:=0
def tw16692320197750538875:=0
def tw11128253060659500473:=0
def tw3544015970475866460:=0
def tw4002551362890233376:=0
def tw17285233101771885681:=0
def tw375030351952576108:=0
def tw18038742659429666979:=0
def tw8852077590752195062:=0
def tw9771271886017483693:=0
def tw11215677383422204817:=0
def tw4348080752029822548:=0
def tw17790615980542766079:=0
def tw7494264082148667085:=0
def tw18209319690231841089:=0
def tw15390008362092358118:=0
def tw10914493662996839181:=0
def tw8833327914580633431:=0
def tw1792524694825061865:=0
def tw8537025321459212216:=0
def tw8502069106072301775:=0
def tw2778425500824076190:=0
def tw8641331583355049818:=0
def tw9687170576140622808:=0
def tw13505283498407415252:=0
def tw5761249201632057889:=0
def tw17553688574792433556:=0
def tw3205648197881104931:=0
def tw2309149717574041649:=0
def tw16352180158909820099:=0
def tw2972356448495987926:=0
def tw8481467795773238337:=0
def tw16207760419636081798:=0
def tw11159698068804162097:=0
def tw9854676682873412518:=0
def tw12985787151826666420:=0
def tw17533384278098008992:=0
def tw10862986914851713381:=0
def tw10188562390405405685:=0
def tw12849731956775449404:=0
def tw874176745454514839:=0
def tw8182541538549134613:=0
def tw62180444504556168:=0
def tw659809491968651512:=0
def tw5061923833149577380:=0
def tw13098462322864324359:=0
def tw6628471317815809080:=0
def tw15620431293012893081:=0
def tw10063110853183213912:=0
def tw10338095994485109952:=0
def tw7062930551242876794:=0
def tw8180094267943318901:=0
def tw101110263949890421:=0
def tw14438543848208990322:=0
def tw3438870585080680044:=0
def tw6109800816817933336:=0
def tw14047103492230203456:=0
def tw238655299197981581:=0
def tw18237773491917177962:=0
def tw6688544470229519167:=0
def tw6949898363879856356:=0
def tw9587184921307401093:=0
def tw11895733249259011552:=0
def tw16281431948077105744:=0
def tw15637870677958371244:=0
def tw1638129474533275514:=0
def tw9343041422783927377:=0
def tw6366737842300036533:=0
def tw5505795387666759210:=0
def tw167518966451517745:=0
def tw8181277278524819493:=0
def tw10829292681873144875:=0
def tw17492880893192587496:=0
def tw6461066504873850382:=0
def tw15132236958992906536:=0
def tw1910497624740737361:=0
def tw13045784066596861510:=0
def tw3163667023217763687:=0
def tw7305387995622793860:=0
def tw4314608023431047661:=0
def tw2001870151153638866:=0
def tw16656767445101394880:=0
def tw12604476424969223536:=0
def tw5102106104890869994:=0
def tw8010680333393949114:=0
def tw3565064335223983928:=0
def tw5196397228670336420:=0
def tw255022193275708277:=0
def tw14212168543704935799:=0
def tw3961089299351553202:=0
def tw15182805806598379587:=0
def tw10929862936654715265:=0
def tw4035726423519652884:=0
def tw5517466574579843989:=0
def tw18221521595509105732:=0
def tw11647156641625730156:=0
def tw18218826120313678143:=0
def tw17639665293344404457:=0
def tw10168164993899865767:=0
def tw2684215221613608090:=0
def tw913184512856787625:=0
def tw10444811651858315257:=0
def tw13212835110661233701:=0
def tw15094112454135946055:=0
def tw6402380845123859141:=0
def tw11012591232060910855:=0
def tw12948224270368933038:=0
def tw1415709882427714642:=0
def tw9798031979987333487:=0
def tw5830434012623427833:=0
def tw2528842092908619689:=0
def tw3300714727513893604:=0
def tw14462474696067482275:=0
def tw11801883634566143145:=0
def tw18231044974222558749:=0
def tw7988288474021024077:=0
def tw15534231912713151972:=0
def tw7312809051610745757:=0
def tw9902063958046693976:=0
def tw17186881508684613799:=0
def tw10783546338183422445:=0
def tw5092305884210717134:=0
def tw4805543297721722606:=0
def tw14774717049501535579:=0
def tw10246329614943361541:=0
def tw7919587320581430284:=0
def tw12692004628839967151:=0
def tw8850525142039062098:=0
def tw9599278538186844905:=0
def tw3809276173946875568:=0
def tw12930069950308720227:=0
def tw18080027031528756218:=0
def tw17597860593209493077:=0
def tw14886311516811302664:=0
def tw10996671187765845775:=0
def tw638972175944946290:=0
def tw3075588908992698152:=0
def tw14576164209147352329:=0
def tw15759648842839962299:=0
def tw1024690186946346078:=0
def tw16329803358658668380:=0
def tw12679209362275651613:=0
def tw5867066133779238488:=0
def tw16123134958823660999:=0
def tw2760878904585434473:=0
def tw16034610205008074891:=0
def tw17457663500019358548:=0
def tw4915786333497106617:=0
def tw7521382834228405555:=0
def tw14520785166535526631:=0
def tw303763317250685951:=0
def tw2553560068503116741:=0
def tw14127873818227612645:=0
def tw12961963792490975806:=0
def tw11690394706527616930:=0
def tw5580656358437295171:=0
def tw6761346674556998129:=0
def tw6293783027620479950:=0
def tw5054807787734452126:=0
def tw7051986849919622113:=0
def tw4856262449926501944:=0
def tw2963162332466236419:=0
def tw617471932753474905:=0
def tw13410274637229665351:=0
def tw14645698264228316471:=0
def tw556481606326841355:=0
def tw791699701325178047:=0
def tw4849945956618268070:=0
def tw10440253533358756926:=0
def tw8208074735544885244:=0
def tw6849031503926947931:=0
def tw5546345081113631560:=0
def tw13079446761224720765:=0
def tw16536588480974024861:=0
def tw2716718043886727048:=0
def tw8571111206707344335:=0
def tw15120993972260374929:=0
def tw13718677726415451528:=0
def tw18416463528328624700:=0
def tw7521938911129399296:=0
def tw12528830071001306548:=0
def tw609990425043859417:=0
def tw8400243051679872063:=0
def tw10913547788870427792:=0
def tw8175097270742932163:=0
def tw3967953977576329619:=0
def tw3074530819322578711:=0
def tw7583328044735897950:=0
def tw3355855300727656689:=0
def tw904876460546585965:=0
def tw12686529556745401176:=0
def tw14499534559158801460:=0
def tw4837200643694616038:=0
def tw17342064520208610064:=0
def tw6046044436884956202:=0
def tw210986492937242313:=0
def tw11761930258645144462:=0
def tw9209145157830621430:=0
def tw3257913684215529636:=0
def tw3794235002760707373:=0
def tw4425073165538480759:=0
def tw2948141930304522818:=0
def tw1596226468467699363:=0
def tw17606104759053356486:=0
def tw10687220183577684437:=0
def tw14334554041007933787:=0
def tw7161342834784889016:=0
def tw10313406938022227387:=0
def tw10198446071602124658:=0
def tw6151179516852645670:=0
def tw16125537432528869623:=0
def tw3522633077498597910:=0
def tw16250457327666992726:=0
def tw13991327019153783628:=0
def tw6740257714472115759:=0
def tw5152791674936448643:=0
def tw3734778808990554414:=0
def tw15942055842704063686:=0
def tw7052647234835001164:=0
def tw4108469071391855439:=0
def tw4744367462327895389:=0
def tw13403114598299824141:=0
def tw5610228846343562431:=0
def tw8776070529572296287:=0
def tw7514151080664280553:=0
def tw4728283120686247772:=0
def tw13446329842915464364:=0
def tw2451874873014237251:=0
def tw3143644767683474844:=0
def tw2758350083704514127:=0
def tw11318618821956350630:=0
def tw7710993473062934267:=0
def tw1009033285107930255:=0
def tw5409585016817476697:=0
def tw12669322730225207359:=0
def tw4079402065175808762:=0
def tw10689131969687827837:=0
def tw6745198188646037207:=0
def tw18019745737611749709:=0
def tw13591406947380155124:=0
def tw15419290298813949394:=0
def tw14267058536764391089:=0
def tw10465822743414113714:=0
def tw1573797993516198426:=0
def tw5762900719069406153:=0
def tw11117560908251686294:=0
def tw2174677961229673303:=0
def tw12934706806969276442:=0
def tw1699975872134198499:=0
def tw5976076455674189288:=0
def tw2812384328158491406:=0
def tw2931668462278056943:=0
def tw9007400873117048855:=0
def tw4011489284767957736:=0
def tw9267745507886282132:=0
def tw6134019958667357400:=0
def tw14056685267738170533:=0
def tw10827449267978250340:=0
def tw5804670717045794849:=0
def tw2349218341691749260:=0
def tw2956854967291600842:=0
def tw775655739705173643:=0
def tw16955536222115063615:=0
def tw5942986542476544007:=0
def tw15095920846584474115:=0
def tw6706790153193234621:=0
def tw2480668959280863549:=0
def tw9710679792413218982:=0
def tw5834799529254702462:=0
def tw7363467547812407796:=0
def tw7691265976392584430:=0
def tw8527924793541269142:=0
def tw17733036010508078275:=0
def tw12608106764589159589:=0
def tw13682461286893305553:=0
def tw12054682515246066011:=0
def tw16142900368060828962:=0
def tw6672319567659443742:=0
def tw11922262884610248650:=0
def tw16746392249408675037:=0
def tw14242720491917505142:=0
def tw12862960462576581965:=0
def tw4086756542057107669:=0
def tw487682013992801906:=0
def tw4564835690357002516:=0
def tw2385366594802182239:=0
def tw12341527221782236035:=0
def tw18316122424103494440:=0
def tw14132512967615827629:=0
def tw8915899136487123156:=0
def tw1939512539261130024:=0
def tw2119734754898975278:=0
def tw18324345384141126262:=0
def tw9895598100868982314:=0
def tw349139493393993946:=0
def tw8427104180524955879:=0
def tw960616325250315156:=0
def tw18440305565388761585:=0
def tw17151980192712776852:=0
def tw11378417721179462818:=0
def tw11768595268303131026:=0
def tw13413201754643839439:=0
def tw7285302189856267063:=0
def tw8228198094796066858:=0
def tw15019238563882814544:=0
def tw2971640859195445922:=0
def tw2380260698396407205:=0
def tw12352058186766019841:=0
def tw2067091184171663279:=0
def tw413884587855800238:=0
def tw14163737000624761016:=0
def tw16420142253270063531:=0
def tw13645393834297624166:=0
def tw14878805543832712570:=0
def tw5711336695200644408:=0
def tw15499780574567332404:=0
def tw15433853207987526706:=0
def tw3563996635812900591:=0
def tw8595267184667460187:=0
def tw8083513027773338987:=0
def tw7176791921972937888:=0
def tw6228882893218694177:=0
def tw9080957463962352314:=0
def tw17670586944938841034:=0
def tw10971103984049501845:=0
def tw7536983065242320509:=0
def tw10789068649729618682:=0
def tw11321197372617427746:=0
def tw6171988690123339790:=0
def tw14992337648807640555:=0
def tw8769628086766456238:=0
def tw7213221890886605286:=0
def tw17264725850645959708:=0
def tw7758893919082016815:=0
def tw9698358433525436375:=0
def tw13521587869548132684:=0
def tw705011089880084058:=0
def tw14913870456801104281:=0
def tw7265281859865061352:=0
def tw11699583990329478106:=0
def tw14438282954281539541:=0
def tw10100094319137841632:=0
def tw1846989681689919791:=0
def tw8279078712988110998:=0
def tw11515554726352736737:=0
def tw8456166585678425624:=0
def tw15565262720342903454:=0
def tw15173920925232264760:=0
def tw7407278755166197272:=0
def tw1290278100287331416:=0
def tw4728968747601566650:=0
def tw17043389807548807337:=0
def tw12639043639859482789:=0
def tw5586712968376378770:=0
def tw12282441187437903880:=0
def tw267958682696467942:=0
def tw12641634234237508915:=0
def tw16546536224871537374:=0
def tw12867353252444293188:=0
def tw4570984915999784943:=0
def tw353833105026623832:=0
def tw15413284724373757029:=0
def tw11382923068077220031:=0
def tw868709829581950256:=0
def tw8153307863298113318:=0
def tw6910207668189270850:=0
def tw5054040397967037598:=0
def tw7377886117542910378:=0
def tw6829410101357651230:=0
def tw7982781504297950326:=0
def tw10700271094725895867:=0
def tw13179066273563799647:=0
def tw14509033659011455246:=0
def tw11667154124434390480:=0
def tw7631162219736611649:=0
def tw8621119679322547671:=0
def tw3169443257520717911:=0
def tw17378273165621431761:=0
def tw10213883546002423685:=0
def tw4747971001098845673:=0
def tw8855790585251641668:=0
def tw12171066578100103766:=0
def tw16162979578899332363:=0
def tw8025673267300659144:=0
def tw16342299394342211738:=0
def tw11915970040577755615:=0
def tw17871582846762190490:=0
def tw14925610523045339522:=0
def tw6807997164679154383:=0
def tw17105270584411704009:=0
def tw6752692459072537305:=0
def tw18011827839915596029:=0
def tw10927291914726112559:=0
def tw9536741527394256762:=0
def tw2224779681904164977:=0
def tw9229186203726541589:=0
def tw8870311865351505472:=0
def tw6745589039206784124:=0
def tw3412354788673940342:=0
def tw8998983330210346674:=0
def tw6039964191271188397:=0
def tw7354402885810551895:=0
def tw5087059487920127630:=0
def tw7034868373222278525:=0
def tw5915389008595702555:=0
def tw6721011361514660863:=0
def tw4479342217949815980:=0
def tw13677642656428436686:=0
def tw13598955755313753418:=0
def tw10117121665272904943:=0
def tw15493042434893413316:=0
def tw4029060564245762619:=0
def tw12577394371358919438:=0
def tw5701710388568415004:=0
def tw12996005198273270449:=0
def tw3193345924180118588:=0
def tw10515953054468051788:=0
def tw3822562290347140061:=0
def tw4950634372071407410:=0
def tw2372144795213839540:=0
def tw4787701765105891235:=0
def tw16266846304918283447:=0
def tw18389022804738885908:=0
def tw11029939060082341948:=0
def tw18266184937890775967:=0
def tw2250364109269885249:=0
def tw1305821899411874948:=0
def tw6774884846655527746:=0
def tw6345867309962956054:=0
def tw14725525747872351304:=0
def tw4789522548742591493:=0
def tw5566133522200925947:=0
def tw11795525377432612213:=0
def tw6067865812104611581:=0
def tw10808143547723662514:=0
def tw3018133821365230583:=0
def tw14187195492650510923:=0
def tw3571400236650008152:=0
def tw3950690528214343518:=0
def tw1793387224862254492:=0
def tw3050499913062942981:=0
def tw15393132743210054067:=0
def tw3848763721203934383:=0
def tw14686493634469032103:=0
def tw4396202475980929835:=0
def tw10454002474096081668:=0
def tw17742631162741337647:=0
def tw5847090163010704287:=0
def tw11737479131052941650:=0
def tw5106665669683323476:=0
def tw9949907334135344642:=0
def tw843401038944112077:=0
def tw14845392610080923426:=0
def tw3086931329654088518:=0
def tw931177792766170708:=0
def tw12965868032766843744:=0
def tw4143165372201025289:=0
def tw2033807702990869908:=0
def tw17522431794520157876:=0
def tw12541824255784897760:=0
def tw18140261103914054763:=0
def tw3798587809759104458:=0
def tw17220165678723338262:=0
def tw7023506582740191645:=0
def tw5127381172832543703:=0
def tw11503376467315477470:=0
def tw17853899994257842540:=0
def tw4998147767728962017:=0
def tw4351393882154800954:=0
def tw17980391274420956339:=0
def tw8716733097626983722:=0
def tw6028012642550738516:=0
def tw3968472041990778154:=0
def tw8926294258453760739:=0
def tw2303982998953078211:=0
def tw13901087831553403673:=0
def tw2755352227012831542:=0
def tw13301217065046662258:=0
def tw4840348137089543141:=0
def tw15176909232272476048:=0
def tw13291177805868603537:=0
def tw18185124254377627397:=0
def tw15406686147756618283:=0
def tw351346670190834728:=0
def tw4805019336525093504:=0
def tw15435543298766309333:=0
def tw3729207938760783710:=0
def tw13139497127880833811:=0
def tw3693652954989439946:=0
def tw1564214002238369511:=0
def tw13835562816658870789:=0
def tw158278814992978644:=0
def tw8352491997322037565:=0
def tw9186233318344907705:=0
def tw11832632500592611813:=0
def tw7739576956848324982:=0
def tw5126327365197936547:=0
def tw4344656181862523078:=0
def tw16930114699492669722:=0
def tw6858383627759113099:=0
def tw13824986936383884118:=0
def tw2924874755222388394:=0
def tw3961360074516510599:=0
def tw8857932204509815155:=0
def tw11816372306824873159:=0
def tw8277979788522426908:=0
def tw17845448541701078878:=0
def tw9929015348199639937:=0
def tw15529737400188253877:=0
def tw8943020675739719951:=0
def tw10249556329141879513:=0
def tw11233167921426464168:=0
def tw5420923079992435084:=0
def tw9051917513343871136:=0
def tw771204443750908623:=0
def tw5344946224428555116:=0
end PySem.W.Fast
open PySem PySem.W PyProof.Rows
open OP in
set_option maxRecDepth 100000 in
set_option maxHeartbeats 0 in
theorem PySem.Challenge.cw_oneglance_k62_desk_keeps_dealings_holds : PySem.Challenge.rw_oneglance_k62_desk_keeps_dealings.Holds := by
 w_on; o_law; k_head; (case hw => w_witness2)
 k_fill
 refine OL.RY (l := PySem.Challenge.rw_oneglance_k62_desk_keeps_dealings) rfl rfl (fun w h Y => PySem.W.km_in_of Y) ?F;case F =>
  intro w mg fa h KX G hmg;refine' OL.Na KX G hmg ?ds ?y127 ?y120 ?y133 ?g1 ?g2 ?g3 ?g4 ?h4 ?g5 ?h5 ?g6 ?g7 ?g8 ?g9 ?g10 ?g11 ?g12 ?zs ?xk
  (case ds => (repeat (refine' ⟨Sk ?a ?l ?c ?k, ?_⟩; (case a => k_is); (case l => k_is); (case c => k_is); (case k => k_is))); exact trivial)
  (case y127 => (refine' ⟨?a, ?b, ?c, ?d, ?e, ?f, ?g, ?n, ?m⟩; (case a => k_is); (case b => k_is); (case c => k_is); (case d => k_is); (case e => k_is); (case f => k_is); (case g => k_is); (case n => (repeat (refine' ⟨?a, ?_⟩; (case a => k_is))); exact trivial); (case m => (repeat (refine' ⟨PX ?a ?i ?l ?c ?k, ?_⟩; (case a => k_is); (case i => k_is); (case l => k_is); (case c => k_is); (case k => k_is))); exact trivial)))
  (case y120 => (refine' ⟨?a, ?b, ?c, ?d, ?e, ?f, ?g, ?n, ?m⟩; (case a => k_is); (case b => k_is); (case c => k_is); (case d => k_is); (case e => k_is); (case f => k_is); (case g => k_is); (case n => (repeat (refine' ⟨?a, ?_⟩; (case a => k_is))); exact trivial); (case m => (repeat (refine' ⟨PX ?a ?i ?l ?c ?k, ?_⟩; (case a => k_is); (case i => k_is); (case l => k_is); (case c => k_is); (case k => k_is))); exact trivial)))
  (case y133 => (refine' ⟨?a, ?b, ?c, ?d, ?e, ?f, ?g, ?n, ?m⟩; (case a => k_is); (case b => k_is); (case c => k_is); (case d => k_is); (case e => k_is); (case f => k_is); (case g => k_is); (case n => (repeat (refine' ⟨?a, ?_⟩; (case a => k_is))); exact trivial); (case m => (repeat (refine' ⟨PX ?a ?i ?l ?c ?k, ?_⟩; (case a => k_is); (case i => k_is); (case l => k_is); (case c => k_is); (case k => k_is))); exact trivial)))
  (case g1 => k_is)
  (case g2 => k_is)
  (case g3 => k_is)
  (case g4 => k_is)
  (case h4 => k_is)
  (case g5 => k_is)
  (case h5 => k_is)
  (case g6 => k_is)
  (case g7 => k_is)
  (case g8 => k_is)
  (case g9 => k_is)
  (case g10 => k_is)
  (case g11 => k_is)
  (case g12 => k_is)
  (case zs => (repeat (refine' ⟨?a, ?_⟩; (case a => k_is))); exact trivial)
  (case xk => (refine' ⟨?ga, ?gg, ?gt, ?gm, ?gn, ?gs, ?gv, ?xa, ?ea, ?aa, ?va, ?ot, ?om, ?on, ?os⟩; (case ga => k_is); (case gg => k_is); (case gt => k_is); (case gm => k_is); (case gn => k_is); (case gs => k_is); (case gv => k_is); (case xa => (refine' ⟨?a, ?b, ?c, ?d, ?e, ?f, ?g, ?h, ?i, ?j⟩; (case a => k_is); (case b => k_is); (case c => k_is); (case d => k_is); (case e => k_is); (case f => k_is); (case g => k_is); (case h => k_is); (case i => kernel_rfl); (case j => kernel_rfl))); (case ea => kernel_rfl); (case aa => kernel_rfl); (case va => kernel_rfl); (case ot => kernel_rfl); (case om => kernel_rfl); (case on => kernel_rfl); (case os => kernel_rfl)))
