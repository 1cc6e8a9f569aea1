import PyProof.Rows.All
import Wide.All
import OpenK.AllK
import Wide.FinOn
import Lean
import PyProof.EqAt
import PyProof.EqKinds
import PyProof.TupleCall
import PySem.Challenge.RW_oneglance_k33_keeper_refusals
local macro_rules|`(tactic|let⟨$a,*⟩:=$e)=>do
 let f s:=match s with|.node i `Lean.Parser.Term.anonymousCtor #[a,b,c]=>.node i `Lean.Parser.Tactic.rcasesPat.tuple #[a,.node i `null (b.getArgs.mapIdx λk x=>if k%2==1 then x else .node i `Lean.Parser.Tactic.rcasesPatLo #[.node i `Lean.Parser.Tactic.rcasesPatMed #[.node i `null #[x]],.node i `null #[]]),c]|.ident i _ _ _=>.node i `Lean.Parser.Tactic.rcasesPat.one #[s]|.node i `Lean.Parser.Term.hole a=>.node i `Lean.Parser.Tactic.rcasesPat.ignore a|s=>s
 let p:Lean.TSyntax `rcasesPat:=⟨(←`(⟨$a,*⟩)).raw.rewriteBottomUp f⟩
 `(tactic|obtain $p:rcasesPat:=$e)
local macro_rules|`(‹$t›)=>`(by simpa using $t)
local macro_rules|`(tactic|trivial)=>`(tactic|exact Or.inl rfl)
local macro_rules|`(tactic|trivial)=>`(tactic|exact Or.inr rfl)
local macro_rules|`(⋯)=>`(by omega)
local macro_rules|`(∅)=>`(by decide +kernel)
local macro_rules|`(nofun)=>`(by simp)
set_option maxHeartbeats 0
set_option Elab.async false
set_option linter.all false
set_option maxRecDepth 100000
set_option bootstrap.genMatcherCode false
set_option genSizeOf false
set_option compiler.extract_closed false
noncomputable section
open PySem.F renaming plainAttrs_list→YJ, args_tuple_add_2→YK, entry_tuple_add→YL
open PySem.PyData renaming canLayAll0→YW, depthAll→YX, canLay0→YY
open PySem.Obj renaming mapSeq→YZ
open Option.some renaming inj→Yc
open Option renaming join_some→YM, bind_eq_some_iff→Q0, bind_some→Q9, isSome_some→ZI, map_eq_some_iff→Zq, isSome_iff_exists→Zz, bind_none→Zg, map_some→Zi, isSome_none→XU
open PySem.W renaming findIn→Y0, emptyDict→YA, fnOf→YB, keepIn→YC, instObj→YD, codeIn→YE, isFn→YF, plainGet→YG, Frag→Q1
open PySem renaming boot_len→YH, mem_of_lookup→YI, wpAny_bind→Q2, Value→Q3, Shared→Q4, starEach→Q6, wpAny_pure→QJ, sizeLine→QU, Expr→QF, Program→Z7, model→ZQ, World→ZR, Around→ZE, Stmt→ZC, wpAny_mono→ZN, backTo→ZL, bootBuiltins→ZS, swapsWith→Zc, FuncData→Zo, Scope→XR
open PySem.Heap renaming get?_push_of_some→Q5, lt_size→QY, get?_push_size→Z0, get?_update_other→Zu, get?_update_self→XC, size_push→XN
open List renaming set_cons_zero→YN, ext_getElem?→YT, length_replicate→YU, getElem_mem→YV, length_pos_iff→Ya, mem_iff_getElem→Yb, getElem?_eq_getElem→Q7, getElem?_eq_some_iff→Q8, mem_cons_of_mem→QZ, length_map→QX, length_cons→QK, replicate→QR, mem_cons_self→QH, size_toArray→QM, map_cons→QL, length_append→Z6, mem_cons→Z8, mem_append_right→Z9, mem_singleton→ZX, append_assoc→ZJ, getD_eq_getElem?_getD→ZV, getElem?_set_ne→ZK, getElem?_map→ZH, map_map→ZD, mem_append→ZF, mem_map→ZT, range→ZO, length_set→Zx, find?_cons→Zj, append_nil→Zv, getElem?_append_right→Zk, getElem?_append_left→Zy, nil_append→Zw, getElem?_set→Zr, map_congr_left→Ze, map_nil→Za, any_cons→Zn, length_eq_zero_iff→Zp, cons_append→Zt, lookup_cons→Zs, mem_range→X5, getElem?_replicate→X7, getElem?_cons_succ→X8, nodup_cons→XQ, replicate_succ→XZ, getElem?_set_self→XX, not_mem_nil→XY, any_eq_true→XW, getElem?_eq_none→XB, set_append_left→XE, length_nil→XF, flatten_cons→XM
open Nat renaming zero_add→YR, le_of_lt→YS, le_refl→QQ, lt_of_lt_of_le→QN, ne_of_lt→ZZ, le_of_ble_eq_true→ZG, le_trans→ZP, zero_le→Zh, lt_irrefl→Zm, ne_of_gt→XH
open Bool renaming true_and→YO, false_and→YQ, false_ne_true→QV, false_eq_true→ZU, eq_iff_iff→Zf, and_eq_true→Zl, not_true→X0, not_eq_true'→X9, false_or→XA, not_false→XT
open Array renaming length_toList→ZY, getElem?_eq_getElem→Zb, getD_eq_getD_getElem?→XJ, getElem?_toList→XG, getElem?_eq_some_iff→XI
open Int renaming toNat_natCast→XD
theorem XO{c:Prop}{_:Decidable c}(h:c){α}{t e:α}:ite c t e=t:=if_pos h
theorem XS{c:Prop}{_:Decidable c}(h:¬c){α}{t e:α}:ite c t e=e:=if_neg h
theorem Xq{p:Prop}[Decidable p](h:¬p):decide p=false:=decide_eq_false h
theorem Xz{p:Prop}[Decidable p](h:p):decide p=true:=decide_eq_true h
namespace L2
open PySem PySem.Spec PyProof.Rows
abbrev Key:=Sum Int Str
def pZ:Key->Q3->Bool
 |.inl k,v=>Value.isInt k v
 |.inr x,v=>Value.isStrOf x v
def Qx(w:ZR):Key->Int
 |.inl k=>hashInt k
 |.inr x=>hashStr w x
theorem br:∀{k:Key} {v:Q3},pZ k v=true->(∃i t,k=Sum.inl i/\v=Value.int i t)\/(∃x t,k=Sum.inr x/\v=Value.str x t)
 |.inl i,v,h=>by
  let⟨t,e⟩:=Value.isInt_shape (k:=i) (v:=v) h;exact .inl ⟨i,t,rfl,e⟩
 |.inr x,v,h=>by
  let⟨t,e⟩:=Value.isStrOf_shape (x:=x) (v:=v) h;exact .inr ⟨x,t,rfl,e⟩
def Ak(i:Int)(t:Tok):pZ (.inl i) (.int i t)=true:=by simp[pZ,Value.isInt]
def Aj(x:Str)(t:Tok):pZ (.inr x) (.str x t)=true:=by simp[pZ,Value.isStrOf]
theorem K0(a b:Int):decide ((Sum.inl a:Key)=Sum.inl b)=(a == b):=by
 by_cases e:a=b;subst e;simp;have h:¬(Sum.inl a:Key)=Sum.inl b:=λq=>e (Sum.inl.inj q);rw[Xq h];exact(beq_eq_false_iff_ne.mpr e).symm
theorem KW(a b:Str):decide ((Sum.inr a:Key)=Sum.inr b)=decide (a=b):=by
 by_cases e:a=b;subst e;simp;have h:¬(Sum.inr a:Key)=Sum.inr b:=λq=>e (Sum.inr.inj q);rw[Xq h,Xq e]
def KZ(a:Int)(b:Str):decide ((Sum.inl a:Key)=Sum.inr b)=false:=Xq (λq=>nomatch q)
def KY(a:Str)(b:Int):decide ((Sum.inr a:Key)=Sum.inl b)=false:=Xq (λq=>nomatch q)
def bp(prog:Z7)(w:ZR):PySem.KeyKind prog w Key where
 is:=pZ
 hash:=Qx w
 inj:=λv a b ha hb=>by
  rcases br ha with⟨i,t,rfl,rfl⟩|⟨x,t,rfl,rfl⟩;rcases br hb with⟨j,u,rfl,e⟩|⟨y,u,rfl,e⟩;injection e with e1 _;rw[e1];exact nomatch e;rcases br hb with⟨j,u,rfl,e⟩|⟨y,u,rfl,e⟩;exact nomatch e;injection e with e1 _;rw[e1]
 byValue:=λk v h=>by
  rcases br h with⟨i,t,rfl,rfl⟩|⟨x,t,rfl,rfl⟩<;>rfl
 pyHash:=λhv h=>by
  rcases br hv with⟨i,t,rfl,rfl⟩|⟨x,t,rfl,rfl⟩;exact wpAny_pyHash_int h;exact wpAny_pyHash_str h
 eqBool:=λhu hv h=>by
  rcases br hu with⟨i,t,rfl,rfl⟩|⟨x,t,rfl,rfl⟩;rcases br hv with⟨j,u,rfl,rfl⟩|⟨y,u,rfl,rfl⟩;rw[K0]at h;exact wpAny_eqBool_int h;rw[KZ]at h;exact SeqAt.EqAt.int_str i t y u _ _ _ _ h;rcases br hv with⟨j,u,rfl,rfl⟩|⟨y,u,rfl,rfl⟩;rw[KY]at h;exact SeqAt.EqAt.str_int x t j u _ _ _ _ h;rw[KW]at h;exact wpAny_eqBool_str h
 «strs»:=λk x t v h=>by
  rcases br h with⟨i,u,rfl,e⟩|⟨y,u,rfl,e⟩;exact nomatch e
  ·injection e with e1 _;subst e1;cases v<;>rfl
def uz(prog:Z7)(w:ZR)(i:Int)(t:Tok):(bp prog w).is (.inl i) (.int i t)=true:=Ak i t
def uy(prog:Z7)(w:ZR)(x:Str)(t:Tok):(bp prog w).is (.inr x) (.str x t)=true:=Aj x t
inductive V where
 |non|bl (b:Bool)|int (i:Int)|str (x:Str)|byt (b:Array UInt8)|flt (b:UInt64)|ref (a:Addr)|ty (n:String)
 deriving DecidableEq
def bS:V->Q3->Prop
 |.non,u=>u=Value.none
 |.bl b,u=>u=Value.bool b
 |.int i,u=>∃t,u=Value.int i t
 |.str x,u=>∃t,u=Value.str x t
 |.byt b,u=>∃t,u=Value.bytes b t
 |.flt b,u=>∃t,u=Value.float b t
 |.ref a,u=>u=Value.ref a
 |.ty n,u=>u=Value.type n
abbrev bE:List V->List Q3->Prop:=Paired bS
def bE.length{xs:List V}{us:List Q3}(r:bE xs us):xs.length=us.length:=Paired.length r
theorem bE.get:∀{xs:List V} {us:List Q3} {i:Nat} {x:V},bE xs us->xs[i]?=some x->∃u,us[i]?=some u/\bS x u
 |_,_,_,_,.nil,e=>by simp at e
 |_,_,0,_,.cons r _,e=>by simp at e;subst e;exact⟨_,rfl,r⟩
 |_,_,i+1,x,.cons _ t,e=>by
  let⟨u,h1,h2⟩:=bE.get (i:=i) (x:=x) t ‹e›;exact⟨u,by simpa using h1,h2⟩
theorem bE.set{x:V}{u:Q3}(r:bS x u):∀{xs:List V} {us:List Q3} (i:Nat),bE xs us->bE (xs.set i x) (us.set i u)
 |_,_,_,.nil=>.nil
 |_,_,0,.cons _ t=>.cons r t
 |_,_,i+1,.cons q t=>.cons q (bE.set r i t)
theorem bE.append:∀{xs ys:List V} {us ws:List Q3},bE xs us->bE ys ws->bE (xs++ys) (us++ws)
 |_,_,_,_,.nil,s=>s
 |_,_,_,_,.cons r t,s=>.cons r (bE.append t s)
theorem bE.take:∀{xs:List V} {us:List Q3} (n:Nat),bE xs us->bE (xs.take n) (us.take n)
 |_,_,0,_=>.nil
 |_,_,_+1,.nil=>.nil
 |_,_,n+1,.cons r t=>.cons r (bE.take n t)
theorem bE.drop:∀{xs:List V} {us:List Q3} (n:Nat),bE xs us->bE (xs.drop n) (us.drop n)
 |_,_,0,r=>r
 |_,_,_+1,.nil=>.nil
 |_,_,n+1,.cons _ t=>bE.drop n t
def qF:Option V->Option Q3->Prop
 |some v,some u=>bS v u
 |none,none=>True
 |_,_=>False
def KV{κ:Type}:List (κ×V)->List (κ×Q3)->Prop:=Paired λ(p:κ×V) (q:κ×Q3)=>p.1=q.1/\bS p.2 q.2
def kV:Key->V
 |.inl i=>.int i
 |.inr x=>.str x
inductive HO where
 |lst (xs:List V)
 |tup (xs:List V)
 |dK (kvs:List (Key×V))|dT (kvs:List (List Key×V))
 |set (S:Int->Bool) (n:Nat)
 |ins (C dx:Addr) (fs:List (Str×V))
 |own (x:Addr)
 |xd (fs:List (Str×V))
 |met (f x:Addr)
 |rng (lo hi:Int)
 |frz (o:Obj) (u:HO)
 |tbl (ps:Array Q3)
 |ext (φ:Heap->Prop)
abbrev Hp:=Addr->Option HO
def upd(H:Hp)(a:Addr)(o:HO):Hp:=λb=>if b=a then some o else H b
def aF{H:Hp}{a:Addr}{o:HO}:upd H a o a=some o:=by unfold upd;rw[XO rfl]
def aH{H:Hp}{a b:Addr}{o:HO}(h:b≠a):upd H a o b=H b:=by unfold upd;rw[XS h]
theorem Oh{H:Hp}{a b:Addr}{o u:HO}(h:H a=some o)(h':H b=some u)(d:o≠u):a≠b:=by
 intro e;subst e;rw[h]at h';exact d (Yc h')
theorem c9{H:Hp}{a b:Addr}{o:HO}(h:H a=some o)(h':H b=none):a≠b:=by
 intro e;subst e;rw[h]at h';cases h'
def Ee(h:Heap)(a:Addr)(items:Array Q3):Prop:=∃o,h.get? a=some o/\(o.cls=.type "tuple"/\o.dict=none)/\∃n,o.data=.seq items n
def Ee.tup{h:Heap}{a:Addr}{items:Array Q3}(x:Ee h a items):IsTup h a items:=let ⟨o,g,c,d⟩:=x;⟨o,g,c.1,d⟩
theorem Ee.new(h:Heap)(items:Array Q3):Ee (h.push { cls:=.type "tuple",data:=.seq items }) h.objs.size items:=⟨_,Z0 _ rfl,⟨rfl,rfl⟩,_,rfl⟩
section
variable(P:Z7)(w:ZR)
def cU(H:Hp)(h:Heap)(a:Addr):HO->Prop
 |.lst xs=>xs.length<=QU/\∃(its:List Q3) (n:Nat),bE xs its/\h.get? a=some { cls:=.type "list",data:=.seq its.toArray n }
 |.tup xs=>xs.length<=QU/\∃its:List Q3,bE xs its/\Ee h a its.toArray
 |.dK kvs=>kvs.length<=QU/\(a == sysModules)=false/\∃vs,KV kvs vs/\h.DictOf (bp P w) a vs
 | .dT kvs=>kvs.length<=QU/\(a == sysModules)=false/\∃xs:List (List Key×Addr×Q3),
   Paired (λ(p:List Key×V) (q:List Key×Addr×Q3)=>p.1=q.1/\H q.2.1=some (.tup (p.1.map kV))/\bS p.2 q.2.2) kvs xs/\
   ∃o es ep,h.get? a=some o/\o.ExactDict/\o.data=.dict es ep/\es.toList=xs.map (entryOfKey (tupleKind (bp P w)))/\(xs.map (·.1)).Nodup
 |.set S n=>h.SetOf (intKind P w) a S n
 | .ins C dx fs=>H dx=some (.own a)/\fs.length<=1000/\dx≠a/\h.get? a=some (YD C dx)/\
   ∃mA,h.Ns1 dx mA/\(∀f,qF (fs.lookup f) (mA f))/\PySem.Within mA (fs.map (·.1))
 |.own _=>∃o,h.get? a=some o
 |.xd fs=>∃mA,h.Ns1 a mA/\∀f,qF (fs.lookup f) (mA f)
 |.rng lo hi=>∃t u v,h.get? a=some { cls:=.type "range",data:=.fields #[.int lo t,.int hi u,.int 1 v] }
 |.frz o u=>h.get? a=some o/\cU H h a u
 |.tbl ps=>h.get? a=some { cls:=.none,data:=.fields ps }
 |.met f x=>h.get? a=some (PySem.W.methodObj (.ref f) (.ref x))
 |.ext φ=>φ h/\(∃o,h.get? a=some o)/\∀h1 h2:Heap,φ h1->(∀o,h1.get? a=some o->h2.get? a=some o)->φ h2
def HOk(H:Hp)(h:Heap):Prop:=∀a o,H a=some o->cU P w H h a o
end
variable{P:Z7}{H H':Hp}{h h':Heap}{a:Addr}{o:HO}
section
variable{w:ZR}
theorem cU.lt(x:cU P w H h a o):a<h.objs.size:=by
 cases o with
 |lst xs=>let⟨_,_,_,_,e⟩:=x;exact QY e
 |tup xs=>let⟨_,_,_,p⟩:=x;exact p.tup.lt
 |dK kvs=>let⟨_,_,_,_,o,_,_,e,_⟩:=x;exact QY e
 |dT kvs=>let⟨_,_,_,_,o,_,_,e,_⟩:=x;exact QY e
 |set S n=>let⟨o,_,_,_,e,_⟩:=x;exact QY e
 |ins C dx fs=>let⟨_,_,_,e,_⟩:=x;exact QY e
 |own y=>let⟨_,e⟩:=x;exact QY e
 |xd fs=>let⟨_,⟨_,_,_,e,_⟩,_⟩:=x;exact QY e
 |rng lo hi=>let⟨_,_,_,e⟩:=x;exact QY e
 |frz ob u=>let⟨e,_⟩:=x;exact QY e
 |tbl ps=>exact QY (show h.get? a=some _ from x)
 |met f y=>exact QY (show h.get? a=some _ from x)
 |ext φ=>let⟨_,⟨_,e⟩,_⟩:=x;exact QY e
theorem Paired.mapP{α β:Type}{F G:α->β->Prop}:∀{l₁:List α} {l₂:List β},Paired F l₁ l₂->(∀a b,F a b->G a b)->Paired G l₁ l₂
 |_,_,.nil,_=>.nil
 |_,_,.cons r t,f=>.cons (f _ _ r) (Paired.mapP t f)
theorem cU.stay(x:cU P w H h a o)(k:∀b u,(b=a\/H b=some (.own a))->h.get? b=some u->h'.get? b=some u)
  (ho:∀b,H b=some (.own a)->H' b=some (.own a)) (ht:∀b xs,H b=some (.tup xs)->H' b=some (.tup xs)):cU P w H' h' a o:=by
 induction o with
 |lst xs=>let⟨z,its,n,r,e⟩:=x;exact⟨z,its,n,r,k _ _ (.inl rfl) e⟩
 |tup xs=>let⟨z,its,r,ob,e,c⟩:=x;exact⟨z,its,r,ob,k _ _ (.inl rfl) e,c⟩
 |dK kvs=>let⟨z,y,vs,r,ob,es,ep,e,c⟩:=x;exact⟨z,y,vs,r,ob,es,ep,k _ _ (.inl rfl) e,c⟩
 |dT kvs=>
  let⟨z,y,xs,r,ob,es,ep,e,c⟩:=x;exact⟨z,y,xs,Paired.mapP r λp q z=>⟨z.1,ht _ _ z.2.1,z.2.2⟩,ob,es,ep,k _ _ (.inl rfl) e,c⟩
 |set S n=>let⟨ob,es,ep,t,e,c⟩:=x;exact⟨ob,es,ep,t,k _ _ (.inl rfl) e,c⟩
 |ins C dx fs=>
  let⟨d,z,ne,e,mA,⟨od,es,ep,e2,c⟩,r⟩:=x;exact⟨ho _ d,z,ne,k _ _ (.inl rfl) e,mA,⟨od,es,ep,k _ _ (.inr d) e2,c⟩,r⟩
 |own y=>let⟨ob,e⟩:=x;exact⟨ob,k _ _ (.inl rfl) e⟩
 |xd fs=>let⟨mA,⟨od,es,ep,e,c⟩,r⟩:=x;exact⟨mA,⟨od,es,ep,k _ _ (.inl rfl) e,c⟩,r⟩
 |rng lo hi=>let⟨t,u,v,e⟩:=x;exact⟨t,u,v,k _ _ (.inl rfl) e⟩
 |frz ob u ih=>let⟨e,q⟩:=x;exact⟨k _ _ (.inl rfl) e,ih q⟩
 |tbl ps=>
  have e:h.get? a=some { cls:=.none,data:=.fields ps }:=x;show h'.get? a=some { cls:=.none,data:=.fields ps };exact k a _ (.inl rfl) e
 |met f y=>
  have e:h.get? a=some (PySem.W.methodObj (.ref f) (.ref y)):=x;show h'.get? a=some (PySem.W.methodObj (.ref f) (.ref y));exact k a _ (.inl rfl) e
 |ext φ=>let⟨p,⟨o,e⟩,st⟩:=x;exact⟨st _ _ p λo q=>k _ _ (.inl rfl) q,⟨o,k _ _ (.inl rfl) e⟩,st⟩
def HOk.lt(x:HOk P w H h)(e:H a=some o):a<h.objs.size:=(x a o e).lt
theorem HOk.fresh(x:HOk P w H h)(e:h.objs.size<=a):H a=none:=by
 cases q:H a with
 |none=>rfl
 |some u=>exact absurd (QN (x.lt q) e) (Zm _)
theorem HOk.kept(x:HOk P w H h)(k:∀b u,h.get? b=some u->h'.get? b=some u):HOk P w H h':=λa o e=>
 (x a o e).stay (λb u _ q=>k b u q) (λ_ q=>q) λ_ _ q=>q
theorem HOk.laid(x:HOk P w H h)(k:∀b u,h.get? b=some u->h'.get? b=some u)(hp:h.objs.size<=a)(new:cU P w (upd H a o) h' a o):HOk P w (upd H a o) h':=λb u e=>by
 have hn:=x.fresh hp;by_cases hb:b=a;subst hb;rw[aF]at e;cases e;exact new;rw[aH hb]at e;exact(x b u e).stay (λc v _ q=>k c v q) (λc q=>by rw[aH (c9 q hn)];exact q) λc xs q=>by rw[aH (c9 q hn)];exact q
end
def Rd(H:Hp)(a:Addr)(u:HO):Prop:=H a=some u\/∃o,H a=some (.frz o u)
theorem Rd.ok{P:Z7}{w:ZR}{H:Hp}{h:Heap}{a:Addr}{u:HO}(r:Rd H a u)(x:HOk P w H h):cU P w H h a u:=by
 rcases r with r|⟨o,r⟩;exact x a u r;let⟨_,q⟩:=x a _ r;exact q
def Mut:Option HO->Prop
 |some (.lst _)=>True
 |some (.dK _)=>True
 |some (.dT _)=>True
 |some (.set _ _)=>True
 |some (.ins _ _ _)=>True
 |some (.ext _)=>True
 |_=>False
variable{x e:Addr}
section
variable{w:ZR}{o':HO}
theorem HOk.write(ok:HOk P w H h)(mu:Mut (H x))(he:e=x\/H e=some (.own x))(k:∀b u,b≠e->h.get? b=some u->h'.get? b=some u)(heo:∃u,h'.get? e=some u)
  (new:cU P w (upd H x o') h' x o'):HOk P w (upd H x o') h':=λb u q=>by
 have nown:∀c y,H c=some (.own y)->c≠x:=λc y r z=>by subst z;rw[r]at mu;exact mu
 have ntup:∀c xs,H c=some (.tup xs)->c≠x:=λc xs r z=>by subst z;rw[r]at mu;exact mu
 by_cases hb:b=x;subst hb;rw[aF]at q;cases q;exact new;rw[aH hb]at q;by_cases hbe:b=e;have q':H b=some (.own x):=by
  rcases he with z|z;exact absurd (hbe.trans z) hb;rw[hbe];exact z
 rw[q]at q';cases q';let⟨v,hv⟩:=heo;exact⟨v,by rw[hbe];exact hv⟩;refine(ok b u q).stay (λc v hc r=>k c v ?_ r) (λc r=>by rw[aH (nown c b r)];exact r) λc xs r=>by rw[aH (ntup c xs r)];exact r
 rcases hc with rfl|hc;exact hbe;rintro rfl;rcases he with z|z;exact nown c b hc z;rw[hc]at z;cases z;exact hb rfl
end
structure Un(fs ex:List Addr)(H H':Hp)(h h':Heap):Prop where
 keep:∀b o,h.get? b=some o->H b=none->b∉fs->b∉ex->h'.get? b=some o
 slot:∀b o,h.get? b=some o->H b=none->b∈fs->b∉ex->∃sl,h'.get? b=some { o with slots:=sl }
 free:∀b o,h.get? b=some o->H b=none->b∉ex->H' b=none
 there:∀b o,h.get? b=some o->b∉ex->∃o',h'.get? b=some o'
 tups:∀b xs,H b=some (.tup xs)->H' b=some (.tup xs)
 frzs:∀b o u,H b=some (.frz o u)->H' b=some (.frz o u)
 tbls:∀b ps,H b=some (.tbl ps)->∃y_,H' b=some (.tbl (ps++y_))
section
variable{fs ex:List Addr}{H1:Hp}{h1:Heap}
theorem Un.any(u:Un fs ex H H1 h h1){b:Addr}{ob:Obj}(q:h.get? b=some ob)(n:H b=none)(hx:b∉ex):∃sl,h1.get? b=some { ob with slots:=sl }:=by
 by_cases hb:b∈fs;exact u.slot b ob q n hb hx;exact⟨ob.slots,u.keep b ob q n hb hx⟩
theorem Un.kept(k:∀b u,h.get? b=some u->h'.get? b=some u):Un fs ex H H h h':=
 ⟨λb ob q _ _ _=>k b ob q,λb ob q _ _ _=>⟨ob.slots,k b ob q⟩,λ_ _ _ n _=>n,λb ob q _=>⟨ob,k b ob q⟩,λ_ _ q=>q,λ_ _ _ q=>q,λ_ ps q=>⟨#[],by rw[q];simp⟩⟩
def Un.refl:Un fs ex H H h h:=Un.kept λ_ _ q=>q
theorem Un.laid(k:∀b u,h.get? b=some u->h'.get? b=some u)(hp:h.objs.size<=a)(hn:H a=none):Un fs ex H (upd H a o) h h' where
 keep:=λb u q _ _ _=>k b u q
 slot:=λb u q _ _ _=>⟨u.slots,k b u q⟩
 free:=λb u q n _=>by rw[aH (ZZ (QN (QY q) hp))];exact n
 there:=λb u q _=>⟨u,k b u q⟩
 tups:=λb xs q=>by rw[aH (c9 q hn)];exact q
 frzs:=λb u xs q=>by rw[aH (c9 q hn)];exact q
 tbls:=λb ps q=>⟨#[],by rw[aH (c9 q hn),q];simp⟩
theorem Un.write(mu:Mut (H x))(he:e=x\/H e=some (.own x))(k:∀b u,b≠e->h.get? b=some u->h'.get? b=some u)(heo:∃u,h'.get? e=some u):Un fs ex H (upd H x o) h h':=by
 have hx:∀b,H b=none->b≠x:=λb n z=>by subst z;rw[n]at mu;exact mu
 have hb:∀b,H b=none->b≠e:=λb n z=>by
  subst z;rcases he with r|r;exact hx b n r;rw[n]at r;cases r
 have hm:∀b u,H b=some u->¬Mut (some u)->b≠x:=λb u q nm z=>by subst z;rw[q]at mu;exact nm mu
 refine⟨λb u q n _ _=>k b u (hb b n) q,λb u q n _ _=>⟨u.slots,k b u (hb b n) q⟩,λb u q n _=>by rw[aH (hx b n)];exact n,λb u q _=>?_,
  λb xs q=>by rw[aH (hm b _ q λz=>z)];exact q,λb u xs q=>by rw[aH (hm b _ q λz=>z)];exact q,λb ps q=>⟨#[],by rw[aH (hm b _ q λz=>z),q];simp⟩⟩
 by_cases hbe:b=e;subst hbe;exact heo;exact⟨u,k b u hbe q⟩
end
def trk(h:Heap)(H:Hp):List Addr:=(ZO h.objs.size).filter λa=>(H a).isSome
def Dp(h:Heap)(H:Hp):Heap:=PySem.W.hideAll h (trk h H)
def Ay(h:Heap)(H:Hp):(Dp h H).objs.size=h.objs.size:=PySem.W.hideAll_size _ _
theorem p8{h:Heap}{H:Hp}{b:Addr}{o:Obj}(e:h.get? b=some o)(n:H b=none):(Dp h H).get? b=some o:=
 PySem.W.hideAll_get _ e λhm=>by
  have q:(H b).isSome=true:=(List.mem_filter.mp hm).2;rw[n]at q;simp at q
theorem G6{h:Heap}{H:Hp}{b:Addr}{o:Obj}(e:(Dp h H).get? b=some o):h.get? b=some o/\H b=none:=by
 have e':h.get? b=some o:=PySem.W.of_hideAll (trk h H) e;refine⟨e',?_⟩;cases q:H b with
 |none=>rfl
 |some x=>
  have hm:b∈trk h H:=List.mem_filter.mpr ⟨X5.mpr (QY e'),by simp[q]⟩;have z:(Dp h H).get? b=none:=PySem.W.hideAll_none (trk h H) hm;rw[z]at e;cases e
structure Mod(K:Q1)(mg:Str->Option Q3)(base:Heap):Prop where
 kin:K.In base
 glob:base.Ns mainGlobals mg
 blt:∃mb,base.Ns builtinsNs mb/\∀x:Str,x≠"__name__"->mb x=ZS x
 nolimit:base.NoLimit
structure Cx where
 prog:Z7
 w:ZR
 K:Q1
 mg:Str->Option Q3
 base:Heap
 A:ZE
 N:List Str
 s₀:Q4
 H₀:Hp
 env:Env
 outer:List Env
 stack:List Env
 ex:List Addr
 fn:Str->Bool
 calm:Bool
 pn:List (Addr×Obj)
 xe:Q3->Q4->Prop
def frs(l:List Env):List Addr:=l.filterMap (·.frame)
abbrev Cx.fs(X:Cx):List Addr:=frs X.outer
def Vis(sc:XR)(x:Str):Prop:=sc.names.lookup x=some .local\/sc.names.lookup x=some .cell\/sc.names.lookup x=some .free
def Loc(sc:XR)(x:Str):Prop:=sc.names.lookup x=some .local\/sc.names.lookup x=some .cell
def P7(env:Env)(h:Heap)(m:Str->Option Q3)(x:Str)(u:Q3):Prop:=
 (env.kindOf x=some .local/\m x=some u)\/((env.kindOf x=some .cell\/env.kindOf x=some .free)/\∃c,env.cells.lookup x=some c/\h.IsCell c (some u))
structure Cx.Ok(X:Cx):Prop where
 mod:Mod X.K X.mg X.base
 kind:X.env.scope.kind=.function
 glob:X.env.globals=mainGlobals
 blt:X.env.builtins=builtinsNs
 above:X.s₀.heap.objs.size<=X.env.locals
 inj:∀x y c,X.env.cells.lookup x=some c->X.env.cells.lookup y=some c->x=y
 has:∀x,(X.env.kindOf x=some .cell\/X.env.kindOf x=some .free)->∃c,X.env.cells.lookup x=some c
 cab:∀x c,X.fn x=true->X.env.cells.lookup x=some c->X.s₀.heap.objs.size<=c
 hd:X.calm=true->X.A.handled=none
 frames:X.A.frames=some X.stack
 stk:X.stack=X.outer\/(X.stack=X.env::X.outer/\X.env.frame=some X.env.locals)
 exf:∀b∈X.ex,b≠X.env.locals/\∀x c,X.env.cells.lookup x=some c->c≠b
 bs:∀b o,X.base.get? b=some o->X.s₀.heap.get? b=some o/\X.H₀ b=none
 bsz:X.base.objs.size<=X.s₀.heap.objs.size
 noex:∀b o,X.base.get? b=some o->b∉X.ex
 exfs:∀b∈X.ex,b∉X.fs
 funs:X.s₀.heap.FunFrames X.base X.outer
 frf:∀b∈X.fs,X.H₀ b=none
structure Inv(X:Cx)(b_:List (Addr×Obj))(σ:List (Option V))(H:Hp)(s:Q4):Prop where
 ok:X.Ok
 os:s.os=X.s₀.os
 bare:AllBare s.gens
 base:Un X.fs X.ex X.H₀ H X.s₀.heap s.heap
 loc:∃m,s.heap.Ns X.env.locals m/\∀(i:Nat) (x:Str) (v:V),X.N[i]?=some x->σ[i]?=some (some v)->Vis X.env.scope x->∃u,bS v u/\P7 X.env s.heap m x u
 cell:∀x c,X.env.cells.lookup x=some c->∃v,s.heap.IsCell c v
 free:H X.env.locals=none
 freeC:∀x c,X.env.cells.lookup x=some c->H c=none
 pin:∀p∈X.pn++b_,s.heap.get? p.1=some p.2/\H p.1=none/\p.1≠X.env.locals/\p.1∉X.fs/\∀v,p.2.data≠.cell v
 hok:HOk X.prog X.w H s.heap
 len:σ.length=X.N.length
variable{X:Cx}{b_:List (Addr×Obj)}{s:Q4}
section
variable{σ:List (Option V)}
theorem Cx.Ok.nofr(ok:X.Ok){b:Addr}{o:Obj}(e:X.base.get? b=some o):b∉X.fs:=λhb=>by
 have:=(ok.funs.mem hb).1;rw[e]at this;cases this
theorem Inv.bs(I:Inv X b_ σ H s):∀b o,X.base.get? b=some o->s.heap.get? b=some o/\H b=none:=λb o e=>
 ⟨I.base.keep b o (I.ok.bs b o e).1 (I.ok.bs b o e).2 (I.ok.nofr e) (I.ok.noex b o e),I.base.free b o (I.ok.bs b o e).1 (I.ok.bs b o e).2 (I.ok.noex b o e)⟩
def Inv.bk(I:Inv X b_ σ H s):∀b o,X.base.get? b=some o->s.heap.get? b=some o:=λb o e=>(I.bs b o e).1
def Inv.mod(I:Inv X b_ σ H s):Mod X.K X.mg X.base:=I.ok.mod
def Inv.kIn(I:Inv X b_ σ H s):X.K.In s.heap:=I.ok.mod.kin.keeps I.bk
def Inv.lt(I:Inv X b_ σ H s):X.env.locals<s.heap.objs.size:=let ⟨_,hn,_⟩:=I.loc;hn.lt
def Inv.sz(I:Inv X b_ σ H s):X.s₀.heap.objs.size<=s.heap.objs.size:=ZP I.ok.above (YS I.lt)
theorem Inv.nofs(I:Inv X b_ σ H s){a:Addr}(h:s.heap.objs.size<=a):a∉X.fs:=λhb=>by
 let⟨_,o,ho,_⟩:=I.ok.funs.mem hb;exact absurd (QN (QY ho) (ZP I.sz h)) (Zm _)
theorem Inv.cne(I:Inv X b_ σ H s):∀x c,X.env.cells.lookup x=some c->c≠X.env.locals:=λx c e z=>by
 let⟨v,o,ho,hd⟩:=I.cell x c e;let⟨m,⟨o',es,ep,ho',hd',_⟩,_⟩:=I.loc;rw[z,ho']at ho;cases ho;rw[hd']at hd;cases hd
theorem Inv.funs(I:Inv X b_ σ H s):s.heap.FunFrames X.base X.outer:=by
 have all:∀(l:List Env),(∀b∈frs l,b∈X.fs)->X.s₀.heap.FunFrames X.base l->s.heap.FunFrames X.base l:=by
  intro l;induction l with
  |nil=>intro _ _;trivial
  |cons env r ih=>
   intro hs hl;let⟨hk,⟨L,o,hf,hn,ho,hd⟩,hr⟩:=hl;have hL:L∈X.fs:=hs L (by unfold frs;rw[List.filterMap_cons,hf];exact QH);let⟨sl,e⟩:=I.base.slot L o ho (I.ok.frf L hL) hL λz=>I.ok.exfs L z hL;exact⟨hk,⟨L,_,hf,hn,e,hd⟩,ih (λb hb=>hs b (by unfold frs;rw[List.filterMap_cons,hf];exact QZ _ hb)) hr⟩
 exact all X.outer (λ_ hb=>hb) I.ok.funs
theorem Inv.stack(I:Inv X b_ σ H s):s.heap.FunFrames X.base X.stack:=by
 rcases I.ok.stk with e|⟨e,hf⟩;rw[e];exact I.funs;rw[e];let⟨m,hn,_⟩:=I.loc;refine .cons (by rw[I.ok.kind];decide) hf hn ?_ I.funs;exact Heap.get?_none_of_le (ZP I.ok.bsz I.ok.above)
theorem Inv.stkSub(I:Inv X b_ σ H s):∀b∈frs X.stack,b∈X.env.locals::X.fs:=λb hb=>by
 rcases I.ok.stk with e|⟨e,hf⟩;rw[e]at hb;exact QZ _ hb;rw[e]at hb;unfold frs at hb;rw[List.filterMap_cons,hf]at hb;exact hb
theorem Inv.stkFree(I:Inv X b_ σ H s):∀b∈frs X.stack,H b=none:=λb hb=>by
 rcases Z8.mp (I.stkSub b hb)with e|hb;rw[e];exact I.free;let⟨_,o,ho,_⟩:=I.ok.funs.mem hb;exact I.base.free b o ho (I.ok.frf b hb) λz=>I.ok.exfs b z hb
theorem Inv.step{g':Array GenState}{t':Nat}{d':Drawn}{ch:List Addr}(I:Inv X b_ σ H s)
  (hch:∀b∈ch,(b∈X.ex\/X.s₀.heap.objs.size<=b)/\b≠X.env.locals/\(∀x c,X.env.cells.lookup x=some c->c≠b)/\∀p∈X.pn++b_,p.1≠b)
  (keep:∀b o,b≠X.env.locals->b∉X.fs->b∉ch->s.heap.get? b=some o->H b=none->h'.get? b=some o)
  (slot:∀b o,b≠X.env.locals->b∈X.fs->b∉ch->s.heap.get? b=some o->H b=none->∃sl,h'.get? b=some { o with slots:=sl }) (free:∀b o,b∉ch->s.heap.get? b=some o->H b=none->H' b=none)
  (there:∀b o,b∉ch->s.heap.get? b=some o->∃o',h'.get? b=some o')
  (tups:∀b xs,H b=some (.tup xs)->H' b=some (.tup xs)) (frzs:∀b o u,H b=some (.frz o u)->H' b=some (.frz o u)) (tbls:∀b ps,H b=some (.tbl ps)->∃y_,H' b=some (.tbl (ps++y_)))
  (ns:∀m,s.heap.Ns X.env.locals m->h'.Ns X.env.locals m) (hok:HOk X.prog X.w H' h') (hg:AllBare g') :
  Inv X b_ σ H' { s with heap:=h',gens:=g',drawn:=d',toks:=t' }:=by
 have neL:∀b o,X.s₀.heap.get? b=some o->b≠X.env.locals:=λb o e=>ZZ (QN (QY e) I.ok.above);have neC:∀b o,X.s₀.heap.get? b=some o->b∉X.ex->b∉ch:=λb o e hx hb=>by
  rcases(hch b hb).1 with z|z;exact hx z;exact absurd (QN (QY e) z) (Zm _)
 have cellK:∀x c,X.env.cells.lookup x=some c->∀v,s.heap.IsCell c v->h'.IsCell c v:=λx c e v ⟨o,ho,hd⟩=>by
  have nch:c∉ch:=λz=>(hch c z).2.2.1 x c e rfl;by_cases hc:c∈X.fs;let⟨sl,q⟩:=slot c o (I.cne x c e) hc nch ho (I.freeC x c e);exact⟨_,q,hd⟩;exact⟨o,keep c o (I.cne x c e) hc nch ho (I.freeC x c e),hd⟩
 refine⟨I.ok,I.os,hg,⟨λb o e n hb hx=>?_,λb o e n hb hx=>?_,λb o e n hx=>?_,λb o e hx=>?_,λb xs e=>tups b xs (I.base.tups b xs e),λb o xs e=>frzs b o xs (I.base.frzs b o xs e),λb ps e=>?_⟩,?_,λx c e=>?_,?_,λx c e=>?_,λp hp=>?_,hok,I.len⟩;exact keep b o (neL b o e) hb (neC b o e hx) (I.base.keep b o e n hb hx) (I.base.free b o e n hx);let⟨sl,e1⟩:=I.base.slot b o e n hb hx;let⟨sl',e2⟩:=slot b _ (neL b o e) hb (neC b o e hx) e1 (I.base.free b o e n hx);exact⟨sl',e2⟩;let⟨o',e1⟩:=I.base.there b o e hx;exact free b o' (neC b o e hx) e1 (I.base.free b o e n hx);let⟨o',e1⟩:=I.base.there b o e hx;exact there b o' (neC b o e hx) e1;let⟨m1,e1⟩:=I.base.tbls b ps e;let⟨m2,e2⟩:=tbls b _ e1;exact⟨m1++m2,by rw[e2,Array.append_assoc]⟩;let⟨m,hn,hl⟩:=I.loc;refine⟨m,ns m hn,λi x v e1 e2 e3=>?_⟩;let⟨u,r,l⟩:=hl i x v e1 e2 e3;refine⟨u,r,?_⟩;rcases l with l|⟨k,c,e,z⟩;exact .inl l;exact .inr ⟨k,c,e,cellK x c e _ z⟩;let⟨v,z⟩:=I.cell x c e;exact⟨v,cellK x c e v z⟩;let⟨m,⟨o,_,_,ho,_⟩,_⟩:=I.loc;exact free _ o (λz=>(hch _ z).2.1 rfl) ho I.free;let⟨v,o,ho,hd⟩:=I.cell x c e;exact free c o (λz=>(hch c z).2.2.1 x c e rfl) ho (I.freeC x c e);let⟨e,n,ne,nf,d⟩:=I.pin p hp;have nch:p.1∉ch:=λz=>(hch p.1 z).2.2.2 p hp rfl;exact⟨keep p.1 p.2 ne nf nch e n,free p.1 p.2 nch e n,ne,nf,d⟩
theorem Inv.un{t':Nat}(I:Inv X b_ σ H s)(u:Un X.fs [] H H' s.heap h')(hok:HOk X.prog X.w H' h'):Inv X b_ σ H' { s with heap:=h',toks:=t' }:=by
 let⟨m,⟨o,es,ep,ho,r⟩,_⟩:=id I.loc;let⟨sl,hL⟩:=u.any ho I.free nofun;exact I.step (g':=s.gens) (d':=s.drawn) (ch:=[]) (λ_ z=>nomatch z) (λb o _ hb _ e n=>u.keep b o e n hb nofun) (λb o _ hb _ e n=>u.slot b o e n hb nofun) (λb o _ e n=>u.free b o e n nofun) (λb o _ e=>u.there b o e nofun) u.tups u.frzs u.tbls (λm' hm=>by
  let⟨o',es',ep',ho',r'⟩:=hm;rw[ho]at ho';cases ho';exact⟨_,es',ep',hL,r'⟩) hok I.bare
theorem Inv.call{g':Array GenState}{t':Nat}{d':Drawn}{ch:List Addr}(I:Inv X b_ σ H s)(u:Un (frs X.stack) ch H H' s.heap h')(hok:HOk X.prog X.w H' h')(hg:AllBare g')
  (hch:∀b∈ch,(b∈X.ex\/X.s₀.heap.objs.size<=b)/\b≠X.env.locals/\(∀x c,X.env.cells.lookup x=some c->c≠b)/\∀p∈X.pn++b_,p.1≠b) :
  Inv X b_ σ H' { s with heap:=h',gens:=g',drawn:=d',toks:=t' }:=by
 let⟨m,⟨o,es,ep,ho,r⟩,_⟩:=id I.loc;let⟨sl,hL⟩:=u.any ho I.free λz=>(hch _ z).2.1 rfl;exact I.step (ch:=ch) hch (λb o hL hb hc e n=>u.keep b o e n (λz=>(Z8.mp (I.stkSub b z)).elim hL hb) hc) (λb o _ _ hc e n=>u.any e n hc) (λb o hc e n=>u.free b o e n hc) (λb o hc e=>u.there b o e hc) u.tups u.frzs u.tbls (λm' hm=>by
  let⟨o',es',ep',ho',r'⟩:=hm;rw[ho]at ho';cases ho';exact⟨_,es',ep',hL,r'⟩) hok hg
theorem Inv.turned{t':Nat}{it:Addr}(I:Inv X b_ σ H s)(k:∀b o,b≠it->s.heap.get? b=some o->h'.get? b=some o)(hn:H it=none)(hL:it≠X.env.locals)
  (h1:it∈X.ex\/X.s₀.heap.objs.size<=it) (h2:∀x c,X.env.cells.lookup x=some c->c≠it) (h3:∀p∈X.pn++b_,p.1≠it):Inv X b_ σ H { s with heap:=h',toks:=t' }:=by
 have nit:∀b u,H b=some u->b≠it:=λb u e z=>by rw[z,hn]at e;cases e
 refine I.step (g':=s.gens) (d':=s.drawn) (ch:=[it]) (λb hb=>?_) (λb o _ _ hc e _=>k b o (λz=>hc (by simp[z])) e) (λb o _ _ hc e _=>⟨o.slots,k b o (λz=>hc (by simp[z])) e⟩) (λ_ _ _ _ n=>n)
  (λb o hc e=>⟨o,k b o (λz=>hc (by simp[z])) e⟩) (λ_ _ e=>e) (λ_ _ _ e=>e) (λb ps e=>⟨#[],by rw[e];simp⟩) (λm hm=>?_) (λb u e=>?_) I.bare
 have e:b=it:=by simpa using hb
 subst e;exact⟨h1,hL,h2,h3⟩;let⟨o,es,ep,ho,r⟩:=hm;exact⟨o,es,ep,k _ o (Ne.symm hL) ho,r⟩;refine(I.hok b u e).stay (λc v hc q=>k c v ?_ q) (λ_ q=>q) λ_ _ q=>q;rcases hc with z|z;rw[z];exact nit b u e;exact nit c _ z
def Inv.tok(I:Inv X b_ σ H s)(t:Nat):Inv X b_ σ H { s with toks:=t }:=I.un (h':=s.heap) (t':=t) Un.refl I.hok
theorem Inv.kept{t':Nat}(I:Inv X b_ σ H s)(k:∀b u,s.heap.get? b=some u->h'.get? b=some u):Inv X b_ σ H { s with heap:=h',toks:=t' }:=I.un (Un.kept k) (I.hok.kept k)
theorem Inv.laid{a:Addr}{o:HO}{t':Nat}(I:Inv X b_ σ H s)(k:∀b u,s.heap.get? b=some u->h'.get? b=some u)(hp:s.heap.objs.size<=a)(new:cU X.prog X.w (upd H a o) h' a o) :
  Inv X b_ σ (upd H a o) { s with heap:=h',toks:=t' }:=I.un (Un.laid k hp (I.hok.fresh hp)) (I.hok.laid k hp new)
theorem Inv.write{x e:Addr}{o:HO}{t':Nat}(I:Inv X b_ σ H s)(mu:Mut (H x))(he:e=x\/H e=some (.own x))(k:∀b u,b≠e->s.heap.get? b=some u->h'.get? b=some u)(heo:∃u,h'.get? e=some u)
  (new:cU X.prog X.w (upd H x o) h' x o):Inv X b_ σ (upd H x o) { s with heap:=h',toks:=t' }:=I.un (Un.write mu he k heo) (I.hok.write mu he k heo new)
theorem Inv.pins_of{pins':List (Addr×Obj)}(I:Inv X b_ σ H s)(h:∀p∈pins',s.heap.get? p.1=some p.2/\H p.1=none/\p.1≠X.env.locals/\p.1∉X.fs/\∀v,p.2.data≠.cell v):Inv X pins' σ H s:=
 ⟨I.ok,I.os,I.bare,I.base,I.loc,I.cell,I.free,I.freeC,λp hp=>(ZF.mp hp).elim (λz=>I.pin p (List.mem_append_left _ z)) (h p),I.hok,I.len⟩
theorem pN{N:List Str}(hN:N.Nodup){i j:Nat}{x:Str}(a:N[i]?=some x)(b:N[j]?=some x):i=j:=by
 let⟨h1,e1⟩:=Q8.mp a;let⟨h2,e2⟩:=Q8.mp b;exact(List.getElem_inj hN).mp (e1.trans e2.symm)
theorem qV{M:Model}{A:ZE}{E:Q3->Q4->Prop}{i:Nat}{x:Str}{v:V}{u:Q3}{Q:Unit->Q4->Prop}(I:Inv X b_ σ H s)(hN:X.N.Nodup)(hi:X.N[i]?=some x)(hx:Loc X.env.scope x)(r:bS v u)
  (h:∀s',Inv X b_ (σ.set i (some v)) H s'->(∃a,Heap.SameBut a s.heap s'.heap/\(a=X.env.locals\/X.env.cells.lookup x=some a))->Q () s') (hf:X.fn x=true\/X.env.scope.names.lookup x=some .local:=by first|exact .inl rfl|exact .inr rfl|assumption):wpAny M A (storeName X.env x u) Q E s:=by
 let⟨m,hn,hl⟩:=id I.loc;have hcls:(X.env.scope.kind == .class||(X.env.scope.kind == .module&&X.env.locals !=X.env.globals))=false:=by rw[I.ok.kind];rfl
 have hiσ:i < σ.length:=by rw[I.len];exact(Q8.mp hi).1
 have cne:=I.cne;have tracked:∀{a:Addr} {h':Heap},(∃o,s.heap.get? a=some o/\H a=none)->Heap.SameBut a s.heap h'->HOk X.prog X.w H h':=λ{a h'} ha hs b ob e=>by
  let⟨_,_,hfree⟩:=ha;refine(I.hok b ob e).stay (λc w' hc q=>(hs.2 c ?_).trans q) (λ_ q=>q) λ_ _ q=>q;rintro rfl;rcases hc with rfl|hc;rw[hfree]at e;cases e;rw[hfree]at hc;cases hc
 rcases hx with hk|hk;refine wpAny_storeName_local hk hn (λh' hn' hs=>?_) hcls;let⟨oL,_,_,hoL,_⟩:=id hn;refine h _ ⟨I.ok,I.os,I.bare,⟨λb o e n hb hx=>?_,λb o e n hb hx=>?_,I.base.free,λb o e hx=>?_,I.base.tups,I.base.frzs,I.base.tbls⟩,⟨_,hn',λj y v' e1 e2 e3=>?_⟩,λy c e=>?_,I.free,I.freeC,λp hp=>?_,tracked ⟨oL,hoL,I.free⟩ hs,by simpa using I.len⟩ ⟨_,hs,.inl rfl⟩;exact(hs.2 b (ZZ (QN (QY e) I.ok.above))).trans (I.base.keep b o e n hb hx);let⟨sl,e1⟩:=I.base.slot b o e n hb hx;exact⟨sl,(hs.2 b (ZZ (QN (QY e) I.ok.above))).trans e1⟩;let⟨o',e1⟩:=I.base.there b o e hx;exact⟨o',(hs.2 b (ZZ (QN (QY e) I.ok.above))).trans e1⟩;by_cases hj:j=i;subst hj;rw[hi]at e1;cases e1;rw[XX hiσ]at e2;cases e2;exact⟨u,r,.inl ⟨hk,nofun⟩⟩;rw[ZK (Ne.symm hj)]at e2;let⟨u',r',q⟩:=hl j y v' e1 e2 e3;refine⟨u',r',?_⟩;rcases q with⟨k,e⟩|⟨k,c,e,z⟩;refine .inl ⟨k,?_⟩;have:y≠x:=λe=>hj (pN hN e1 (e▸hi));simp[this,e];exact .inr ⟨k,c,e,z.sameBut hs (cne y c e)⟩;let⟨w',z⟩:=I.cell y c e;exact⟨w',z.sameBut hs (cne y c e)⟩;let⟨e,n,ne,nf,d⟩:=I.pin p hp;exact⟨(hs.2 p.1 ne).trans e,n,ne,nf,d⟩;have hfn:X.fn x=true:=by
  rcases hf with z|z;exact z;rw[z]at hk;cases hk
 let⟨c,hc⟩:=I.ok.has x (.inl hk);let⟨w',z⟩:=I.cell x c hc;refine wpAny_storeName_cell I.ok.kind hk hc z (λh' hc' hs=>?_);let⟨oc,hoc,hocd⟩:=id z;refine h { s with heap:=h' } ⟨I.ok,I.os,I.bare,⟨λb o e n hb hx=>?_,λb o e n hb hx=>?_,I.base.free,λb o e hx=>?_,I.base.tups,I.base.frzs,I.base.tbls⟩,⟨m,hn.sameBut hs (Ne.symm (cne x c hc)),λj y v' e1 e2 e3=>?_⟩,λy c' e=>?_,I.free,I.freeC,λp hp=>?_,tracked ⟨oc,hoc,I.freeC x c hc⟩ hs,by simpa using I.len⟩ ⟨c,hs,.inr hc⟩;exact(hs.2 b (ZZ (QN (QY e) (I.ok.cab x c hfn hc)))).trans (I.base.keep b o e n hb hx);let⟨sl,e1⟩:=I.base.slot b o e n hb hx;exact⟨sl,(hs.2 b (ZZ (QN (QY e) (I.ok.cab x c hfn hc)))).trans e1⟩;let⟨o',e1⟩:=I.base.there b o e hx;exact⟨o',(hs.2 b (ZZ (QN (QY e) (I.ok.cab x c hfn hc)))).trans e1⟩;by_cases hj:j=i;subst hj;rw[hi]at e1;cases e1;rw[XX hiσ]at e2;cases e2;exact⟨u,r,.inr ⟨.inl hk,c,hc,hc'⟩⟩;rw[ZK (Ne.symm hj)]at e2;let⟨u',r',q⟩:=hl j y v' e1 e2 e3;refine⟨u',r',?_⟩;rcases q with q|⟨k,c',e,z'⟩;exact .inl q;refine .inr ⟨k,c',e,z'.sameBut hs ?_⟩;rintro rfl;exact hj (pN hN e1 (I.ok.inj _ _ _ e hc▸hi));by_cases hcc:c'=c;subst hcc;exact⟨_,hc'⟩;let⟨w2,z2⟩:=I.cell y c' e;exact⟨w2,z2.sameBut hs hcc⟩;let⟨e,n,ne,nf,d⟩:=I.pin p hp;refine⟨(hs.2 p.1 ?_).trans e,n,ne,nf,d⟩;intro q;rw[q,hoc]at e;have q':oc=p.2:=Yc e;exact d w' (by rw[<-q'];exact hocd)
theorem l7{M:Model}{A:ZE}{E:Q3->Q4->Prop}{i:Nat}{x:Str}{v:V}{u:Q3}{Q:Unit->Q4->Prop}(I:Inv X b_ σ H s)(hN:X.N.Nodup)(hi:X.N[i]?=some x)(hx:Loc X.env.scope x)(r:bS v u)
  (h:∀s',Inv X b_ (σ.set i (some v)) H s'->Q () s') (hf:X.fn x=true\/X.env.scope.names.lookup x=some .local:=by first|exact .inl rfl|exact .inr rfl|assumption):wpAny M A (storeName X.env x u) Q E s:=
 qV I hN hi hx r (λs' I' _=>h s' I') hf
theorem Inv.call'{s':Q4}{ch:List Addr}(I:Inv X b_ σ H s)(ho:s'.os=s.os)(u:Un (frs X.stack) ch H H' s.heap s'.heap)(hok:HOk X.prog X.w H' s'.heap)(hg:AllBare s'.gens)
  (hch:∀b∈ch,(b∈X.ex\/X.s₀.heap.objs.size<=b)/\b≠X.env.locals/\(∀x c,X.env.cells.lookup x=some c->c≠b)/\∀p∈X.pn++b_,p.1≠b):Inv X b_ σ H' s':=by
 let⟨h',g',d',t',o'⟩:=s';have e:o'=s.os:=ho;subst e;exact I.call (g':=g') (t':=t') (d':=d') u hok hg hch
end
abbrev XK:=Q3->Option Addr->Hp->Prop
abbrev St:=List (Option V)
abbrev VK:=V->Hp->Prop
abbrev TE:=St->Hp->VK->Prop
abbrev TT:=St->Hp->(Bool->Hp->Prop)->Prop
abbrev TA:=St->Hp->(List V->Hp->Prop)->Prop
structure yk where
 nx:St->Hp->Prop
 rt:VK
 bk:St->Hp->Prop:=λ_ _=>False
 ct:St->Hp->Prop:=λ_ _=>False
abbrev TS:=yk->St->Hp->Prop
def EP(X:Cx)(b_:List (Addr×Obj))(σ:St)(Q:VK)(u:Q3)(s':Q4):Prop:=∃v H',Inv X b_ σ H' s'/\bS v u/\Q v H'
def TP(X:Cx)(b_:List (Addr×Obj))(σ:St)(Q:Bool->Hp->Prop)(b:Bool)(s':Q4):Prop:=∃H',Inv X b_ σ H' s'/\Q b H'
def AP(X:Cx)(b_:List (Addr×Obj))(σ:St)(Q:List V->Hp->Prop)(us:List Q3)(s':Q4):Prop:=∃vs H',Inv X b_ σ H' s'/\bE vs us/\Q vs H'
def SP(X:Cx)(b_:List (Addr×Obj))(D:yk)(f:Flow)(s':Q4):Prop:=
 match f with
 |.next=>∃σ' H',Inv X b_ σ' H' s'/\D.nx σ' H'
 |.brk=>∃σ' H',Inv X b_ σ' H' s'/\D.bk σ' H'
 |.cont=>∃σ' H',Inv X b_ σ' H' s'/\D.ct σ' H'
 |.ret u=>∃v σ' H',Inv X b_ σ' H' s'/\bS v u/\D.rt v H'
def PE(X:Cx)(e:QF)(t:TE):Prop:=
 ∀(b_:List (Addr×Obj)) (s:Q4) (σ:St) (H:Hp) (Q:VK),Inv X b_ σ H s->t σ H Q->wpAny (ZQ X.prog X.w) X.A (eval e X.env) (EP X b_ σ Q) X.xe s
def PT(X:Cx)(e:QF)(t:TT):Prop:=
 ∀(b_:List (Addr×Obj)) (s:Q4) (σ:St) (H:Hp) (Q:Bool->Hp->Prop),Inv X b_ σ H s->t σ H Q->wpAny (ZQ X.prog X.w) X.A (isTrue e X.env (eval e X.env)) (TP X b_ σ Q) X.xe s
def PW(X:Cx)(e:QF)(t:TT):Prop:=
 ∀(M_:Sem Q3) (b_:List (Addr×Obj)) (s:Q4) (σ:St) (H:Hp) (Q:Bool->Hp->Prop),Inv X b_ σ H s->t σ H Q->wpAny (ZQ X.prog X.w) X.A (isTrue e X.env M_) (TP X b_ σ Q) X.xe s
def PW.pt{X:Cx}{e:QF}{t:TT}(h:PW X e t):PT X e t:=h _
def PA(X:Cx)(es:List QF)(t:TA):Prop:=
 ∀(pos:Pos) (b_:List (Addr×Obj)) (s:Q4) (σ:St) (H:Hp) (Q:List V->Hp->Prop),Inv X b_ σ H s->t σ H Q->wpAny (ZQ X.prog X.w) X.A (spliced (ZL pos (Q6 es X.env))) (AP X b_ σ Q) X.xe s
def PS(X:Cx)(st:ZC)(t:TS):Prop:=
 ∀(b_:List (Addr×Obj)) (s:Q4) (σ:St) (H:Hp) (D:yk),Inv X b_ σ H s->t D σ H->wpAny (ZQ X.prog X.w) X.A (exec st X.env) (SP X b_ D) X.xe s
def PSs(X:Cx)(st:List ZC)(t:TS):Prop:=
 ∀(b_:List (Addr×Obj)) (s:Q4) (σ:St) (H:Hp) (D:yk),Inv X b_ σ H s->t D σ H->wpAny (ZQ X.prog X.w) X.A (execs st X.env) (SP X b_ D) X.xe s
theorem thn{α:Type}{t:Sem α}{Q Q':α->Q4->Prop}{M:Model}{A:ZE}{E:Q3->Q4->Prop}{s:Q4}(h:wpAny M A t Q E s)(hQ:∀a s,Q a s->Q' a s):wpAny M A t Q' E s:=ZN h hQ λ_ _ x=>x
variable{b:QF}{ta tb:TE}{pos:Pos}
section
def LZ(i:Nat):TE:=λσ H Q=>∃v,σ[i]?=some (some v)/\Q v H
def tC(v:V):TE:=λ_ H Q=>Q v H
theorem Kd{i:Nat}{x:Str}{pos:Pos}(hN:X.N[i]?=some x)(hv:Vis X.env.scope x)(hd:(x == ("__debug__":Str))=false:=by decide)(hcd:(x == ("__classdict__":Str))=false:=by decide):PE X (.Name x pos) (LZ i):=by
 intro b_ s σ H Q I h;let⟨v,e,h⟩:=h;let⟨m,hn,hl⟩:=I.loc;let⟨u,r,l⟩:=hl i x v hN e hv;have fin:EP X b_ σ Q u s:=⟨v,H,I,r,h⟩;rcases l with⟨hk,hm⟩|⟨hk,c,hc,x_⟩;exact wpAny_Name (wpAny_loadName_local I.ok.kind hk hn hm fin) hd;rcases hk with hk|hk;exact wpAny_Name (wpAny_loadName_cell I.ok.kind hk hc x_ fin) hd;exact wpAny_Name (wpAny_loadName_free I.ok.kind hk hc x_ fin hcd) hd
theorem Kk{i j pos}:PE X (.Constant (.int i) j pos) (tC (.int i)):=λ_ _ _ H _ I h=>wpAny_Constant_int ⟨.int i,H,I.tok _,⟨_,rfl⟩,h⟩
def N7{b j pos}:PE X (.Constant (.bool b) j pos) (tC (.bl b)):=λ_ _ _ H _ I h=>Constant_bool ⟨.bl b,H,I,rfl,h⟩
def Kh{j pos}:PE X (.Constant .none j pos) (tC .non):=λ_ _ _ H _ I h=>Constant_none ⟨.non,H,I,rfl,h⟩
theorem Kf{x j pos}:PE X (.Constant (.str x) j pos) (tC (.str x)):=λ_ _ _ H _ I h=>Calls.Constant_str ⟨.str x,H,I.tok _,⟨_,rfl⟩,h⟩
def Gl(X:Cx)(x:Str):Prop:=X.env.kindOf x=some .globalImplicit
theorem mV{E:Q3->Q4->Prop}{b_:List (Addr×Obj)}{s:Q4}{σ:St}{H:Hp}{x:Str}{u:Q3}{pos:Pos}{Q:Q3->Q4->Prop}(I:Inv X b_ σ H s)(hg:Gl X x)(hm:X.mg x=some u)(h:Q u s)
  (hd:(x == ("__debug__":Str))=false:=by decide):wpAny (ZQ X.prog X.w) X.A (eval (.Name x pos) X.env) Q E s:=
 Calls.Name_function_global I.ok.kind hg (Calls.loadGlobal_global (by rw[I.ok.glob];exact I.mod.glob.keeps I.bk) hm h) hd
theorem oI{E:Q3->Q4->Prop}{b_:List (Addr×Obj)}{s:Q4}{σ:St}{H:Hp}{x:Str}{u:Q3}{pos:Pos}{Q:Q3->Q4->Prop}(I:Inv X b_ σ H s)(hg:Gl X x)(hm:X.mg x=none)(hv:ZS x=some u)(h:Q u s)
  (hn:x≠"__name__":=by decide) (hd:(x == ("__debug__":Str))=false:=by decide):wpAny (ZQ X.prog X.w) X.A (eval (.Name x pos) X.env) Q E s:=by
 let⟨mb,h1,h2⟩:=I.mod.blt;exact Calls.Name_function_global I.ok.kind hg (Calls.loadGlobal_builtin (by rw[I.ok.glob];exact I.mod.glob.keeps I.bk) hm (by rw[I.ok.blt];exact h1.keeps I.bk) ((h2 x hn).trans hv) h) hd
theorem GN{x:Str}{v:V}{u:Q3}{pos:Pos}(hg:Gl X x)(hm:X.mg x=some u)(r:bS v u)(hd:(x == ("__debug__":Str))=false:=by decide):PE X (.Name x pos) (tC v):=
 λ_ _ _ H _ I h=>mV I hg hm ⟨v,H,I,r,h⟩ hd
theorem GS{x:Str}{v:V}{u:Q3}{pos:Pos}(hg:Gl X x)(hm:X.mg x=none)(hv:ZS x=some u)(r:bS v u)(hn:x≠"__name__":=by decide)(hd:(x == ("__debug__":Str))=false:=by decide):PE X (.Name x pos) (tC v):=
 λ_ _ _ H _ I h=>oI I hg hm hv ⟨v,H,I,r,h⟩ hn hd
variable{a:QF}
def PC(X:Cx)(op:CmpOp)(a b:QF)(t:TE):Prop:=
 ∀(b_:List (Addr×Obj)) (s:Q4) (σ:St) (H:Hp) (Q:VK),Inv X b_ σ H s->t σ H Q->
  wpAny (ZQ X.prog X.w) X.A (eval a X.env) (λv s₁=>wpAny (ZQ X.prog X.w) X.A (eval b X.env) (λu s₂=>wpAny (ZQ X.prog X.w) X.A (compareOp op v u) (EP X b_ σ Q) X.xe s₂) X.xe s₁) X.xe s
def tB(t:TE):TT:=λσ H Q=>t σ H λx H1=>∃c,x=.bl c/\Q c H1
theorem J0{op:CmpOp}{t:TE}(h:PC X op a b t)(h1:behindInMarks op b=false:=by first|exact nobehind _ ∅ ∅|rfl):PT X (.Compare a [op] [b] pos) (tB t):=by
 intro b_ s σ H Q I hw;refine wpAny_isTrue_Compare1 (thn (h b_ s σ H _ I hw) λv s1 h1=>thn h1 λu s2 h2=>thn h2 λc s3 hz=>?_) h1;let⟨x,H1,I1,r1,q1⟩:=hz;let⟨d,rfl,q⟩:=q1;cases r1;exact wpAny_truthy_bool ⟨H1,I1,q⟩
theorem JY{e:QF}{t:TE}(h:PE X e t)(he:∀M_,isTrue e X.env M_=(do let v <-M_;standAt e.pos;holding [v] (truthy v)):=by intro _;rfl):PT X e (tB t):=by
 intro b_ s σ H Q I hw;refine isTrue_plain (thn (h b_ s σ H _ I hw) λv s1 ⟨x,H1,I1,r1,q1⟩=>?_) (he _);let⟨d,rfl,q⟩:=q1;cases r1;exact wpAny_truthy_bool ⟨H1,I1,q⟩
variable{tA tB':TT}{s_:List QF}
def Ph(t u:TT):TT:=λσ H Q=>t σ H λc H1=>if c=true then u σ H1 Q else Q false H1
def tOr(t u:TT):TT:=λσ H Q=>t σ H λc H1=>if c=true then Q true H1 else u σ H1 Q
def Pd(t:TT):TT:=λσ H Q=>t σ H λc H1=>Q (!c) H1
theorem Gv(ha:PT X a tA):PW X (.BoolOp .And [a] pos) tA:=by
 intro wh b_ s σ H Q I h;refine isTrue_and (thn (ha b_ s σ H Q I h) λc s1 e=>?_);cases c with
 |true=>exact isTrue_and_nil e
 |false=>exact e
theorem JV(ha:PT X a tA):PW X (.BoolOp .Or [a] pos) tA:=by
 intro wh b_ s σ H Q I h;refine isTrue_or (thn (ha b_ s σ H Q I h) λc s1 e=>?_);cases c with
 |false=>exact isTrue_or_nil e
 |true=>exact e
theorem JW(ha:PT X a tA)(hb:PW X (.BoolOp .And (b::s_) pos) tB'):PW X (.BoolOp .And (a::b::s_) pos) (Ph tA tB'):=by
 intro wh b_ s σ H Q I h;refine isTrue_and (thn (ha b_ s σ H _ I h) λc s1 ⟨H1,I1,q1⟩=>?_);cases c with
 |true=>exact hb wh b_ s1 σ H1 Q I1 q1
 |false=>exact⟨H1,I1,q1⟩
theorem NR(ha:PT X a tA)(hb:PW X (.BoolOp .Or (b::s_) pos) tB'):PW X (.BoolOp .Or (a::b::s_) pos) (tOr tA tB'):=by
 intro wh b_ s σ H Q I h;refine isTrue_or (thn (ha b_ s σ H _ I h) λc s1 ⟨H1,I1,q1⟩=>?_);cases c with
 |true=>exact⟨H1,I1,q1⟩
 |false=>exact hb wh b_ s1 σ H1 Q I1 q1
theorem JZ(ha:PT X a tA):PT X (.UnaryOp .Not a pos) (Pd tA):=by
 intro b_ s σ H Q I h;exact isTrue_not (ha b_ s σ H (λc H1=>Q (!c) H1) I h)
def Pc(ta tb:TE):TE:=λσ H Q=>ta σ H λx H1=>∃c,x=.bl c/\if c=true then Q (.bl true) H1 else tb σ H1 Q
def Kg{op}{t:TE}(h:PE X a t):PE X (.BoolOp op [a] pos) t:=λb_ s σ H Q I hw=>BoolOp_one (h b_ s σ H Q I hw)
theorem NV(ha:PE X a ta)(hb:PE X (.BoolOp .Or (b::s_) pos) tb):PE X (.BoolOp .Or (a::b::s_) pos) (Pc ta tb):=by
 intro b_ s σ H Q I h;refine BoolOp_or (thn (ha b_ s σ H _ I h) λv s1 hz=>?_);let⟨x,H1,I1,r1,q1⟩:=hz;let⟨c,rfl,q1⟩:=q1;cases r1;refine wpAny_truthy_bool ?_;cases c with
 |false=>exact hb b_ s1 σ H1 Q I1 q1
 |true=>exact⟨.bl true,H1,I1,rfl,q1⟩
end
def SqL(K:Q1)(H:Hp)(a:Addr)(xs:List V):Prop:=
 Rd H a (.lst xs)\/
  ∃(o:Obj) (its:Array Q3) (n:Nat),K.lookup a=some o/\o.cls=.type "list"/\o.dict=none/\o.data=.seq its n/\its.size<=QU/\bE xs its.toList
def SqT(K:Q1)(H:Hp)(a:Addr)(xs:List V):Prop:=
 Rd H a (.tup xs)\/
  ∃(o:Obj) (its:Array Q3) (n:Nat),K.lookup a=some o/\(o.cls=.type "tuple"/\o.dict=none)/\o.data=.seq its n/\its.size<=QU/\bE xs its.toList
def QD:Q3->Option V
 |.none=>some .non
 |.bool b=>some (.bl b)
 |.int i _=>some (.int i)
 |.str x _=>some (.str x)
 |.bytes b _=>some (.byt b)
 |.float b _=>some (.flt b)
 |.ref a=>some (.ref a)
 |.type n=>some (.ty n)
 |_=>none
theorem bS.abs{x:V}{u:Q3}(r:bS x u):QD u=some x:=by
 cases x with
 |non=>cases r;rfl
 |bl _=>cases r;rfl
 |int _=>let⟨t,rfl⟩:=r;rfl
 |str _=>let⟨t,rfl⟩:=r;rfl
 |byt _=>let⟨t,rfl⟩:=r;rfl
 |flt _=>let⟨t,rfl⟩:=r;rfl
 |ref _=>cases r;rfl
 |ty _=>cases r;rfl
def bS.inj{x y:V}{u:Q3}(r:bS x u)(q:bS y u):x=y:=Yc (r.abs.symm.trans q.abs)
theorem bE.inj:∀{xs ys:List V} {us:List Q3},bE xs us->bE ys us->xs=ys
 |_,_,_,.nil,.nil=>rfl
 |_,_,_,.cons r t,.cons r' t'=>by rw[r.inj r',bE.inj t t']
variable{σ:St}
section
variable{xs ys:List V}
def SqL.of{K:Q1}(h:H a=some (.lst xs)):SqL K H a xs:=.inl (.inl h)
def SqT.of{K:Q1}(h:H a=some (.tup xs)):SqT K H a xs:=.inl (.inl h)
theorem Inv.list(I:Inv X b_ σ H s)(h:SqL X.K H a xs):∃its:List Q3,bE xs its/\PlainL s.heap a its.toArray/\xs.length<=QU:=by
 rcases h with h|⟨o,its,n,hk,hc,hd,hs,hz,r⟩;let⟨z,its,n,r,e⟩:=h.ok I.hok;exact⟨its,r,⟨_,n,e,rfl,rfl,rfl⟩,z⟩;refine⟨its.toList,r,⟨o,n,I.kIn a o hk,hc,hd,by simpa using hs⟩,?_⟩;have e:=r.length;simp only[ZY]at e;omega
theorem Inv.tuple(I:Inv X b_ σ H s)(h:SqT X.K H a xs):∃its:List Q3,bE xs its/\IsTup s.heap a its.toArray/\xs.length<=QU:=by
 rcases h with h|⟨o,its,n,hk,hc,hs,hz,r⟩;let⟨z,its,r,p⟩:=h.ok I.hok;exact⟨its,r,p.tup,z⟩;refine⟨its.toList,r,⟨o,I.kIn a o hk,hc.1,n,by simpa using hs⟩,?_⟩;have e:=r.length;simp only[ZY]at e;omega
theorem Inv.list_inj(I:Inv X b_ σ H s)(h:SqL X.K H a xs)(h':SqL X.K H a ys):xs=ys:=by
 let⟨its,r,⟨o,n,e,_,_,d⟩,_⟩:=I.list h;let⟨its',r',⟨o',n',e',_,_,d'⟩,_⟩:=I.list h';rw[e]at e';cases e';rw[d]at d';injection d' with d1 _;have:its=its':=by simpa using congrArg Array.toList d1
 subst this;exact r.inj r'
theorem Inv.tuple_inj(I:Inv X b_ σ H s)(h:SqT X.K H a xs)(h':SqT X.K H a ys):xs=ys:=by
 let⟨its,r,⟨o,e,_,n,d⟩,_⟩:=I.tuple h;let⟨its',r',⟨o',e',_,n',d'⟩,_⟩:=I.tuple h';rw[e]at e';cases e';rw[d]at d';injection d' with d1 _;have:its=its':=by simpa using congrArg Array.toList d1
 subst this;exact r.inj r'
end
abbrev Cx.wish(X:Cx)(E:Q3->Q4->Prop):Cx:={ X with xe:=E }
abbrev Cx.nox(X:Cx):Cx:=X.wish λ_ _=>False
theorem Cx.Ok.wish{X:Cx}(ok:X.Ok)(E:Q3->Q4->Prop):(X.wish E).Ok:=
 ⟨ok.mod,ok.kind,ok.glob,ok.blt,ok.above,ok.inj,ok.has,ok.cab,ok.hd,ok.frames,ok.stk,ok.exf,ok.bs,ok.bsz,ok.noex,ok.exfs,ok.funs,ok.frf⟩
theorem Cx.Ok.unwish{X:Cx}{E:Q3->Q4->Prop}(ok:(X.wish E).Ok):X.Ok:=
 ⟨ok.mod,ok.kind,ok.glob,ok.blt,ok.above,ok.inj,ok.has,ok.cab,ok.hd,ok.frames,ok.stk,ok.exf,ok.bs,ok.bsz,ok.noex,ok.exfs,ok.funs,ok.frf⟩
variable{E:Q3->Q4->Prop}
theorem Inv.wish(I:Inv X b_ σ H s)(E:Q3->Q4->Prop):Inv (X.wish E) b_ σ H s:=⟨I.ok.wish E,I.os,I.bare,I.base,I.loc,I.cell,I.free,I.freeC,I.pin,I.hok,I.len⟩
theorem Inv.unwish(I:Inv (X.wish E) b_ σ H s):Inv X b_ σ H s:=⟨I.ok.unwish,I.os,I.bare,I.base,I.loc,I.cell,I.free,I.freeC,I.pin,I.hok,I.len⟩
theorem SP.unwish{D:yk}{f:Flow}{s':Q4}(h:SP (X.wish E) b_ D f s'):SP X b_ D f s':=by
 cases f with
 |next=>let⟨σ',H',I,q⟩:=h;exact⟨σ',H',I.unwish,q⟩
 |brk=>let⟨σ',H',I,q⟩:=h;exact⟨σ',H',I.unwish,q⟩
 |cont=>let⟨σ',H',I,q⟩:=h;exact⟨σ',H',I.unwish,q⟩
 |ret u=>let⟨v,σ',H',I,r,q⟩:=h;exact⟨v,σ',H',I.unwish,r,q⟩
theorem PSs.nox{st:List ZC}{t:TS}(h:PSs X.nox st t):PSs X st t:=λb_ s σ H D I hw=>
 ZN (h b_ s σ H D (I.wish _) hw) (λ_ _ q=>q.unwish) λ_ _ z=>False.elim z
variable{te:TE}
section
variable{st:ZC}{s_:List ZC}{t u:TS}{e:QF}
def Jw:TS:=λD σ H=>D.nx σ H
def Pa(t u:TS):TS:=λD σ H=>t { D with nx:=u D } σ H
def Gz:PSs X [] Jw:=λ_ _ σ H _ I h=>wpAny_execs_nil ⟨σ,H,I,h⟩
theorem Ce(h1:PS X st t)(h2:PSs X s_ u):PSs X (st::s_) (Pa t u):=by
 intro b_ s σ H D I h;refine wpAny_execs_cons (thn (h1 b_ s σ H { D with nx:=u D } I h) λf s1 q=>?_);cases f with
 |next=>
  let⟨σ',H',I',q⟩:=q;exact h2 b_ s1 σ' H' D I' q
 |ret v=>exact q
 |brk=>exact q
 |cont=>exact q
theorem Gy(h1:PS X st t):PSs X [st] t:=by
 intro b_ s σ H D I h;refine wpAny_execs_cons (thn (h1 b_ s σ H D I h) λf s1 q=>?_);cases f with
 |next=>exact wpAny_execs_nil q
 |ret v=>exact q
 |brk=>exact q
 |cont=>exact q
theorem Inv.quiet{b_:List (Addr×Obj)}{σ:St}{H:Hp}{s:Q4}(I:Inv X b_ σ H s):interactive X.env=false:=by simp[interactive,I.ok.kind]
def Jy(te:TE):TS:=λD σ H=>te σ H λ_ H1=>D.nx σ H1
theorem GB(he:PE X e te)(hs:Zc e none pos.line X.env=pure false:=by rfl):PS X (.Expr e pos) (Jy te):=by
 intro b_ s σ H D I h;exact wpAny_Expr_any (thn (he b_ s σ H _ I h) λv s1 ⟨x,H1,I1,r1,q1⟩=>⟨σ,H1,I1,q1⟩) I.quiet hs
def Pb(te:TE):TS:=λD σ H=>te σ H D.rt
theorem J4(he:PE X e te):PS X (.Return (some e) pos) (Pb te):=by
 intro b_ s σ H D I h;exact wpAny_Return_some (thn (he b_ s σ H _ I h) λv s1 ⟨x,H1,I1,r1,q1⟩=>⟨x,σ,H1,I1,r1,q1⟩)
def Pf(c:TT)(t u:TS):TS:=λD σ H=>c σ H λb H1=>if b=true then t D σ H1 else u D σ H1
theorem NT{c:QF}{a b:List ZC}{tc:TT}(hc:PT X c tc)(ha:PSs X a t)(hb:PSs X b u):PS X (.If c a b pos) (Pf tc t u):=by
 intro b_ s σ H D I h;refine wpAny_If (thn (hc b_ s σ H _ I h) λd s1 ⟨H1,I1,q1⟩=>?_);cases d with
 |true=>exact ha b_ s1 σ H1 D I1 q1
 |false=>exact hb b_ s1 σ H1 D I1 q1
def vQ:TS:=λ_ _ _=>False
def Ci:PS X st vQ:=λ_ _ _ _ _ _ h=>h.elim
def zw{sts:List ZC}:PSs X sts vQ:=λ_ _ _ _ _ _ h=>h.elim
end
abbrev TG:=V->St->Hp->(St->Hp->Prop)->Prop
abbrev TGs:=List V->St->Hp->(St->Hp->Prop)->Prop
def PG(X:Cx)(zz:QF)(t:TG):Prop:=
 ∀(b_:List (Addr×Obj)) (s:Q4) (σ:St) (H:Hp) (v:V) (u:Q3) (Q:St->Hp->Prop),Inv X b_ σ H s->bS v u->t v σ H Q->
  wpAny (ZQ X.prog X.w) X.A (assign zz X.env u) (λ_ s'=>∃σ' H',Inv X b_ σ' H' s'/\Q σ' H') X.xe s
def PGs(X:Cx)(ts:List QF)(t:TGs):Prop:=
 ∀(b_:List (Addr×Obj)) (s:Q4) (σ:St) (H:Hp) (vs:List V) (us:List Q3) (Q:St->Hp->Prop),Inv X b_ σ H s->bE vs us->t vs σ H Q->
  wpAny (ZQ X.prog X.w) X.A (assignInOrder ((assignEach ts X.env).map (·.2)) us) (λ_ s'=>∃σ' H',Inv X b_ σ' H' s'/\Q σ' H') X.xe s
abbrev Mx:=V->V->V->Hp->(Hp->Prop)->Prop
def O4(X:Cx)(t:Mx):Prop:=
 ∀(b_:List (Addr×Obj)) (s:Q4) (σ:St) (H:Hp) (o i v:V) (ov iv u:Q3) (Q:Hp->Prop),Inv X b_ σ H s->bS o ov->bS i iv->bS v u->t o i v H Q->
  wpAny (ZQ X.prog X.w) X.A (setItem ov iv u) (λ_ s'=>∃H',Inv X b_ σ H' s'/\Q H') X.xe s
def xY(i:Nat):TG:=λv σ H Q=>Q (σ.set i (some v)) H
theorem GJ{i:Nat}{x:Str}(hN:X.N.Nodup)(hi:X.N[i]?=some x)(hx:Loc X.env.scope x)(hf:X.fn x=true\/X.env.scope.names.lookup x=some .local:=by first|exact .inl rfl|exact .inr rfl|assumption):PG X (.Name x pos) (xY i):=by
 intro b_ s σ H v u Q I r h;exact wpAny_assign_Name (l7 I hN hi hx r (λs' I'=>⟨_,H,I',h⟩) hf)
def PU:TGs:=λvs σ H Q=>vs=[]/\Q σ H
def Lh(t:TG)(u:TGs):TGs:=λvs σ H Q=>∃v r,vs=v::r/\t v σ H λσ' H'=>u r σ' H' Q
theorem GI:PGs X [] PU:=by
 intro b_ s σ H vs us Q I r h;let⟨e,h⟩:=h;subst e;cases r;exact assignInOrder_nil ⟨σ,H,I,h⟩
theorem Cm{e:QF}{es:List QF}{t:TG}{u:TGs}(h1:PG X e t)(h2:PGs X es u)
  (hs:(assignEach (e::es) X.env).map (·.2)=assign e X.env::(assignEach es X.env).map (·.2):=by rfl):PGs X (e::es) (Lh t u):=by
 intro b_ s σ H vs us Q I r h;let⟨v,vr,e1,h⟩:=h;subst e1;cases r with
 |cons r rr=>
  rw[hs];refine assignInOrder_cons (thn (h1 b_ s σ H _ _ _ I r h) λ_ s1 hz=>?_);let⟨σ1,H1,I1,q1⟩:=hz;exact h2 b_ s1 σ1 H1 _ _ Q I1 rr q1
def PQ(K:Q1)(n:Nat)(t:TGs):TG:=λv σ H Q=>∃a xs,v=.ref a/\SqT K H a xs/\xs.length=n/\t xs σ H Q
theorem J9{es:List QF}{k:Nat}{t:TGs}{n:Nat}(hc:X.calm=true)(h:PGs X es t)
  (hn:(assignEach es X.env).length=n:=by rfl) (hst:(assignEach es X.env).findIdx? (·.1)=none:=by rfl):PG X (.Tuple es k pos) (PQ X.K n t):=by
 intro b_ s σ H v u Q I r hw;let⟨a,xs,e1,hq,hl,hw⟩:=hw;subst e1;cases r;let⟨its,rv,ht,hz⟩:=I.tuple hq;refine assign_Tuple_tuple (I.ok.hd hc) ht (by simp[hn,<-hl,rv.length]) hst λh' hx=>?_;have I1:Inv X b_ σ H { s with heap:=h' }:=I.kept (t':=s.toks) λb o e=>hx b o (ZZ (QY e)) e;exact h b_ _ σ H xs _ Q I1 ‹rv› hw
def PR(to ti:TE)(t:Mx):TG:=λv σ H Q=>to σ H λo H1=>ti σ H1 λi H2=>t o i v H2 λH3=>Q σ H3
theorem Ka{o i:QF}{to ti:TE}{t:Mx}(ho:PE X o to)(hi:PE X i ti)(hs:O4 X t)
  (ha:∀v,assign (.Subscript o i pos) X.env v=(do
   let ov <-holding [v] (eval o X.env)
   let iv <-holding [v,ov] (eval i X.env)
   standAt pos
   holding [v,ov,iv] (setItem ov iv v)
   release [v,ov,iv] []):=by intro _;rfl):PG X (.Subscript o i pos) (PR to ti t):=by
 intro b_ s σ H v u Q I r h;rw[ha];refine Q2 (wpAny_holding (thn (ho b_ s σ H _ I h) λov s1 hz=>?_));let⟨x,H1,I1,r1,q1⟩:=hz;refine Q2 (wpAny_holding (thn (hi b_ s1 σ H1 _ I1 q1) λiv s2 hz=>?_));let⟨y,H2,I2,r2,q2⟩:=hz;refine Q2 (wpAny_standAt (Q2 (wpAny_holding (thn (hs b_ s2 σ H2 x y v ov iv u _ I2 r1 r2 r q2) λ_ s3 ⟨H3,I3,q3⟩=>?_))));exact wpAny_release ⟨σ,H3,I3,q3⟩
def JC(te:TE)(g:TG):TS:=λD σ H=>te σ H λx H1=>g x σ H1 D.nx
theorem J7{tg e:QF}{te:TE}{g:TG}(he:PE X e te)(hg:PG X tg g)(hs:swapsWithSole [tg] e pos.line X.env=pure false:=by rfl)(hw:swappedStores [tg] e X.env=pure none:=by rfl)
  (h1:(assignEach [tg] X.env).map (·.2)=[assign tg X.env]:=by rfl):PS X (.Assign [tg] e pos) (JC te g):=by
 intro b_ s σ H D I h;refine wpAny_Assign_stores (thn (he b_ s σ H _ I h) λv s1 hz=>?_) hs hw;let⟨x,H1,I1,r1,q1⟩:=hz;rw[h1];exact thn (hg b_ s1 σ H1 x v _ I1 r1 q1) λ_ s2 q=>q
theorem J3{i:Nat}{x:Str}{e:QF}{te:TE}{g_:Pos}(hN:X.N.Nodup)(hi:X.N[i]?=some x)(hx:Loc X.env.scope x)(he:PE X e te)(hs:Zc e (some (.Name x g_)) pos.line X.env=pure false:=by rfl)(hf:X.fn x=true\/X.env.scope.names.lookup x=some .local:=by first|exact .inl rfl|exact .inr rfl|assumption) :
  PS X (.Assign [.Name x g_] e pos) (JC te (xY i)):=by
 intro b_ s σ H D I h;refine wpAny_Assign_Name (thn (he b_ s σ H _ I h) λv s1 hz=>?_) hs;let⟨y,H1,I1,r1,q1⟩:=hz;exact l7 I1 hN hi hx r1 (λs2 I2=>⟨_,H1,I2,q1⟩) hf
structure It where
 go:Nat->Hp->Prop
 yld:Nat->Hp->V->Hp->Prop
 stop:Nat->Hp->Prop
def yq(X:Cx)(b_:List (Addr×Obj))(H:Hp)(b:Addr):Prop:=
 H b=none/\b≠X.env.locals/\b∉X.fs/\(b∈X.ex\/X.s₀.heap.objs.size<=b)/\(∀x c,X.env.cells.lookup x=some c->c≠b)/\∀p∈X.pn++b_,p.1≠b
theorem Inv.fpOk{X:Cx}{b_:List (Addr×Obj)}{σ:St}{H H':Hp}{s:Q4}{b:Addr}(I:Inv X b_ σ H s)(hb:s.heap.objs.size<=b)(hn:H' b=none):yq X b_ H' b:=by
 refine⟨hn,XH (QN I.lt hb),I.nofs hb,.inr (ZP I.sz hb),λx c e z=>?_,λp hp z=>?_⟩;let⟨v,q⟩:=I.cell x c e;exact absurd (QN q.lt (by rw[z];exact hb)) (Zm _);exact absurd (QN (QY (I.pin p hp).1) (by rw[z];exact hb)) (Zm _)
structure Ik(P:Z7)(w:ZR)(K:Q1)(tg:QF)(J:It)(fp:List Addr)(it:Addr)(tn:Nat->Heap->Prop):Prop where
 mem:it∈fp
 obj:∀i h,tn i h->∀b∈fp,∃o,h.get? b=some o/\∀v,o.data≠.cell v
 keep:∀i h h',tn i h->(∀b∈fp,∀o,h.get? b=some o->h'.get? b=some o)->tn i h'
 item:∀(X:Cx),X.prog=P->X.w=w->X.K=K->X.calm=true->∀(i:Nat) (b_:List (Addr×Obj)) (s:Q4) (σ:St) (H:Hp) (E:Q3->Q4->Prop),Inv X b_ σ H s->(∀b∈fp,yq X b_ H b)->tn i s.heap->J.go i H->
  wpAny (ZQ P w) X.A (pyNext (.ref it)) (λr s1=>∃u,r=some u/\
   wpAny (ZQ P w) X.A (letOwnedTupleGo tg (.ref it) u) (λ_ s2=>∃x H',Inv X b_ σ H' s2/\bS x u/\J.yld i H x H'/\tn (i+1) s2.heap/\∀b∈fp,H' b=none) E s1) E s
 done:∀(X:Cx),X.prog=P->X.w=w->X.K=K->X.calm=true->∀(i:Nat) (b_:List (Addr×Obj)) (s:Q4) (σ:St) (H:Hp) (E:Q3->Q4->Prop),Inv X b_ σ H s->(∀b∈fp,yq X b_ H b)->tn i s.heap->J.stop i H->
  wpAny (ZQ P w) X.A (pyNext (.ref it)) (λr s1=>r=none/\Inv X b_ σ H s1) E s
 self:∀(A:ZE) (i:Nat) (s:Q4) (Q:Q3->Q4->Prop) (E:Q3->Q4->Prop),tn i s.heap->Q (.ref it) s->wpAny (ZQ P w) A (pyIter (.ref it)) Q E s
abbrev TI:=St->Hp->(It->Hp->Prop)->Prop
def PIE(X:Cx)(b_:List (Addr×Obj))(σ:St)(tg:QF)(R:It->Hp->Prop)(itv:Q3)(s2:Q4):Prop:=
 ∃(it:Addr) (fp:List Addr) (tn:Nat->Heap->Prop) (J:It) (H':Hp),itv=.ref it/\Inv X b_ σ H' s2/\Ik X.prog X.w X.K tg J fp it tn/\tn 0 s2.heap/\(∀b∈fp,yq X b_ H' b)/\R J H'
def PI(X:Cx)(tg iter:QF)(wi:TI):Prop:=
 ∀(b_:List (Addr×Obj)) (s:Q4) (σ:St) (H:Hp) (R:It->Hp->Prop),Inv X b_ σ H s->wi σ H R->
  wpAny (ZQ X.prog X.w) X.A (eval iter X.env) (λv s1=>wpAny (ZQ X.prog X.w) X.A (pyIter v) (PIE X b_ σ tg R) X.xe s1) X.xe s
theorem Dq {M : Model} {A : ZE} {E : Q3 -> Q4 -> Prop} {s : Q4} {tg : QF} {it : Addr} {u : Q3} {o : Obj} {n : String} {vs : Array Q3} {Q : Unit -> Q4 -> Prop} (ho : s.heap.get? it = some o) (hc : o.cls = .type n) (hd : o.data = .fields vs)
    (hn:["enumerate","zip","dict_itemiterator","dict_reverseitemiterator","odict_iterator","itertools.zip_longest","itertools.pairwise"].contains n=false) (hQ:Q () s):wpAny M A (letOwnedTupleGo tg (.ref it) u) Q E s:=by
  unfold letOwnedTupleGo;cases tg<;>first
    |exact QJ hQ
    | (cases u <;> first
        |exact QJ hQ
        | (refine Q2 (wpAny_load ho ?_)
           rw[hc,hd];show wpAny M A (if (["enumerate","zip","dict_itemiterator","dict_reverseitemiterator","odict_iterator","itertools.zip_longest","itertools.pairwise"].contains n&&vs[0]? == some (rawInt _))=true then _ else _) Q E s;rw[XS (by intro h;rw[hn,YQ]at h;cases h)];exact QJ hQ))
def Itl(K:Q1)(a:Addr):It:=
 ⟨λi H=>∃xs x,SqL K H a xs/\xs[i]?=some x,λi H x H'=>H'=H/\∀xs,SqL K H a xs->xs[i]?=some x,λi H=>∃xs,SqL K H a xs/\xs.length<=i⟩
def Itt(K:Q1)(a:Addr):It:=
 ⟨λi H=>∃xs x,SqT K H a xs/\xs[i]?=some x,λi H x H'=>H'=H/\∀xs,SqT K H a xs->xs[i]?=some x,λi H=>∃xs,SqT K H a xs/\xs.length<=i⟩
def Itr(lo:Int)(n:Nat):It:=⟨λi _=>i<n,λi H x H'=>H'=H/\x=.int (lo+i),λi _=>n<=i⟩
theorem yQ{P:Z7}{w:ZR}{K:Q1}{tg:QF}(a it:Addr):Ik P w K tg (Itl K a) [it] it (λi h=>h.IsListIter it a i) where
 mem:=by simp
 obj:=λi h st b hb=>by
  have e:b=it:=by simpa using hb
  subst e;let⟨o,e,c,d⟩:=st;exact⟨o,e,λv z=>by rw[d]at z;cases z⟩
 keep:=λi h h' st k=>st.at λo e=>k it nofun o e
 item:=by
  intro X hP hw hK hc i b_ s σ H E I hf st hg;subst hP hw hK;let⟨xs,x,hq,hx⟩:=hg;let⟨its,rv,p,hz⟩:=I.list hq;let⟨u,hu,ru⟩:=rv.get hx;let⟨f0,f1,f2,f3,f4,f5⟩:=hf it nofun;refine wpAny_pyNext_list_item st p.isList (x:=u) ‹hu› λh' st' sb=>?_;have I1:Inv X b_ σ H { s with heap:=h' }:=I.turned (t':=s.toks) (λb o hb e=>(sb.2 b hb).trans e) f0 f1 f3 f4 f5;let⟨o,e,c,d⟩:=id st';exact⟨u,rfl,Dq (s:={ s with heap:=h' }) e c d ∅ ⟨x,H,I1,ru,⟨rfl,λys hy=>by rw[I.list_inj hy hq];exact hx⟩,st',λb hb=>(hf b hb).1⟩⟩
 done:=by
  intro X hP hw hK hc i b_ s σ H E I hf st hg;subst hP hw hK;let⟨xs,hq,hx⟩:=hg;let⟨its,rv,p,hz⟩:=I.list hq;let⟨f0,f1,f2,f3,f4,f5⟩:=hf it nofun;have hl:=rv.length;exact wpAny_pyNext_list_end (I.ok.hd hc) st p.isList (by simp;omega) λh' eb=>⟨rfl,I.turned (t':=s.toks) (λb o hb e=>eb b o hb e) f0 f1 f3 f4 f5⟩
 self:=λ_ _ _ _ _ st h=>wpAny_pyIter_listiter st h
theorem xy{P:Z7}{w:ZR}{K:Q1}{tg:QF}(a it:Addr):Ik P w K tg (Itt K a) [it] it (λi h=>h.IsTupleIter it a i) where
 mem:=by simp
 obj:=λi h st b hb=>by
  have e:b=it:=by simpa using hb
  subst e;let⟨o,e,c,d⟩:=st;exact⟨o,e,λv z=>by rw[d]at z;cases z⟩
 keep:=λi h h' st k=>st.at λo e=>k it nofun o e
 item:=by
  intro X hP hw hK hc i b_ s σ H E I hf st hg;subst hP hw hK;let⟨xs,x,hq,hx⟩:=hg;let⟨its,rv,p,hz⟩:=I.tuple hq;let⟨u,hu,ru⟩:=rv.get hx;let⟨f0,f1,f2,f3,f4,f5⟩:=hf it nofun;refine wpAny_pyNext_tuple_item st (show s.heap.IsTuple a its.toArray from p) (x:=u) ‹hu› λh' st' sb=>?_;have I1:Inv X b_ σ H { s with heap:=h' }:=I.turned (t':=s.toks) (λb o hb e=>(sb.2 b hb).trans e) f0 f1 f3 f4 f5;let⟨o,e,c,d⟩:=id st';exact⟨u,rfl,Dq (s:={ s with heap:=h' }) e c d ∅ ⟨x,H,I1,ru,⟨rfl,λys hy=>by rw[I.tuple_inj hy hq];exact hx⟩,st',λb hb=>(hf b hb).1⟩⟩
 done:=by
  intro X hP hw hK hc i b_ s σ H E I hf st hg;subst hP hw hK;let⟨xs,hq,hx⟩:=hg;let⟨its,rv,p,hz⟩:=I.tuple hq;let⟨f0,f1,f2,f3,f4,f5⟩:=hf it nofun;have hl:=rv.length;exact wpAny_pyNext_tuple_end (I.ok.hd hc) st (show s.heap.IsTuple a its.toArray from p) (by simp;omega) λh' eb=>⟨rfl,I.turned (t':=s.toks) (λb o hb e=>eb b o hb e) f0 f1 f3 f4 f5⟩
 self:=λ_ _ _ _ _ st h=>wpAny_pyIter_tupleiter st h
theorem xA{P:Z7}{w:ZR}{K:Q1}{tg:QF}(it:Addr)(lo:Int)(n:Nat):Ik P w K tg (Itr lo n) [it] it (λi h=>IsRangeIter h it (lo+(i:Nat)*1) ((n:Int)-(i:Nat)) 1) where
 mem:=by simp
 obj:=λi h st b hb=>by
  have e:b=it:=by simpa using hb
  subst e;exact⟨_,st,λv z=>by
   have z':Data.fields _=Data.cell v:=z;cases z'⟩
 keep:=λi h h' st k=>k it nofun _ st
 item:=by
  intro X hP hw hK hc i b_ s σ H E I hf st hg;subst hP hw hK;let⟨f0,f1,f2,f3,f4,f5⟩:=hf it nofun;have W:=Walks.range (prog:=X.prog) (w:=X.w) (I.ok.hd hc) it lo 1 n;refine W.item i s _ _ hg st λv h' tk hv st' kk=>?_;let⟨t,rfl⟩:=hv;have I1:Inv X b_ σ H { s with heap:=h',toks:=tk }:=I.turned (λb o hb e=>kk b o ‹hb› e) f0 f1 f3 f4 f5;refine⟨_,rfl,Dq (s:={ s with heap:=h',toks:=tk }) (n:="range_iterator") st' rfl rfl ∅ ⟨.int (lo+i),H,I1,⟨t,?_⟩,⟨rfl,rfl⟩,st',λb hb=>(hf b hb).1⟩⟩;rw[Int.mul_one]
 done:=by
  intro X hP hw hK hc i b_ s σ H E I hf st hg;subst hP hw hK;let⟨f0,f1,f2,f3,f4,f5⟩:=hf it nofun;exact wpAny_pyNext_range_end (I.ok.hd hc) st (by have:n<=i:=hg;omega) λh' eb=>⟨rfl,I.turned (t':=s.toks) (λb o hb e=>eb b o hb e) f0 f1 f3 f4 f5⟩
 self:=λ_ _ _ _ _ st h=>wpAny_pyIter_rangeiter st h
section
variable{tg:QF}
def Lg(K:Q1)(tl:TE):TI:=λσ H R=>tl σ H λx H1=>∃a,x=.ref a/\(∃xs,SqL K H1 a xs)/\R (Itl K a) H1
def PN(K:Q1)(tl:TE):TI:=λσ H R=>tl σ H λx H1=>∃a,x=.ref a/\(∃xs,SqT K H1 a xs)/\R (Itt K a) H1
theorem GH{l:QF}{tl:TE}(hl:PE X l tl):PI X tg l (Lg X.K tl):=by
 intro b_ s σ H R I h;refine thn (hl b_ s σ H _ I h) λv s1 hz=>?_;let⟨x,H1,I1,r1,q1⟩:=hz;let⟨a,e,⟨xs,hq⟩,q⟩:=q1;subst e;cases r1;let⟨its,rv,p,hz⟩:=I1.list hq;refine wpAny_pyIter_list p.isList ?_;refine⟨s1.heap.objs.size,[s1.heap.objs.size],_,_,H1,rfl,I1.kept (t':=s1.toks) λb o e=>Q5 _ e,yQ a _,⟨_,Z0 _ rfl,rfl,rfl⟩,λb hb=>?_,q⟩;have e:b=s1.heap.objs.size:=by simpa using hb
 subst e;exact I1.fpOk (QQ _) (I1.hok.fresh (QQ _))
theorem J8{l:QF}{tl:TE}(hl:PE X l tl):PI X tg l (PN X.K tl):=by
 intro b_ s σ H R I h;refine thn (hl b_ s σ H _ I h) λv s1 hz=>?_;let⟨x,H1,I1,r1,q1⟩:=hz;let⟨a,e,⟨xs,hq⟩,q⟩:=q1;subst e;cases r1;let⟨its,rv,p,hz⟩:=I1.tuple hq;refine wpAny_pyIter_tuple (show s1.heap.IsTuple a its.toArray from p) ?_;refine⟨s1.heap.objs.size,[s1.heap.objs.size],_,_,H1,rfl,I1.kept (t':=s1.toks) λb o e=>Q5 _ e,xy a _,⟨_,Z0 _ rfl,rfl,rfl⟩,λb hb=>?_,q⟩;have e:b=s1.heap.objs.size:=by simpa using hb
 subst e;exact I1.fpOk (QQ _) (I1.hok.fresh (QQ _))
theorem B4{b_:List (Addr×Obj)}{σ:St}{H:Hp}{s:Q4}{R:It->Hp->Prop}{E:Q3->Q4->Prop}{lo hi:Int}{t u v:Tok}{tk:Nat}(I:Inv X b_ σ H s)(h1:-(2^62)<=lo)(h2:lo<2^62)(h3:-(2^62)<=hi)(h4:hi<2^62)
  (q:R (Itr lo (hi-lo).toNat) H):wpAny (ZQ X.prog X.w) X.A (pyIter (.ref s.heap.objs.size)) (PIE X b_ σ tg R) E { s with heap:=s.heap.push { cls:=.type "range",data:=.fields #[.int lo t,.int hi u,.int 1 v] },toks:=tk }:=by
 refine wpAny_pyIter_range (IsRange.new ..) (small_one h1 h2 h3 h4) ?_;have I1:Inv X b_ σ H { s with heap:=s.heap.push { cls:=.type "range",data:=.fields #[.int lo t,.int hi u,.int 1 v] },toks:=tk }:=I.kept λb o e=>Q5 _ e;refine⟨(s.heap.push { cls:=.type "range",data:=.fields #[.int lo t,.int hi u,.int 1 v] }).objs.size,[(s.heap.push { cls:=.type "range",data:=.fields #[.int lo t,.int hi u,.int 1 v] }).objs.size],_,_,H,rfl,
  I1.kept (t':=tk) λb o e=>Q5 _ e,xA _ lo (hi-lo).toNat,?_,λb hb=>?_,q⟩
 ·have e1:lo+((0:Nat):Int)*1=lo:=by simp
  have e2:(((hi-lo).toNat:Nat):Int)-((0:Nat):Int)=Builtin.Range.rangeSize lo hi 1:=by rw[rangeSize_one];split<;>omega
  show IsRangeIter _ _ (lo+((0:Nat):Int)*1) ((((hi-lo).toNat:Nat):Int)-((0:Nat):Int)) 1;rw[e1,e2];exact Z0 _ rfl
 have e:b=(s.heap.push { cls:=.type "range",data:=.fields #[.int lo t,.int hi u,.int 1 v] }).objs.size:=by simpa using hb
 subst e;exact I1.fpOk (QQ _) (I1.hok.fresh (QQ _))
def Lf(ta:TA):TI:=λσ H R=>ta σ H λvs H1=>∃j:Int,vs=[.int j]/\-(2^62)<=j/\j<2^62/\R (Itr 0 j.toNat) H1
theorem zy{a:QF}{ta:TA}{p pos:Pos}(hg:Gl X "range")(hm:X.mg "range"=none)(ha:PA X [a] ta)(hs:Q6 [a] X.env=[(false,eval a X.env)]:=by rfl):PI X tg (.Call (.Name "range" p) [a] [] pos) (Lf ta):=by
 intro b_ s σ H R I h;refine Call_ (oI I hg hm boot_range (PyProof.Rows.callWith_type1 (thn (ha pos b_ s σ H _ I h) λus s1 ⟨vs,H1,I1,r1,q1⟩=>?_) hs rfl));let⟨j,e,q1,q2,q⟩:=q1;subst e;cases r1 with
 |cons r rr=>
  cases rr;let⟨t,rfl⟩:=r;exact call_range_1 (B4 I1 ⋯ ⋯ q1 q2 ‹q›)
def Jx(wi:TI)(g:TG)(tb:TS):TS:=λD σ H=>wi σ H λJ H1=>∃W:Nat->Nat->St->Hp->Prop,(∃m,W 0 m σ H1)/\∀i m σ H,W i m σ H->
 (J.stop i H/\D.nx σ H)\/(J.go i H/\∃N:St->Hp->Prop,(∀σ' H',N σ' H'->∃m',m'<m/\W (i+1) m' σ' H')/\∀x H',J.yld i H x H'->g x σ H' λσ2 H2=>tb { D with nx:=N,ct:=N,bk:=D.nx } σ2 H2)
def wj(fp:List Addr)(h:Heap):List (Addr×Obj):=fp.filterMap λb=>(h.get? b).map λo=>(b,o)
theorem fu{fp:List Addr}{h:Heap}{b:Addr}{o:Obj}(hb:b∈fp)(e:h.get? b=some o):(b,o)∈wj fp h:=List.mem_filterMap.mpr ⟨b,hb,by rw[e];rfl⟩
theorem zL{fp:List Addr}{h:Heap}{p:Addr×Obj}(hp:p∈wj fp h):p.1∈fp/\h.get? p.1=some p.2:=by
 let⟨b,hb,e⟩:=List.mem_filterMap.mp hp;cases q:h.get? b with
 |none=>rw[q]at e;cases e
 |some o=>
  rw[q]at e;have e':(b,o)=p:=Yc e;subst e';exact⟨hb,q⟩
theorem Inv.pinned{b_:List (Addr×Obj)}{σ:St}{H:Hp}{s:Q4}{fp:List Addr}(I:Inv X b_ σ H s)(hf:∀b∈fp,yq X b_ H b)(ho:∀b∈fp,∃o,s.heap.get? b=some o/\∀v,o.data≠.cell v):Inv X (b_++wj fp s.heap) σ H s:=
 I.pins_of λp hp=>(ZF.mp hp).elim (λz=>I.pin p (Z9 _ z)) λz=>by
  let⟨hb,e⟩:=zL z;let⟨f0,f1,f2,_⟩:=hf p.1 hb;let⟨o,e',d⟩:=ho p.1 hb;rw[e]at e';cases e';exact⟨e,f0,f1,f2,d⟩
theorem Inv.unpinned{b_ pl:List (Addr×Obj)}{σ:St}{H:Hp}{s:Q4}(I:Inv X (b_++pl) σ H s):Inv X b_ σ H s:=I.pins_of λp hp=>I.pin p (Z9 _ (List.mem_append_left _ hp))
theorem J5{iter:QF}{body:List ZC}{wi:TI}{g:TG}{tb:TS}{pos:Pos}(hp:PassesOwn (ZQ X.prog X.w) X.A X.env X.xe)(hc:X.calm=true)(hi:PI X tg iter wi)(hg:PG X tg g)(hb:PSs X body tb)
  (hs:∀x,foldedSetIterable iter X.env x=pure x:=by intro _;rfl):PS X (.For tg iter body [] pos) (Jx wi g tb):=by
 intro b_ s σ H D I h;refine wpAny_For (thn (hi b_ s σ H _ I h) λv s1 h1=>thn h1 λitv s2 h2=>?_) hs;let⟨it,fp,tn,J,H2,e,I2,T,st2,f2,W,⟨m0,w0⟩,Ru⟩:=h2;subst e;have stat:∀{H':Hp},(∀b∈fp,H' b=none)->∀b∈fp,yq X b_ H' b:=λhn b hb=>⟨hn b hb,(f2 b hb).2⟩;refine codeAny_forLoop_any (λn s'=>∃i σ' H',Inv X b_ σ' H' s'/\tn i s'.heap/\(∀b∈fp,H' b=none)/\W i n σ' H') ?_ m0 ⟨0,σ,H2,I2,st2,λb hb=>(f2 b hb).1,w0⟩;rintro n s3 ⟨i,σ3,H3,I3,st3,fr3,w3⟩;rcases Ru i n σ3 H3 w3 with⟨stop,qn⟩|⟨go,N,hN,step⟩;refine wpAny_passesOwn hp (thn (T.done X rfl rfl rfl hc i b_ s3 σ3 H3 X.xe I3 (stat fr3) st3 stop) λr s4 ⟨hr,I4⟩=>?_);subst hr;exact wpAny_execs_nil ⟨σ3,H3,I4,qn⟩
 ·refine wpAny_passesOwn hp (thn (T.item X rfl rfl rfl hc i b_ s3 σ3 H3 X.xe I3 (stat fr3) st3 go) λr s4 ⟨u,hr,h4⟩=>?_);subst hr;refine wpAny_passesOwn hp (thn h4 λ_ s5 hz=>?_);let⟨x,H5,I5,r5,y5,st5,fr5⟩:=hz;have I5':=I5.pinned (stat fr5) (T.obj _ _ st5);refine wpAny_passesOwn hp (thn (hg _ s5 σ3 H5 x u _ I5' r5 (step x H5 y5)) λ_ s6 hz=>?_);let⟨σ6,H6,I6,q6⟩:=hz;refine wpAny_passesOwn hp (thn (hb _ s6 σ6 H6 _ I6 q6) λf s7 q7=>?_);have again:∀{σ7:St} {H7:Hp},Inv X (b_++wj fp s5.heap) σ7 H7 s7->N σ7 H7->∃m,m<n/\∃i σ' H',Inv X b_ σ' H' s7/\tn i s7.heap/\(∀b∈fp,H' b=none)/\W i m σ' H':=λ{σ7 H7} I7 n7=>by
   let⟨m',hm,w7⟩:=hN σ7 H7 n7;refine⟨m',hm,i+1,σ7,H7,I7.unpinned,T.keep _ _ _ st5 λb hb o e=>(I7.pin (b,o) (Z9 _ (Z9 _ (fu hb e)))).1,λb hb=>?_,w7⟩;let⟨o,e,d⟩:=T.obj _ _ st5 b hb;exact(I7.pin (b,o) (Z9 _ (Z9 _ (fu hb e)))).2.1
  cases f with
  |next=>let⟨σ7,H7,I7,n7⟩:=q7;exact again I7 n7
  |cont=>let⟨σ7,H7,I7,n7⟩:=q7;exact again I7 n7
  |brk=>let⟨σ7,H7,I7,q7⟩:=q7;exact⟨σ7,H7,I7.unpinned,q7⟩
  |ret v=>let⟨x7,σ7,H7,I7,r7,q7⟩:=q7;exact⟨x7,σ7,H7,I7.unpinned,r7,q7⟩
end
abbrev R2:=V->V->Hp->VK->Prop
def OpR(X:Cx)(f:Q3->Q3->Sem Q3)(r:R2):Prop:=
 ∀(b_:List (Addr×Obj)) (s:Q4) (σ:St) (H:Hp) (x y:V) (v u:Q3) (Q:VK),Inv X b_ σ H s->bS x v->bS y u->r x y H Q->
  wpAny (ZQ X.prog X.w) X.A (f v u) (EP X b_ σ Q) X.xe s
def UnR(X:Cx)(f:Q3->Sem Q3)(r:V->Hp->VK->Prop):Prop:=
 ∀(b_:List (Addr×Obj)) (s:Q4) (σ:St) (H:Hp) (x:V) (v:Q3) (Q:VK),Inv X b_ σ H s->bS x v->r x H Q->
  wpAny (ZQ X.prog X.w) X.A (f v) (EP X b_ σ Q) X.xe s
def ft(X:Cx)(f:Q3)(r:List V->Hp->VK->Prop):Prop:=
 ∀(b_:List (Addr×Obj)) (s:Q4) (σ:St) (H:Hp) (xs:List V) (us:List Q3) (Q:VK),Inv X b_ σ H s->bE xs us->r xs H Q->
  wpAny (ZQ X.prog X.w) X.A (call f us) (EP X b_ σ Q) X.xe s
def tOp(r:R2)(ta tb:TE):TE:=λσ H Q=>ta σ H λx H1=>tb σ H1 λy H2=>r x y H2 Q
def tUn(r:V->Hp->VK->Prop)(ta:TE):TE:=λσ H Q=>ta σ H λx H1=>r x H1 Q
def rI(C:Int->Int->Prop)(g:Int->Int->V):R2:=λx y H Q=>∃i j,x=.int i/\y=.int j/\C i j/\Q (g i j) H
def rI0(g:Int->Int->V):R2:=λx y H Q=>∃i j,x=.int i/\y=.int j/\Q (g i j) H
section
variable{a:QF}
theorem OZ(ha:PE X a ta)(hb:PE X b tb){b_:List (Addr×Obj)}{s:Q4}{σ:St}{H:Hp}{R:V->V->Hp->Prop}(I:Inv X b_ σ H s)
  (h:ta σ H λx H1=>tb σ H1 λy H2=>R x y H2) {Q:Q3->Q4->Prop} {f:Q3->Q3->Sem Q3}
  (hf:∀v u s2 x y H2,Inv X b_ σ H2 s2->bS x v->bS y u->R x y H2->wpAny (ZQ X.prog X.w) X.A (f v u) Q X.xe s2) :
  wpAny (ZQ X.prog X.w) X.A (eval a X.env) (λv s₁=>wpAny (ZQ X.prog X.w) X.A (eval b X.env) (λu s₂=>wpAny (ZQ X.prog X.w) X.A (f v u) Q X.xe s₂) X.xe s₁) X.xe s:=by
 refine thn (ha b_ s σ H _ I h) λv s1 hz=>?_;let⟨x,H1,I1,r1,q1⟩:=hz;refine thn (hb b_ s1 σ H1 _ I1 q1) λu s2 hz=>?_;let⟨y,H2,I2,r2,q2⟩:=hz;exact hf v u s2 x y H2 I2 r1 r2 q2
theorem NW{op:Operator}{r:R2}(ho:OpR X (binaryOp op) r)(ha:PE X a ta)(hb:PE X b tb):PE X (.BinOp a op b pos) (tOp r ta tb):=by
 intro b_ s σ H Q I h;exact wpAny_BinOp (OZ ha hb I h λv u s2 x y H2 I2 rx ry q=>ho b_ s2 σ H2 x y v u Q I2 rx ry q)
theorem NU{op:UnaryOp}{r:V->Hp->VK->Prop}(ho:UnR X (unaryOp op) r)(ha:PE X a ta):PE X (.UnaryOp op a pos) (tUn r ta):=by
 intro b_ s σ H Q I h;exact UnaryOp_ (thn (ha b_ s σ H _ I h) λv s1 ⟨x,H1,I1,r1,q1⟩=>ho b_ s1 σ H1 x v Q I1 r1 q1)
theorem opI{f:Q3->Q3->Sem Q3}{C:Int->Int->Prop}{g:Int->Int->Int}
  (RG:∀(i j:Int) (t u:Tok) (s:Q4) (Q:Q3->Q4->Prop) (E:Q3->Q4->Prop),C i j->Q (.int (g i j) s.toks) { s with toks:=s.toks+1 }->wpAny (ZQ X.prog X.w) X.A (f (.int i t) (.int j u)) Q E s) :
  OpR X f (rI C λi j=>.int (g i j)):=by
 intro b_ s σ H x y v u Q I rx ry h;let⟨i,j,rfl,rfl,hc,q⟩:=h;let⟨t,rfl⟩:=rx;let⟨t',rfl⟩:=ry;exact RG i j t t' s _ _ hc ⟨.int (g i j),H,I.tok _,⟨_,rfl⟩,q⟩
theorem Qw{f:Q3->Q3->Sem Q3}{g:Int->Int->Int}
  (RG:∀(i j:Int) (t u:Tok) (s:Q4) (Q:Q3->Q4->Prop) (E:Q3->Q4->Prop),Q (.int (g i j) s.toks) { s with toks:=s.toks+1 }->wpAny (ZQ X.prog X.w) X.A (f (.int i t) (.int j u)) Q E s) :
  OpR X f (rI0 λi j=>.int (g i j)):=by
 intro b_ s σ H x y v u Q I rx ry h;let⟨i,j,rfl,rfl,q⟩:=h;let⟨t,rfl⟩:=rx;let⟨t',rfl⟩:=ry;exact RG i j t t' s _ _ ⟨.int (g i j),H,I.tok _,⟨_,rfl⟩,q⟩
theorem L9{f:Q3->Q3->Sem Q3}{g:Int->Int->Bool}
  (RG:∀(i j:Int) (t u:Tok) (s:Q4) (Q:Q3->Q4->Prop) (E:Q3->Q4->Prop),Q (.bool (g i j)) s->wpAny (ZQ X.prog X.w) X.A (f (.int i t) (.int j u)) Q E s) :
  OpR X f (rI0 λi j=>.bl (g i j)):=by
 intro b_ s σ H x y v u Q I rx ry h;let⟨i,j,rfl,rfl,q⟩:=h;let⟨t,rfl⟩:=rx;let⟨t',rfl⟩:=ry;exact RG i j t t' s _ _ ⟨.bl (g i j),H,I,rfl,q⟩
def Qa(i j:Int):Prop:=0<=j/\j<=1000000/\i.natAbs<2^64
def Bn(i j:Int):Prop:=(-(2^64)<i/\i<2^64)\/(-(2^64)<j/\j<2^64)
theorem Bn.ok{i j:Int}(h:Bn i j):IntMulOk i j:=by
 rcases h with⟨h1,h2⟩|⟨h1,h2⟩;exact .of_left (intBits_le_64 h1 h2);exact .of_right (intBits_le_64 h1 h2)
def KD:OpR X (binaryOp .Add) (rI0 λi j=>.int (i+j)):=Qw λ_ _ _ _ _ _ _ q=>add_int q
def kg:OpR X (binaryOp .Mult) (rI Bn λi j=>.int (i*j)):=opI λ_ _ _ _ _ _ _ hc q=>mul_int q hc.ok
theorem rC:OpR X (binaryOp .Mod) (rI (λ_ j=>0<j) λi j=>.int (i % j)):=opI λi j _ _ _ _ _ hc q=>by
 have h1:(0:Int)<j:=hc;exact mod_int' ⋯ (by rw[Int.fmod_eq_emod_of_nonneg i ⋯];exact q)
end
def NC:V->V->Bool
 |.non,.non=>true|.non,.int _=>true|.int _,.non=>true|.non,.bl _=>true|.bl _,.non=>true|.non,.str _=>true|.str _,.non=>true
 |.int _,.int _=>true|.bl _,.bl _=>true|.str _,.str _=>true|.byt _,.byt _=>true
 |.int _,.str _=>true|.str _,.int _=>true|.bl _,.str _=>true|.str _,.bl _=>true
 |_,_=>false
def rEq:R2:=λx y H Q=>NC x y=true/\Q (.bl (decide (x=y))) H
def rNe:R2:=λx y H Q=>NC x y=true/\Q (.bl (!decide (x=y))) H
theorem AS{i j:Int}:decide (V.int i=V.int j)=(i == j):=by
 rw[Zf];simp
theorem E2{i j:Bool}:decide (V.bl i=V.bl j)=(i == j):=by
 rw[Zf];simp
theorem AR{i j:Str}:decide (V.str i=V.str j)=(i == j):=by
 rw[Zf];simp
theorem AU{i j:Array UInt8}:decide (V.byt i=V.byt j)=(i.toList == j.toList):=by
 rw[Zf];cases i;cases j;simp
section
variable{a c:QF}
theorem bt{b_:List (Addr×Obj)}{σ:St}{H:Hp}{s:Q4}{Q:VK}{k k':Bool}(I:Inv X b_ σ H s)(q:Q (.bl k) H)(e:k=k'):EP X b_ σ Q (.bool k') s:=by
 subst e;exact⟨.bl k,H,I,rfl,q⟩
theorem gw:OpR X (compareOp .Eq) rEq:=by
 intro b_ s σ H x y v u Q I rx ry h;let⟨hs,q⟩:=h;cases x with
 |non=>
  cases rx;cases y with
  |non=>cases ry;exact PySem.EqNone.eq_none_none (bt I q nofun)
  |bl j=>cases ry;exact PySem.EqNone.eq_none_bool (bt I q nofun)
  |int j=>let⟨t',rfl⟩:=ry;exact PySem.EqNone.eq_none_int (bt I q nofun)
  |str j=>let⟨t',rfl⟩:=ry;exact PySem.EqNone.eq_none_str (bt I q nofun)
  |_=>exact absurd (show false=true from hs) QV
 |bl i=>
  cases rx;cases y with
  |non=>cases ry;exact PySem.EqNone.eq_bool_none (bt I q nofun)
  |bl j=>cases ry;exact eq_bool (bt I q E2)
  |str j=>let⟨t',rfl⟩:=ry;exact PySem.EqMixed.eq_bool_str (bt I q nofun)
  |_=>exact absurd (show false=true from hs) QV
 |int i=>
  let⟨t,rfl⟩:=rx;cases y with
  |non=>cases ry;exact PySem.EqNone.eq_int_none (bt I q nofun)
  |int j=>let⟨t',rfl⟩:=ry;exact eq_int (bt I q AS)
  |str j=>let⟨t',rfl⟩:=ry;exact PySem.EqMixed.eq_int_str (bt I q nofun)
  |_=>exact absurd (show false=true from hs) QV
 |str i=>
  let⟨t,rfl⟩:=rx;cases y with
  |non=>cases ry;exact PySem.EqNone.eq_str_none (bt I q nofun)
  |bl j=>cases ry;exact PySem.EqMixed.eq_str_bool (bt I q nofun)
  |int j=>let⟨t',rfl⟩:=ry;exact PySem.EqMixed.eq_str_int (bt I q nofun)
  |str j=>let⟨t',rfl⟩:=ry;exact eq_str (bt I q AR)
  |_=>exact absurd (show false=true from hs) QV
 |byt i=>
  let⟨t,rfl⟩:=rx;cases y with
  |byt j=>let⟨t',rfl⟩:=ry;exact PySem.W.eq_bytes (bt I q AU)
  |_=>exact absurd (show false=true from hs) QV
 |_=>cases y<;>exact absurd (show false=true from hs) QV
theorem zH:OpR X (compareOp .NotEq) rNe:=by
 intro b_ s σ H x y v u Q I rx ry h;let⟨hs,q⟩:=h;cases x with
 |non=>
  cases rx;cases y with
  |non=>cases ry;exact PySem.EqNone.ne_none_none (bt I q nofun)
  |bl j=>cases ry;exact PySem.EqNone.ne_none_bool (bt I q nofun)
  |int j=>let⟨t',rfl⟩:=ry;exact PySem.EqNone.ne_none_int (bt I q nofun)
  |str j=>let⟨t',rfl⟩:=ry;exact PySem.EqNone.ne_none_str (bt I q nofun)
  |_=>exact absurd (show false=true from hs) QV
 |bl i=>
  cases rx;cases y with
  |non=>cases ry;exact PySem.EqNone.ne_bool_none (bt I q nofun)
  |bl j=>cases ry;exact ne_bool (bt I q (congrArg not E2))
  |str j=>let⟨t',rfl⟩:=ry;exact PySem.EqMixed.ne_bool_str (bt I q nofun)
  |_=>exact absurd (show false=true from hs) QV
 |int i=>
  let⟨t,rfl⟩:=rx;cases y with
  |non=>cases ry;exact PySem.EqNone.ne_int_none (bt I q nofun)
  |int j=>let⟨t',rfl⟩:=ry;exact ne_int (bt I q (congrArg not AS))
  |str j=>let⟨t',rfl⟩:=ry;exact PySem.EqMixed.ne_int_str (bt I q nofun)
  |_=>exact absurd (show false=true from hs) QV
 |str i=>
  let⟨t,rfl⟩:=rx;cases y with
  |non=>cases ry;exact PySem.EqNone.ne_str_none (bt I q nofun)
  |bl j=>cases ry;exact PySem.EqMixed.ne_str_bool (bt I q nofun)
  |int j=>let⟨t',rfl⟩:=ry;exact PySem.EqMixed.ne_str_int (bt I q nofun)
  |str j=>let⟨t',rfl⟩:=ry;exact ne_str (bt I q (congrArg not AR))
  |_=>exact absurd (show false=true from hs) QV
 |byt i=>
  let⟨t,rfl⟩:=rx;cases y with
  |byt j=>let⟨t',rfl⟩:=ry;exact PySem.W.ne_bytes (bt I q (congrArg not AU))
  |_=>exact absurd (show false=true from hs) QV
 |_=>cases y<;>exact absurd (show false=true from hs) QV
def CJ:OpR X (compareOp .Lt) (rI0 λi j=>.bl (decide (i<j))):=L9 λ_ _ _ _ _ _ _ q=>lt_int q
def Og:OpR X (compareOp .LtE) (rI0 λi j=>.bl (decide (i<=j))):=L9 λ_ _ _ _ _ _ _ q=>le_int q
def xJ:OpR X (compareOp .Gt) (rI0 λi j=>.bl (decide (j<i))):=L9 λ_ _ _ _ _ _ _ q=>gt_int q
def G3:OpR X (compareOp .GtE) (rI0 λi j=>.bl (decide (j<=i))):=L9 λ_ _ _ _ _ _ _ q=>ge_int q
theorem wy:OpR X (compareOp .Is) (λx y H Q=>y=.non/\Q (.bl (decide (x=.non))) H):=by
 intro b_ s σ H x y v u Q I rx ry h;let⟨rfl,q⟩:=h;cases ry;refine is_none_gen (bt I q ?_);cases x<;>first
  |(cases rx;rfl)
  |(let⟨t,rfl⟩:=rx;rfl)
theorem uq:OpR X (compareOp .IsNot) (λx y H Q=>y=.non/\Q (.bl (!decide (x=.non))) H):=by
 intro b_ s σ H x y v u Q I rx ry h;let⟨rfl,q⟩:=h;cases ry;refine isnot_none_gen (bt I q ?_);cases x<;>first
  |(cases rx;rfl)
  |(let⟨t,rfl⟩:=rx;rfl)
theorem OpR.or{f:Q3->Q3->Sem Q3}{r r':R2}(h:OpR X f r)(h':OpR X f r'):OpR X f (λx y H Q=>r x y H Q\/r' x y H Q):=by
 intro b_ s σ H x y v u Q I rx ry q;rcases q with q|q;exact h b_ s σ H x y v u Q I rx ry q;exact h' b_ s σ H x y v u Q I rx ry q
theorem aR(b:QF){op:CmpOp}(h:op≠.In:=by decide)(h2:op≠.NotIn:=by decide):behindInMarks op b=false:=by
 have e1:(op == CmpOp.In)=false:=by cases op<;>first|rfl|exact absurd rfl h
 have e2:(op == CmpOp.NotIn)=false:=by cases op<;>first|rfl|exact absurd rfl h2
 cases b<;>simp[behindInMarks,e1,e2]
theorem GQ{op:CmpOp}{r:R2}(ho:OpR X (compareOp op) r)(ha:PE X a ta)(hb:PE X b tb)(hm:behindInMarks op b=false):PE X (.Compare a [op] [b] pos) (tOp r ta tb):=by
 intro b_ s σ H Q I h;exact wpAny_Compare1 (OZ ha hb I h λv u s2 x y H2 I2 rx ry q=>ho b_ s2 σ H2 x y v u Q I2 rx ry q) hm
def Js(t:TE):TT:=λσ H Q=>t σ H λx H'=>∃k,x=.bl k/\Q k H'
theorem Gx{op:CmpOp}{r:R2}(ho:OpR X (compareOp op) r)(ha:PE X a ta)(hb:PE X b tb)(hm:behindInMarks op b=false):PT X (.Compare a [op] [b] pos) (Js (tOp r ta tb)):=by
 intro b_ s σ H Q I h;refine wpAny_isTrue_Compare1 (thn (ha b_ s σ H _ I h) λv s1 ⟨x,H1,I1,r1,q1⟩=>thn (hb b_ s1 σ H1 _ I1 q1) λu s2 ⟨y,H2,I2,r2,q2⟩=>
  thn (ho b_ s2 σ H2 x y v u _ I2 r1 r2 q2) λc s3 ⟨z,H3,I3,r3,k,e,q3⟩=>?_) hm
 subst e;cases r3;exact wpAny_truthy_bool ⟨H3,I3,q3⟩
def wF:(QU:Nat)<2^63:=by rw[sizeLine_eq];decide
theorem xK:OpR X (binaryOp .Add) (λx y H Q=>∃i j,x=.str i/\y=.str j/\i.length+j.length<=QU/\Q (.str (i++j)) H):=by
 intro b_ s σ H x y v u Q I rx ry h;let⟨i,j,rfl,rfl,hz,q⟩:=h;let⟨t,rfl⟩:=rx;let⟨t',rfl⟩:=ry;exact add_str (λt' tk=>⟨.str (i++j),H,I.tok _,⟨_,rfl⟩,q⟩) hz
theorem lL{x:V}{us:List Q3}(r:bE [x] us):∃u,us=[u]/\bS x u:=by
 cases r with
 |cons r1 r2=>cases r2;exact⟨_,rfl,r1⟩
theorem yO{x y:V}{us:List Q3}(r:bE [x,y] us):∃u w',us=[u,w']/\bS x u/\bS y w':=by
 cases r with
 |cons r1 r2=>
  cases r2 with
  |cons r3 r4=>cases r4;exact⟨_,_,rfl,r1,r3⟩
theorem A0(hc:X.calm=true):ft X (.builtin "max") (λxs H Q=>∃i j,xs=[.int i,.int j]/\Q (.int (if j>i then j else i)) H):=by
 intro b_ s σ H xs us Q I r h;let⟨i,j,rfl,q⟩:=h;let⟨u,w',rfl,⟨t,rfl⟩,⟨t',rfl⟩⟩:=yO r;refine max_two_ints (I.ok.hd hc) λh' tk k=>⟨_,H,I.kept k,?_,q⟩;by_cases hj:j>i;rw[XO hj,XO hj];exact⟨_,rfl⟩;rw[XS hj,XS hj];exact⟨_,rfl⟩
theorem AZ(hc:X.calm=true):ft X (.builtin "min") (λxs H Q=>∃i j,xs=[.int i,.int j]/\Q (.int (if j<i then j else i)) H):=by
 intro b_ s σ H xs us Q I r h;let⟨i,j,rfl,q⟩:=h;let⟨u,w',rfl,⟨t,rfl⟩,⟨t',rfl⟩⟩:=yO r;refine min_two_ints (I.ok.hd hc) λh' tk k=>⟨_,H,I.kept k,?_,q⟩;by_cases hj:j<i;rw[XO hj,XO hj];exact⟨_,rfl⟩;rw[XS hj,XS hj];exact⟨_,rfl⟩
theorem nv:ft X (.type "int") (λxs H Q=>(∃i,xs=[.int i]/\Q (.int i) H)\/∃k,xs=[.bl k]/\Q (.int (if k then 1 else 0)) H):=by
 intro b_ s σ H xs us Q I r h;rcases h with⟨i,rfl,q⟩|⟨k,rfl,q⟩;let⟨u,rfl,t,rfl⟩:=lL r;exact call_int_int ⟨.int i,H,I,⟨_,rfl⟩,q⟩;let⟨u,rfl,r1⟩:=lL r;cases r1;exact call_int_bool ⟨.int (if k then 1 else 0),H,I.tok _,⟨_,rfl⟩,q⟩
end
structure HP(h:Heap)(x dx C:Addr)(mA:Str->Option Q3):Prop where
 obj:h.get? x=some (YD C dx)
 ns:h.Ns1 dx mA
 ne:dx≠x
theorem z8{h:Heap}{dx:Addr}{mA:Str->Option Q3}(n:h.Ns1 dx mA):∃od,h.get? dx=some od/\∀name,PySem.W.lookIn name od=some (mA name):=by
 let⟨o,es,ep,ho,hd,hk,_,hm⟩:=n;refine⟨o,ho,λname=>?_⟩;have e:=hm name;unfold nsFind findBy at e;rw[<-Array.find?_toList]at e;unfold PySem.W.lookIn;rw[hd];dsimp only;split;rename_i y q;rw[q]at e;exact congrArg some e;rename_i q;rw[q]at e;have a:es.toList.any (·.refKey)=false:=by
  rw[List.any_eq_false];intro y hy;let⟨z,t,hkey⟩:=hk y (Array.mem_toList_iff.mp hy);simp[DictEntry.refKey,hkey]
 have a':¬es.toList.any (·.refKey)=true:=by rw[a];exact QV
 rw[XS a'];exact congrArg some e
theorem HP.look{h:Heap}{x dx C:Addr}{mA:Str->Option Q3}(I:HP h x dx C mA):∃od,PySem.W.InstAt h x (YD C dx) C (some od)/\∀name,PySem.W.lookIn name od=some (mA name):=
 let ⟨od,ho,hl⟩:=z8 I.ns
 ⟨od,⟨I.obj,rfl,rfl,ho⟩,hl⟩
variable{A:ZE}{dx C f:Addr}
section
variable{prog:Z7}{w:ZR}{K:Q1}{mA:Str->Option Q3}{name:Str}{v:Q3}
theorem Hv{expr:Bool}{Q:Q3->Q4->Prop}(X:K.In s.heap)(I:HP s.heap x dx C mA)(hg:YG K C name=true)(hh:PySem.W.hasDictIn K C=true)
  (ha:Y0 K (.ref C) name=some none) (hv:mA name=some v) (hv':PySem.W.handedIn v=true) (h:Q v { s with toks:=s.toks+1 }) :
  wpAny (ZQ prog w) A (getAttr (.ref x) name expr) Q E s:=by
 let⟨od,J,hl⟩:=I.look;exact PySem.W.get_value X J (PySem.W.plainGet_of hg).1 (PySem.W.findObj_own hh ha rfl (by rw[hl,hv])) hv' h
theorem Dr{pl:Sem Bool}{Q:Q3×List Q3->Q4->Prop}(X:K.In s.heap)(I:HP s.heap x dx C mA)(hg:YG K C name=true)
  (hf:Y0 K (.ref C) name=some (some (.ref f))) (ht:YF K (.ref f)=true) (hv:mA name=none) (h:Q (.ref f,[.ref x]) s) :
  wpAny (ZQ prog w) A (getMethod (.ref x) name pl) Q E s:=by
 let⟨od,J,hl⟩:=I.look;exact PySem.W.method_fn X J (PySem.W.plainGet_of hg).1 (PySem.W.plainGet_of hg).2 hf (beq_iff_eq.mp ht) (by show(PySem.W.lookIn name od).map (·.isSome)=some false;rw[hl,hv];rfl) h
theorem Gg{ns:List Str}{Q:Unit->Q4->Prop}(X:K.In s.heap)(I:HP s.heap x dx C mA)
  (hs:Y0 K (.ref C) "__setattr__"=some (some (.builtin "object.__setattr__"))) (hp:PySem.W.plainOver K C=true) (ht:PySem.W.takerIn K C name=some none) (hh:PySem.W.hasDictIn K C=true)
  (hw:PySem.Within mA ns) (hsz:ns.length<=QU)
  (h:∀h',HP h' x dx C (λy=>if y=name then some v else mA y)->Heap.SameBut dx s.heap h'->Q () { s with heap:=h',toks:=s.toks+2 }) :
  wpAny (ZQ prog w) A (setAttr (.ref x) name v) Q E s:=by
 let⟨od,J,hl⟩:=I.look;refine PySem.W.set_plain X J hs (PySem.W.osa_open (s:={ s with toks:=s.toks+1 }) (r:=none) X J hp ht λb=>?_);let⟨cd,hc,hd'⟩:=PySem.W.any_some hh;have hx:s.heap.get? x=some ⟨.ref C,some dx,.plain,#[]⟩:=I.obj;refine Q2 (QJ (Q2 (Q2 (wpAny_loadPart hx (Q2 (PySem.W.Looks.here (s:={ s with toks:=s.toks+1 }) (PySem.W.looks_clsIn X hc) ?_))))));rw[hd'];refine QJ (a:=some dx) (Q2 (QJ (Q2 ?_)));refine wpAny_nsSet1 (s:={ s with toks:=s.toks+1 }) I.ns λh' hn2 hs2=>?_;let⟨oD,esD,epD,hoD,hdD,hcD⟩:=hn2.count (PySem.Within.cons name v hw);refine Q2 (wpAny_lookBehind hoD (by rw[hdD];exact pastItsLine_dict (ZP hcD (by rw[QK];omega))) ?_);exact QJ (h _ ⟨(hs2.2 _ (Ne.symm I.ne)).trans I.obj,hn2,I.ne⟩ hs2)
theorem C0{R:Result->Q4->Prop}{vs:List Q3}{kw:List (Str×Q3)}(X:K.In s.heap)(hm:PySem.W.makesIn K C=true)
  (hi:Y0 K (.ref C) "__init__"=some (some (.ref f))) (hf:PySem.W.typeIn K (.ref f)=some (.type "function"))
  (h:codeAny (ZQ prog w) (A.under (.builtin "type.__call__" ⟨.ref C::vs,kw⟩)) (.call (.ref f) ⟨.ref (s.heap.objs.size+1)::vs,kw⟩) (PySem.W.InitBack (s.heap.objs.size+1) R)
   { s with heap:=(s.heap.push YA).push (YD C s.heap.objs.size) }) :
  codeAny (ZQ prog w) A (.call (.ref C) ⟨vs,kw⟩) R s:=by
 let⟨hh,g,d,t,os⟩:=s;exact PySem.W.make_core (PySem.W.makes_of X hm) (PySem.W.looks_findIn X hi) (λself=>PySem.W.bind_fn X self hf) (.inl rfl) h
end
def nS(f:Str)(v:V):List (Str×V)->List (Str×V)
 |[]=>[(f,v)]
 |(g,x)::r=>if g=f then(g,v)::r else(g,x)::nS f v r
theorem jI(f g:Str)(v:V):∀fs:List (Str×V),(nS f v fs).lookup g=if g=f then some v else fs.lookup g
 |[]=>by
  show List.lookup g [(f,v)]=_;by_cases h:g=f;have hb:(g == f)=true:=beq_iff_eq.mpr h;simp only[List.lookup,hb,XO h];have hb:(g == f)=false:=beq_eq_false_iff_ne.mpr h;simp only[List.lookup,hb,XS h]
 |(k,x)::r=>by
  have ih:=jI f g v r;rw[show nS f v ((k,x)::r)=(if k=f then(k,v)::r else(k,x)::nS f v r)from rfl];by_cases hk:k=f
  ·rw[XO hk];by_cases h:g=k;have hb:(g == k)=true:=beq_iff_eq.mpr h;simp only[List.lookup,hb,XO (h.trans hk)];have hb:(g == k)=false:=beq_eq_false_iff_ne.mpr h;simp only[List.lookup,hb,XS (λe:g=f=>h (e.trans hk.symm))]
  ·rw[XS hk];by_cases h:g=k;have hb:(g == k)=true:=beq_iff_eq.mpr h;simp only[List.lookup,hb,XS (λe:g=f=>hk (h.symm.trans e))];have hb:(g == k)=false:=beq_eq_false_iff_ne.mpr h;simp only[List.lookup,hb];exact ih
theorem fH(f:Str)(v:V):∀fs:List (Str×V),f∈(nS f v fs).map (·.1)/\∀g,g∈fs.map (·.1)->g∈(nS f v fs).map (·.1)
 |[]=>⟨by simp[nS],λg h=>by simp at h⟩
 |(k,x)::r=>by
  let⟨i1,i2⟩:=fH f v r;rw[show nS f v ((k,x)::r)=(if k=f then(k,v)::r else(k,x)::nS f v r)from rfl];by_cases hk:k=f
  ·rw[XO hk];subst hk;exact⟨nofun,λg h=>by simpa using h⟩
  ·rw[XS hk];refine⟨?_,λg h=>?_⟩;rw[QL];exact QZ _ i1;rw[QL]at h ⊢;rcases Z8.mp h with e|e;exact Z8.mpr (.inl e);exact QZ _ (i2 g e)
theorem mU(f:Str)(v:V):∀fs:List (Str×V),(nS f v fs).length<=fs.length+1
 |[]=>by simp[nS]
 |(k,x)::r=>by
  have ih:=mU f v r;rw[show nS f v ((k,x)::r)=(if k=f then(k,v)::r else(k,x)::nS f v r)from rfl];by_cases hk:k=f
  ·rw[XO hk,QK,QK];omega
  ·rw[XS hk,QK,QK];omega
theorem qF.some_of{v:V}{o:Option Q3}(r:qF (some v) o):∃u,o=some u/\bS v u:=by
 cases o with
 |none=>exact(show False from r).elim
 |some u=>exact⟨u,rfl,r⟩
theorem qF.none_of{o:Option Q3}(r:qF none o):o=none:=by
 cases o with
 |none=>rfl
 |some u=>exact(show False from r).elim
theorem AA{v:V}{u:Q3}(r:bS v u):PySem.W.handedIn u=true:=by
 cases v with
 |non=>cases (show u=Value.none from r);rfl
 |bl b=>cases (show u=Value.bool b from r);rfl
 |int i=>let⟨t,e⟩:=(show ∃t,u=Value.int i t from r);cases e;rfl
 |str x=>let⟨t,e⟩:=(show ∃t,u=Value.str x t from r);cases e;rfl
 |byt b=>let⟨t,e⟩:=(show ∃t,u=Value.bytes b t from r);cases e;rfl
 |flt b=>let⟨t,e⟩:=(show ∃t,u=Value.float b t from r);cases e;rfl
 |ref a=>cases (show u=Value.ref a from r);rfl
 |ty n=>cases (show u=Value.type n from r);rfl
section
variable{w:ZR}{fs:List (Str×V)}
theorem uG(hok:HOk P w H h)(e:H a=some (.ins C dx fs)):∃mA,HP h a dx C mA/\(∀f,qF (fs.lookup f) (mA f))/\PySem.Within mA (fs.map (·.1))/\fs.length<=1000/\H dx=some (.own a):=by
 let⟨d,z,ne,ob,mA,n,r,q⟩:=(show cU P w H h a (.ins C dx fs)from hok a _ e);exact⟨mA,⟨ob,n,ne⟩,r,q,z,d⟩
end
structure Cls(K:Q1)(C:Addr):Prop where
 pg:YG K C Str.empty=true
 hd:PySem.W.hasDictIn K C=true
 po:PySem.W.plainOver K C=true
 sa:Y0 K (.ref C) "__setattr__"=some (some (.builtin "object.__setattr__"))
def Cls.get{K:Q1}{C:Addr}(c:Cls K C)(f:Str):YG K C f=true:=c.pg
def jA(K:Q1)(C:Addr)(f:Str):Prop:=Y0 K (.ref C) f=some none
theorem jA.taker{K:Q1}{C:Addr}{f:Str}(n:jA K C f):PySem.W.takerIn K C f=some none:=by
 unfold PySem.W.takerIn;rw[show Y0 K (.ref C) f=some none from n];rfl
structure Ed(K:Q1)(C:Addr)(m:Str)(f:Addr):Prop where
 at_:Y0 K (.ref C) m=some (some (.ref f))
 fn:YF K (.ref f)=true
 kp:YC K (.ref f)=true
section
variable{fs:List (Str×V)}{f:Str}{v:V}
theorem xX{b:Bool}{Q:Q3->Q4->Prop}(I:Inv X b_ σ H s)(e:H a=some (.ins C dx fs))(c:Cls X.K C)(n:jA X.K C f)(l:fs.lookup f=some v)
  (h:∀u s',Inv X b_ σ H s'->bS v u->Q u s'):wpAny (ZQ X.prog X.w) A (getAttr (.ref a) f b) Q E s:=by
 let⟨mA,O,r,_,_,_⟩:=uG I.hok e;let⟨u,hu,ru⟩:=qF.some_of (v:=v) (o:=mA f) (by rw[<-l];exact r f);exact Hv I.kIn O (c.get f) c.hd n hu (AA ru) (h u _ (I.tok _) ru)
theorem kX{m:Str}{g:Addr}{pl:Sem Bool}{Q:Q3×List Q3->Q4->Prop}(I:Inv X b_ σ H s)(e:H a=some (.ins C dx fs))(c:Cls X.K C)(k:Ed X.K C m g)(l:fs.lookup m=none)
  (h:Q (.ref g,[.ref a]) s):wpAny (ZQ X.prog X.w) A (getMethod (.ref a) m pl) Q E s:=by
 let⟨mA,O,r,_,_,_⟩:=uG I.hok e;have hn:mA m=none:=qF.none_of (by rw[<-l];exact r m);exact Dr I.kIn O (c.get m) k.at_ k.fn hn h
theorem xC{y:V}{u:Q3}{Q:Unit->Q4->Prop}(I:Inv X b_ σ H s)(e:H a=some (.ins C dx fs))(c:Cls X.K C)(n:jA X.K C f)(hl:fs.length<1000)(ry:bS y u)
  (h:∀s',Inv X b_ σ (upd H a (.ins C dx (nS f y fs))) s'->Q () s'):wpAny (ZQ X.prog X.w) A (setAttr (.ref a) f u) Q E s:=by
 let⟨mA,O,r,wi,_,ho⟩:=uG I.hok e;have hz:(fs.map (·.1)).length<=QU:=by rw[QX,sizeLine_eq];omega
 refine Gg I.kIn O c.sa c.po n.taker c.hd wi hz λh' O' sb=>h _ ?_;have hd:∃o,h'.get? dx=some o:=let ⟨o,_,_,e',_⟩:=O'.ns;⟨o,e'⟩
 refine I.write (x:=a) (e:=dx) (by rw[e];exact True.intro) (.inr ho) (λb q hb z=>(sb.2 b hb).trans z) hd ?_;refine⟨by rw[aH O.ne];exact ho,?_,O.ne,O'.obj,_,O'.ns,λg=>?_,λg hg=>?_⟩;have:=mU f y fs;omega;show qF ((nS f y fs).lookup g) (if g=f then some u else mA g);rw[jI];by_cases q:g=f;rw[XO q,XO q];exact ry;rw[XS q,XS q];exact r g;by_cases q:g=f;rw[q];exact(fH f y fs).1;refine(fH f y fs).2 g (wi g λz=>hg ?_);show(if g=f then some u else mA g)=none;rw[XS q];exact z
theorem Inv.made(I:Inv X b_ σ H s):Inv X b_ σ (upd (upd H s.heap.objs.size (.own (s.heap.objs.size+1))) (s.heap.objs.size+1) (.ins C s.heap.objs.size []))
  { s with heap:=(s.heap.push YA).push (YD C s.heap.objs.size) }:=by
 have e1:(s.heap.push YA).get? s.heap.objs.size=some YA:=Z0 s.heap rfl;have e2:((s.heap.push YA).push (YD C s.heap.objs.size)).get? (s.heap.objs.size+1)=some (YD C s.heap.objs.size):=by
  have:=Z0 (s.heap.push YA) (o:=YD C s.heap.objs.size) rfl;rwa[XN]at this
 have e3:(s.heap.push YA).Ns s.heap.objs.size (λ_=>none):=⟨YA,#[],_,e1,rfl,(λe he=>absurd he nofun),λ_=>rfl⟩;have I1:=I.laid (a:=s.heap.objs.size) (o:=.own (s.heap.objs.size+1)) (h':=s.heap.push YA) (t':=s.toks) (λb u q=>Q5 _ q) (QQ _) ⟨_,e1⟩;refine I1.laid (a:=s.heap.objs.size+1) (o:=.ins C s.heap.objs.size []) (t':=s.toks) (λb u q=>Q5 _ q) (Nat.le_of_eq (XN _ _)) ?_;have ne:s.heap.objs.size≠s.heap.objs.size+1:=ZZ (Nat.lt_succ_self _);refine⟨by rw[aH ne,aF],Zh _,ne,e2,λ_=>none,(Heap.Ns1.of_empty e3).at λo q=>Q5 _ q,λ_=>True.intro,λy hy=>absurd rfl hy⟩
theorem HK{prog:Z7}{w:ZR}{env:Env}{e:QF}{f:Str}{pos:Pos}{s:Q4}{Q:Q3->Q4->Prop}(hb:attributeBase e f env (eval e env)=eval e env)
  (h:wpAny (ZQ prog w) A (eval e env) (λo s₁=>wpAny (ZQ prog w) A (getAttr o f true) Q E s₁) E s):wpAny (ZQ prog w) A (eval (.Attribute e f pos) env) Q E s:=
 Attribute_any_ h (by rw[arm_eval_Attribute,hb])
end
def Pg(K:Q1)(ta:TE)(f:Str):TE:=λσ H Q=>ta σ H λx H1=>∃a C dx fs v,x=.ref a/\H1 a=some (.ins C dx fs)/\Cls K C/\jA K C f/\fs.lookup f=some v/\Q v H1
def Pj(K:Q1)(ta tv:TE)(f:Str):TS:=λD σ H=>tv σ H λy H1=>ta σ H1 λx H2=>∃a C dx fs,x=.ref a/\H2 a=some (.ins C dx fs)/\Cls K C/\jA K C f/\fs.length<1000/\
 D.nx σ (upd H2 a (.ins C dx (nS f y fs)))
section
variable{o e value:QF}{f:Str}{g_:Pos}{tv:TE}
theorem Km(he:PE X e ta)(hb:attributeBase e f X.env (eval e X.env)=eval e X.env):PE X (.Attribute e f pos) (Pg X.K ta f):=by
 intro b_ s σ H Q I h;refine HK hb (thn (he b_ s σ H _ I h) λu s1 hz=>?_);let⟨x,H1,I1,rx,a,C,dx,fs,v,ex,ea,c,n,l,q⟩:=hz;subst ex;obtain rfl:u=Value.ref a:=rx;exact xX I1 ea c n l λu' s2 I2 ru=>⟨v,H1,I2,ru,q⟩
theorem J6(ha:PE X o ta)(hv:PE X value tv)(hs:Zc value (some (.Attribute o f g_)) pos.line X.env=pure false):PS X (.Assign [.Attribute o f g_] value pos) (Pj X.K ta tv f):=by
 intro b_ s σ H D I h;refine plainObj_wpAny_Assign_Attribute (thn (hv b_ s σ H _ I h) λu s1 ⟨y,H1,I1,ry,q⟩=>thn (ha b_ s1 σ H1 _ I1 q) λov s2 hz=>?_) hs;let⟨x,H2,I2,rx,a,C,dx,fs,ex,ea,c,n,l,q2⟩:=hz;subst ex;obtain rfl:ov=Value.ref a:=rx;exact xC I2 ea c n l ry λs3 I3=>⟨σ,_,I3,q2⟩
end
structure eN(k:Nat)(A:ZE):Prop where
 hd:A.handled=none
 dp:A.depth+3*k+5<recursionLimit
 un:A.units+16*k+200<cLine
 gd:A.guards=some []
def eN.mono{j k:Nat}{A:ZE}(r:eN k A)(h:j<=k):eN j A:=⟨r.hd,by have:=r.dp;omega,by have:=r.un;omega,r.gd⟩
theorem eN.deeper{k:Nat}{A:ZE}(r:eN (k+1) A)(env:Env):eN k (A.deeper env):=
 ⟨r.hd,by have:=r.dp;show A.depth+1+3*k+5<_;omega,by have:=r.un;show A.units+3+16*k+200<_;omega,r.gd⟩
theorem eN.in1{k:Nat}{A:ZE}(r:eN (k+1) A):eN k A.in1:=
 ⟨r.hd,by have:=r.dp;show A.depth+3*k+5<_;omega,by have:=r.un;show A.units+1+16*k+200<_;omega,r.gd⟩
theorem xQ{A:ZE}{C:Addr}{us:List Q3}{kw:List (Str×Q3)}:(A.under (.builtin "type.__call__" ⟨.ref C::us,kw⟩)).depth=A.depth+1:=by
 first|rfl|simp[Around.under,Code.weight,Code.isCreation,Code.isGuard,Code.isCaller,Code.frames,Code.isFrame,guardIds]
theorem xP{A:ZE}{C:Addr}{us:List Q3}{kw:List (Str×Q3)}:(A.under (.builtin "type.__call__" ⟨.ref C::us,kw⟩)).units=A.units+1:=by
 first|rfl|simp[Around.under,Code.cUnits,Code.frames,Code.isFrame]
theorem eN.make{k:Nat}{A:ZE}(r:eN (k+1) A)(C:Addr)(us:List Q3)(kw:List (Str×Q3)):eN k (A.under (.builtin "type.__call__" ⟨.ref C::us,kw⟩)):=
 ⟨r.hd,by have:=r.dp;rw[xQ];omega,by have:=r.un;rw[xP];omega,r.gd⟩
def eN.depth{k:Nat}{A:ZE}(r:eN k A):A.depth<recursionLimit:=by have:=r.dp;omega
def eN.units{k:Nat}{A:ZE}(r:eN k A):A.units+64<cLine:=by have:=r.un;omega
def Jv:TA:=λ_ H Q=>Q [] H
def F0(ta:TE)(tr:TA):TA:=λσ H Q=>ta σ H λx H1=>tr σ H1 λxs H2=>Q (x::xs) H2
variable{es:List QF}{t:TA}
section
variable{e:QF}
def Ko:PA X [] Jv:=λ_ _ _ _ H Q I h=>Calls.spliced_nil ⟨[],H,I,.nil,h⟩
theorem GV(ha:PE X e te)(hr:PA X es t)(hs:Q6 (e::es) X.env=(false,eval e X.env)::Q6 es X.env:=by rfl):PA X (e::es) (F0 te t):=by
 intro pos b_ s σ H Q I h;rw[hs];show wpAny _ _ (spliced ((false,eval e X.env)::ZL pos (Q6 es X.env))) _ _ s;refine Calls.spliced_cons (thn (ha b_ s σ H _ I h) λu s1 hz=>?_);let⟨x,H1,I1,r1,q1⟩:=hz;exact thn (hr pos b_ s1 σ H1 _ I1 q1) λus s2 ⟨xs,H2,I2,r2,q2⟩=>⟨x::xs,H2,I2,.cons r1 r2,q2⟩
def O9(t:TA):TE:=λσ H Q=>t σ H λxs H1=>xs.length<=QU/\∀p,H1 p=none->Q (.ref p) (upd H1 p (.tup xs))
def Pe(t:TA):TE:=λσ H Q=>t σ H λxs H1=>xs.length<=QU/\∀p,H1 p=none->Q (.ref p) (upd H1 p (.lst xs))
theorem Ke{x1}(h:PA X es t):PE X (.Tuple es x1 pos) (O9 t):=by
 intro b_ s σ H Q I hq;refine wpAny_Tuple_spliced (thn (h pos b_ s σ H _ I hq) λus s1 ⟨xs,H1,I1,r,z,q⟩=>⟨by rw[<-r.length];exact z,?_⟩);have hf:H1 s1.heap.objs.size=none:=I1.hok.fresh (QQ _);refine⟨.ref s1.heap.objs.size,upd H1 s1.heap.objs.size (.tup xs),I1.laid (t':=s1.toks) (λb u e=>Q5 _ e) (QQ _) ?_,rfl,q _ hf⟩;exact⟨z,us,r,⟨_,Z0 _ rfl,⟨rfl,rfl⟩,_,rfl⟩⟩
theorem Kj(h:PA X es t):PE X (.List es pos) (Pe t):=by
 intro b_ s σ H Q I hq;refine wpAny_List_spliced (thn (h pos b_ s σ H _ I hq) λus s1 ⟨xs,H1,I1,r,z,q⟩=>⟨by rw[<-r.length];exact z,?_⟩);have hf:H1 s1.heap.objs.size=none:=I1.hok.fresh (QQ _);refine⟨.ref s1.heap.objs.size,upd H1 s1.heap.objs.size (.lst xs),I1.laid (t':=s1.toks) (λb u e=>Q5 _ e) (QQ _) ?_,rfl,q _ hf⟩;exact⟨z,us,0,r,Z0 _ rfl⟩
end
abbrev Sp:=List V->Hp->VK->XK->Prop
abbrev CXT:=List Env->Hp->Q4->XK->Q3->Q4->Prop
structure vy(P:Z7)(w:ZR)(K:Q1)(mg:Str->Option Q3)(base:Heap)(A:ZE)(outer:List Env)(s:Q4)(H:Hp):Prop where
 frames:A.frames=some outer
 mod:Mod K mg base
 bs:∀b o,base.get? b=some o->s.heap.get? b=some o/\H b=none
 bsz:base.objs.size<=s.heap.objs.size
 funs:s.heap.FunFrames base outer
 frf:∀b∈frs outer,H b=none
 hok:HOk P w H s.heap
 bare:AllBare s.gens
def CE(outer:List Env)(P:Z7)(w:ZR)(H:Hp)(s:Q4)(Q:VK)(u:Q3)(s':Q4):Prop:=
 ∃v H',s'.os=s.os/\AllBare s'.gens/\Un (frs outer) [] H H' s.heap s'.heap/\HOk P w H' s'.heap/\bS v u/\Q v H'
def CR(CX:CXT)(outer:List Env)(P:Z7)(w:ZR)(H:Hp)(s:Q4)(Q:VK)(E:XK)(r:Result)(s':Q4):Prop:=
 match r with
 |.ok (.ret u)=>CE outer P w H s Q u s'
 |.ok _=>False
 |.error e=>CX outer H s E e s'
structure kF(P:Z7)(w:ZR)(K:Q1)(mg:Str->Option Q3)(base:Heap)(CX:CXT)(k:Nat)(f:Addr)(fd:Zo)(ps:List Str)(sp:Sp):Prop where
 len:∀vs H Q E,sp vs H Q E->vs.length=ps.length
 run:∀(A:ZE) (outer:List Env) (s:Q4) (H:Hp) (args:Args) (us:List Q3) (vs:List V) (Q:VK) (E:XK),eN k A->vy P w K mg base A outer s H->BindsTo s fd args (ps.zip us)->bE vs us->sp vs H Q E->
  codeAny (ZQ P w) A (.call (.ref f) args) (CR CX outer P w H s Q E) s
theorem kF.mono{P:Z7}{w:ZR}{K:Q1}{mg:Str->Option Q3}{base:Heap}{CX:CXT}{j k:Nat}{f:Addr}{fd:Zo}{ps:List Str}{sp:Sp}(F:kF P w K mg base CX j f fd ps sp)(h:j<=k) :
  kF P w K mg base CX k f fd ps sp:=⟨F.len,λA outer s H args us vs Q E hr=>F.run A outer s H args us vs Q E (hr.mono h)⟩
theorem vy.make{P:Z7}{w:ZR}{K:Q1}{mg:Str->Option Q3}{base:Heap}{A:ZE}{outer:List Env}{s:Q4}{H:Hp}(e:vy P w K mg base A outer s H)(C:Addr)(us:List Q3)(kw:List (Str×Q3)) :
  vy P w K mg base (A.under (.builtin "type.__call__" ⟨.ref C::us,kw⟩)) outer s H:=⟨by first|exact e.frames|(simpa [Around.under,Code.envs,Code.isFrame,pushEnvs] using e.frames),e.mod,e.bs,e.bsz,e.funs,e.frf,e.hok,e.bare⟩
theorem vy.in1{P:Z7}{w:ZR}{K:Q1}{mg:Str->Option Q3}{base:Heap}{A:ZE}{outer:List Env}{s:Q4}{H:Hp}(e:vy P w K mg base A outer s H) :
  vy P w K mg base A.in1 outer s H:=⟨e.frames,e.mod,e.bs,e.bsz,e.funs,e.frf,e.hok,e.bare⟩
section
variable{s':Q4}
theorem Inv.env0(I:Inv X b_ σ H s):vy X.prog X.w X.K X.mg X.base X.A X.stack s H:=
 ⟨I.ok.frames,I.ok.mod,I.bs,ZP I.ok.bsz I.sz,I.stack,I.stkFree,I.hok,I.bare⟩
theorem Inv.after{Q:VK}{u:Q3}(I:Inv X b_ σ H s)(h:CE X.stack X.prog X.w H s Q u s'):EP X b_ σ Q u s':=by
 let⟨v,H',os,bare,un,hok,r,q⟩:=h;let⟨hh,g,d,t,os'⟩:=s';obtain rfl:os'=s.os:=os;exact⟨v,H',I.call (h':=hh) (g':=g) (d':=d) (t':=t) (ch:=[]) un hok bare (λb z=>absurd z nofun),r,q⟩
end
def JB(sp:Sp)(dvs:List V)(E:XK)(t:TA):TE:=λσ H Q=>t σ H λvs H1=>sp (vs++dvs) H1 Q E
def ud(C:Addr)(m:Str)(sp:Sp)(dvs:List V)(E:XK)(ta:TE)(t:TA):TE:=λσ H Q=>ta σ H λx H1=>∃a dx fs,x=.ref a/\H1 a=some (.ins C dx fs)/\fs.lookup m=none/\
 t σ H1 λvs H2=>sp (x::(vs++dvs)) H2 Q E
def FZ(C:Addr)(sp:Sp)(dvs:List V)(E:XK)(t:TA):TE:=λσ H Q=>t σ H λvs H1=>∀x dx,H1 x=none->H1 dx=none->dx≠x->
 sp (.ref x::(vs++dvs)) (upd (upd H1 dx (.own x)) x (.ins C dx [])) (λv H2=>v=.non/\Q (.ref x) H2) E
def gR(K:Q1)(fd:Zo)(ps:List Str)(ds:List Q3):Prop:=
 ∀(s:Q4) (us:List Q3),K.In s.heap->(us++ds).length=ps.length->BindsTo s fd ⟨us,[]⟩ (ps.zip (us++ds))
theorem gR.all{K:Q1}{fd:Zo}{ps:List Str}(h:∀us:List Q3,us.length=ps.length->bindArgs fd ⟨us,[]⟩=pure (ps.zip us)):gR K fd ps []:=λs us _ hl=>by
 rw[Zv]at hl ⊢;exact .of_eq (h us hl)
def iq(CX:CXT)(X:Cx)(E:XK):Prop:=∀(b_:List (Addr×Obj)) (σ:St) (H:Hp) (s:Q4) (e:Q3) (s':Q4),Inv X b_ σ H s->CX X.stack H s E e s'->X.xe e s'
variable{p:Pos}
section
variable{CX:CXT}{k:Nat}{fd:Zo}{ps:List Str}{sp:Sp}{dvs:List V}{ds:List Q3}{E:XK}{x m:Str}{i_:Pos}{e o:QF}
theorem zc{b_:List (Addr×Obj)}{σ:St}{H:Hp}{s:Q4}{Q:VK}{us:List Q3}{vs:List V}(F:kF X.prog X.w X.K X.mg X.base CX k f fd ps sp)(hr:eN k X.A)(hb:gR X.K fd ps ds)(hd:bE dvs ds)(hx:iq CX X E)
  (I:Inv X b_ σ H s) (r:bE vs us) (h:sp (vs++dvs) H Q E):wpAny (ZQ X.prog X.w) X.A (call (.ref f) us) (EP X b_ σ Q) X.xe s:=by
 have r2:bE (vs++dvs) (us++ds):=r.append hd;have hl:(us++ds).length=ps.length:=by rw[<-r2.length];exact F.len _ _ _ _ h
 refine wpAny_call (codeAny_mono (F.run X.A X.stack s H ⟨us,[]⟩ (us++ds) (vs++dvs) Q E hr I.env0 (hb s us I.kIn hl) r2 h) λr s' hq=>?_);cases r with
 |error e=>exact hx b_ σ H s e s' I hq
 |ok fl=>
  cases fl with
  |ret u=>exact I.after hq
  |next=>exact False.elim hq
  |brk=>exact False.elim hq
  |cont=>exact False.elim hq
theorem GR(F:kF X.prog X.w X.K X.mg X.base CX k f fd ps sp)(hr:eN k X.A)(hg:Gl X x)(hm:X.mg x=some (.ref f))(hk:YC X.K (.ref f)=true)(hb:gR X.K fd ps ds)(hd:bE dvs ds)(hx:iq CX X E)
  (ha:PA X (e::es) t) (hdb:(x == ("__debug__":Str))=false:=by decide) (he:Q6 (e::es) X.env=(false,eval e X.env)::Q6 es X.env:=by rfl) (hpl:(ZL pos (Q6 es X.env)).any (·.1)=false:=by rfl) :
  PE X (.Call (.Name x p) (e::es) [] pos) (JB sp dvs E t):=by
 intro b_ s σ H Q I h;refine wpAny_Call_Name_kw (mV I hg hm ?_ hdb);refine PySem.W.callWith_K (h₀:=X.base) I.ok.mod.kin hk (thn (ha pos b_ s σ H _ I h) λus s1 ⟨vs,H1,I1,r,q⟩=>⟨I1.kIn,?_⟩) he hpl;exact zc F hr hb hd hx I1 r q
theorem GK{pl:Sem Bool}(he:PE X o ta)(c:Cls X.K C)(hm:Ed X.K C m f)(F:kF X.prog X.w X.K X.mg X.base CX k f fd ps sp)(hr:eN k X.A)(hb:gR X.K fd ps ds)(hd:bE dvs ds)(hx:iq CX X E)(ha:PA X (e::es) t)
  (hst:Q6 (e::es) X.env=(false,eval e X.env)::Q6 es X.env:=by rfl) (hpl:(ZL pos (Q6 es X.env)).any (·.1)=false:=by rfl)
  (ht:eval (.Call (.Attribute o m i_) (e::es) [] pos) X.env=(do
   let ov <-eval o X.env
   standAt i_.atName
   let (f,first) <-holding [ov] (getMethod ov m pl)
   callWith pos f first (ZL pos (Q6 (e::es) X.env)) (backToKw pos (keywordEach [] X.env))):=by rfl) :
  PE X (.Call (.Attribute o m i_) (e::es) [] pos) (ud C m sp dvs E ta t):=by
 intro b_ s σ H Q I h;refine PySem.W.methodCall_KW (pl:=pl) (thn (he b_ s σ H _ I h) λu s1 hz=>?_) ht;let⟨x,H1,I1,rx,a,dx,fs,ex,ea,l,q⟩:=hz;subst ex;obtain rfl:u=Value.ref a:=rx;refine kX I1 ea c hm l ?_;refine PySem.W.callWith_K (first:=[.ref a]) (h₀:=X.base) I.ok.mod.kin hm.kp (thn (ha pos b_ s1 σ H1 _ I1 q) λus s2 ⟨vs,H2,I2,r,q2⟩=>⟨I2.kIn,?_⟩) hst hpl;exact zc (us:=.ref a::us) (vs:=.ref a::vs) F hr hb hd hx I2 (.cons rfl r) q2
theorem Co{pl:Sem Bool}(he:PE X o ta)(c:Cls X.K C)(hm:Ed X.K C m f)(F:kF X.prog X.w X.K X.mg X.base CX k f fd ps sp)(hr:eN k X.A)(hb:gR X.K fd ps ds)(hd:bE dvs ds)(hx:iq CX X E)
  (ht:eval (.Call (.Attribute o m i_) [] [] pos) X.env=(do
   let ov <-eval o X.env
   standAt i_.atName
   let (f,first) <-holding [ov] (getMethod ov m pl)
   callWith pos f first (ZL pos (Q6 [] X.env)) (backToKw pos (keywordEach [] X.env))):=by rfl) :
  PE X (.Call (.Attribute o m i_) [] [] pos) (ud C m sp dvs E ta Jv):=by
 intro b_ s σ H Q I h;refine PySem.W.methodCall_KW (pl:=pl) (thn (he b_ s σ H _ I h) λu s1 hz=>?_) ht;let⟨x,H1,I1,rx,a,dx,fs,ex,ea,l,q⟩:=hz;subst ex;obtain rfl:u=Value.ref a:=rx;refine kX I1 ea c hm l ?_;exact PySem.W.callWith_K0 (first:=[.ref a]) I1.kIn hm.kp (zc (us:=[.ref a]) (vs:=[.ref a]) F hr hb hd hx I1 (.cons rfl .nil) q)
structure Mk(K:Q1)(C f:Addr):Prop where
 makes:PySem.W.makesIn K C=true
 init:Y0 K (.ref C) "__init__"=some (some (.ref f))
 fn:YF K (.ref f)=true
 kp:YC K (.ref C)=true
theorem BX{b_:List (Addr×Obj)}{σ:St}{H:Hp}{s:Q4}{Q:VK}{us:List Q3}{vs:List V}(M:Mk X.K C f)(F:kF X.prog X.w X.K X.mg X.base CX k f fd ps sp)(hr:eN (k+1) X.A)(hb:gR X.K fd ps ds)(hd:bE dvs ds)
  (hx:iq CX X E) (I:Inv X b_ σ H s) (r:bE vs us)
  (h:∀x dx,H x=none->H dx=none->dx≠x->sp (.ref x::(vs++dvs)) (upd (upd H dx (.own x)) x (.ins C dx [])) (λv H2=>v=.non/\Q (.ref x) H2) E) :
  wpAny (ZQ X.prog X.w) X.A (call (.ref C) us) (EP X b_ σ Q) X.xe s:=by
 have hq:=h (s.heap.objs.size+1) s.heap.objs.size (I.hok.fresh (Nat.le_succ _)) (I.hok.fresh (QQ _)) (ZZ (Nat.lt_succ_self _));have I2:=Inv.made (C:=C) I;have r2:bE (V.ref (s.heap.objs.size+1)::(vs++dvs)) (Value.ref (s.heap.objs.size+1)::(us++ds)):=.cons rfl (r.append hd);have hl:(Value.ref (s.heap.objs.size+1)::us++ds).length=ps.length:=by
  have e:=r2.length;rw[F.len _ _ _ _ hq]at e;exact e.symm
 refine wpAny_call (C0 (f:=f) I.kIn M.makes M.init (beq_iff_eq.mp M.fn) (codeAny_mono (F.run _ X.stack _ _ ⟨Value.ref (s.heap.objs.size+1)::us,[]⟩ (Value.ref (s.heap.objs.size+1)::(us++ds)) _ _ E (hr.make C us [])
  (I2.env0.make C us []) (hb _ (Value.ref (s.heap.objs.size+1)::us) I2.kIn hl) r2 hq) λr s' hq'=>?_))
 cases r with
 |error e=>exact hx b_ σ _ _ e s' I2 hq'
 |ok fl=>
  cases fl with
  |ret u=>
   let⟨v,H',I3,rv,ev,q3⟩:=I2.after hq';subst ev;exact⟨rv,⟨V.ref (s.heap.objs.size+1),H',I3,rfl,q3⟩⟩
  |next=>exact False.elim hq'
  |brk=>exact False.elim hq'
  |cont=>exact False.elim hq'
theorem GL(M:Mk X.K C f)(F:kF X.prog X.w X.K X.mg X.base CX k f fd ps sp)(hr:eN (k+1) X.A)(hg:Gl X x)(hm:X.mg x=some (.ref C))(hb:gR X.K fd ps ds)(hd:bE dvs ds)(hx:iq CX X E)
  (ha:PA X (e::es) t) (hdb:(x == ("__debug__":Str))=false:=by decide) (he:Q6 (e::es) X.env=(false,eval e X.env)::Q6 es X.env:=by rfl) (hpl:(ZL pos (Q6 es X.env)).any (·.1)=false:=by rfl) :
  PE X (.Call (.Name x p) (e::es) [] pos) (FZ C sp dvs E t):=by
 intro b_ s σ H Q I h;refine wpAny_Call_Name_kw (mV I hg hm ?_ hdb);refine PySem.W.callWith_K (h₀:=X.base) I.ok.mod.kin M.kp (thn (ha pos b_ s σ H _ I h) λus s1 ⟨vs,H1,I1,r,q⟩=>⟨I1.kIn,?_⟩) he hpl;exact BX M F hr hb hd hx I1 r q
end
structure aN(N P:List Str)(sc:XR):Prop where
 kind:sc.kind=.function
 co:sc.isCoroutine=false
 gen:sc.isGenerator=false
 nd:N.Nodup
 pre:N.take P.length=P
 par:∀x∈P,sc.names.lookup x=some .local\/sc.names.lookup x=some .cell
 nofree:∀y∈sc.names,y.2≠.free
theorem sU{kindOf:Str->Option NameKind}{x:Str}:∀{binds:List (Str×Q3)} {m:Str->Option Q3},(∀v,(x,v)∉binds)->bindL kindOf binds m x=m x
 |[],_,_=>rfl
 |(n,v)::r,m,h=>by
  unfold bindL;rw[sU λw hw=>h w (QZ _ hw)];split
  ·have:x≠n:=by rintro rfl;exact h v QH
   simp[this]
  ·rfl
theorem sW{kindOf:Str->Option NameKind}{x:Str}:∀{binds:List (Str×Q3)} {m:Str->Option Q3},(∀v,(x,v)∉binds)->bindC kindOf binds m x=m x
 |[],_,_=>rfl
 |(n,v)::r,m,h=>by
  unfold bindC;rw[sW λw hw=>h w (QZ _ hw)];split
  ·rfl
  ·have:x≠n:=by rintro rfl;exact h v QH
   simp[this]
theorem sV{kindOf:Str->Option NameKind}{x:Str}{v:Q3}:∀{P:List Str} {vs:List Q3} {i:Nat} {m:Str->Option Q3},P.Nodup->P[i]?=some x->vs[i]?=some v->kindOf x=some .local->
  bindL kindOf (P.zip vs) m x=some v
 |[],_,_,_,_,h,_,_=>by simp at h
 |_::_,[],_,_,_,_,h,_=>by simp at h
 |p::P,w::vs,0,m,nd,h1,h2,hk=>by
  simp at h1 h2;subst h1;subst h2;show bindL kindOf ((p,w)::P.zip vs) m p=_;unfold bindL;rw[sU λv hv=>(XQ.mp nd).1 (List.of_mem_zip hv).1,XO hk];simp
 |p::P,w::vs,i+1,m,nd,h1,h2,hk=>by
  show bindL kindOf ((p,w)::P.zip vs) m x=_;unfold bindL;exact sV (i:=i) (XQ.mp nd).2 ‹h1› ‹h2› hk
theorem sX{kindOf:Str->Option NameKind}{x:Str}{v:Q3}:∀{P:List Str} {vs:List Q3} {i:Nat} {m:Str->Option Q3},P.Nodup->P[i]?=some x->vs[i]?=some v->kindOf x≠some .local->
  bindC kindOf (P.zip vs) m x=some v
 |[],_,_,_,_,h,_,_=>by simp at h
 |_::_,[],_,_,_,_,h,_=>by simp at h
 |p::P,w::vs,0,m,nd,h1,h2,hk=>by
  simp at h1 h2;subst h1;subst h2;show bindC kindOf ((p,w)::P.zip vs) m p=_;unfold bindC;rw[sW λv hv=>(XQ.mp nd).1 (List.of_mem_zip hv).1,XS hk];simp
 |p::P,w::vs,i+1,m,nd,h1,h2,hk=>by
  show bindC kindOf ((p,w)::P.zip vs) m x=_;unfold bindC;exact sX (i:=i) (XQ.mp nd).2 ‹h1› ‹h2› hk
def jC(N:List Str)(vs:List V):St:=vs.map some++QR (N.length-vs.length) none
def sL(CX:CXT)(P:Z7)(w:ZR)(K:Q1)(mg:Str->Option Q3)(base:Heap)(N:List Str)(qual:Str)(scope:XR)(f:Addr)(cd:Q3)(A:ZE)(outer:List Env)(s:Q4)(H:Hp)(E:XK):Cx where
 prog:=P
 w:=w
 K:=K
 mg:=mg
 base:=base
 A:=A.deeper (envOfC qual scope s.heap.objs.size f cd)
 N:=N
 s₀:=s
 H₀:=H
 env:=envOfC qual scope s.heap.objs.size f cd
 outer:=outer
 stack:=envOfC qual scope s.heap.objs.size f cd::outer
 ex:=[]
 calm:=true
 fn:=λ_=>true
 pn:=[]
 xe:=λe s'=>wpAny (ZQ P w) (A.deeper (envOfC qual scope s.heap.objs.size f cd)) (leaving (envOfC qual scope s.heap.objs.size f cd) e) (λ_ s''=>CX outer H s E e s'') (λe' s''=>CX outer H s E e' s'') s'
theorem xg{sc:XR}{n:Nat}{x:Str}(h:sc.names.lookup x=some .cell):∃c,(cellsFrom n sc.names []).lookup x=some c:=by
 have q:=PySem.W.cellsFrom_some sc.names n [] (.inl h);exact Zz.mp q
theorem As{CX:CXT}{P:Z7}{w:ZR}{K:Q1}{mg:Str->Option Q3}{base:Heap}{N ps:List Str}{qual:Str}{scope:XR}{f:Addr}{cd:Q3}{A:ZE}{outer:List Env}{s s1:Q4}{H:Hp}{E:XK}{us:List Q3}{vs:List V}
  (S:aN N ps scope) (hd:A.handled=none) (e0:vy P w K mg base A outer s H) (hl:vs.length=ps.length) (r:bE vs us)
  (x:InCallC s s.heap.objs.size (bindL (envOfC qual scope s.heap.objs.size f cd).kindOf (ps.zip us) λ_=>none) (cellsFrom (s.heap.objs.size+1) scope.names []) (bindC (envOfC qual scope s.heap.objs.size f cd).kindOf (ps.zip us) λ_=>none) s1) :
  Inv (sL CX P w K mg base N qual scope f cd A outer s H E) [] (jC N vs) H s1:=by
 have hpl:ps.length<=N.length:=by have:=congrArg List.length S.pre;rw[List.length_take]at this;omega
 let⟨h1,tk,rfl,hk⟩:=x.done;have noA:∀b:Addr,b∉(sL CX P w K mg base N qual scope f cd A outer s H E).ex:=λb z=>absurd (show b∈([]:List Addr)from z) nofun;refine⟨⟨e0.mod,S.kind,rfl,rfl,QQ _,λy z c h1 h2=>?_,λy hy=>?_,λy c _ h=>?_,λ_=>hd,Around.frames_deeper e0.frames,.inr ⟨rfl,rfl⟩,λb z=>absurd z (noA b),e0.bs,e0.bsz,λb _ _=>noA b,λb z=>absurd z (noA b),e0.funs,e0.frf⟩,
  rfl,e0.bare,Un.kept hk,⟨_,x.toInCall.ns,λi y v h1 h2 h3=>?_⟩,λy c h=>⟨_,x.cell y c h⟩,e0.hok.fresh (QQ _),λy c h=>?_,λp hp=>absurd (show p∈([]:List (Addr×Obj))from hp) nofun,e0.hok.kept hk,?_⟩
 exact name_of_addr x.apart (YI h1) (YI h2);have hy:scope.names.lookup y=some .cell\/scope.names.lookup y=some .free:=hy;rcases hy with hy|hy;exact xg hy;exact absurd rfl (S.nofree _ (YI hy));exact YS (x.above y c (YI h))
 ·have hi:i<vs.length:=by
   unfold jC at h2;by_cases hi:i<vs.length;exact hi
   ·rw[Zk ‹hi›]at h2;rw[X7]at h2;split at h2<;>cases h2
  have ha:vs[i]?=some v:=by
   unfold jC at h2;rw[Zy ‹hi›,ZH]at h2;cases e:vs[i]? with
   |none=>rw[e]at h2;cases h2
   |some a=>rw[e]at h2;cases h2;rfl
  let⟨u,hu,rv⟩:=r.get ha;have hp:ps[i]?=some y:=by
   rw[<-S.pre,List.getElem?_take_of_lt ⋯];exact h1
  have ndP:ps.Nodup:=by rw[<-S.pre];exact S.nd.sublist (List.take_sublist _ _)
  refine⟨u,rv,?_⟩;rcases S.par y (List.mem_of_getElem? hp)with k|k;exact .inl ⟨k,sV ndP hp hu k⟩;let⟨c,e⟩:=xg (n:=s.heap.objs.size+1) k;refine .inr ⟨.inl k,c,e,?_⟩;have q:=x.cell y c e;rw[sX ndP hp hu (by show scope.names.lookup y≠_;rw[k];decide)]at q;exact q
 exact e0.hok.fresh (YS (x.above y c (YI h)));unfold jC;show _=N.length;rw[Z6,QX,YU];omega
theorem Hx{CX:CXT}{P:Z7}{w:ZR}{K:Q1}{mg:Str->Option Q3}{base:Heap}{k:Nat}{f:Addr}{name qual:Str}{params:Arguments}{body:List ZC}{scope:XR}{dV kV doc pm cdv ct oc:Q3}{an od:Option Addr}
  {osl:Array (Option Q3)} {N ps:List Str} {sp:Sp} (lk:K.lookup f=some ⟨oc,od,.func (YB name qual params body scope dV kV doc pm an cdv ct),osl⟩) (hcd:YE K cdv qual=true) (S:aN N ps scope)
  (len:∀vs H Q E,sp vs H Q E->vs.length=ps.length)
  (R9:∀(A:ZE) (outer:List Env) (s:Q4) (H:Hp) (vs:List V) (Q:VK) (E:XK),eN k (A.deeper (envOfC qual scope s.heap.objs.size f cdv))->sp vs H Q E->
   ∃t,PSs (sL CX P w K mg base N qual scope f cdv A outer s H E) body t/\t { nx:=λ_ H'=>Q .non H',rt:=Q } (jC N vs) H) :
  kF P w K mg base CX (k+1) f (YB name qual params body scope dV kV doc pm an cdv ct) ps sp:=by
 refine⟨len,λA outer s H args us vs Q E hr e0 hb r hsp=>?_⟩;have hl:=len _ _ _ _ hsp;have KX:K.In s.heap:=e0.mod.kin.keeps λb o e=>(e0.bs b o e).1;have lim:s.heap.NoLimit:=e0.mod.nolimit.keeps λb o e=>(e0.bs b o e).1;have r_:∀y∈ps.zip us,scope.names.lookup y.1=some .local\/(scope.names.lookup y.1=some .cell/\((cellsFrom (s.heap.objs.size+1) scope.names []).lookup y.1).isSome=true):=λ⟨n,v⟩ hy=>by
  rcases S.par n (List.of_mem_zip hy).1 with q|q;exact .inl q;exact .inr ⟨q,PySem.W.cellsFrom_some _ _ _ (.inl q)⟩
 refine codeAny_call_function hr.depth (KX _ _ lk) rfl S.co S.gen rfl (PySem.W.codeRec_of KX hcd) (hb _ _ _ _ ?_);refine wpAny_newFunctionEnv_cells S.kind r_ λenv he s1 x=>?_;subst he;refine⟨lim.keeps x.toInCall.keep,codeAny_func ?_⟩;let⟨t,ht,hq⟩:=R9 A outer s H vs Q E (hr.deeper _) hsp;have I:Inv (sL CX P w K mg base N qual scope f cdv A outer s H E) [] (jC N vs) H s1:=As S hr.hd e0 hl r x;refine ZN (ht [] s1 (jC N vs) H _ I hq) (λfl s' hs=>?_) λe s' hs=>hs;have fin:∀{σ':St} {H':Hp} {v:V} {u:Q3},Inv (sL CX P w K mg base N qual scope f cdv A outer s H E) [] σ' H' s'->bS v u->Q v H'->CE outer P w H s Q u s':=
  λ{σ' H' v u} J rv q=>⟨v,H',J.os,J.bare,J.base,J.hok,rv,q⟩
 cases fl with
 |ret u=>
  let⟨v,σ',H',J,rv,q⟩:=hs;exact fin J rv q
 |next=>
  let⟨σ',H',J,q⟩:=hs;exact fin (v:=V.non) (u:=Value.none) J rfl q
 |brk=>
  let⟨_,_,_,q⟩:=hs;exact False.elim q
 |cont=>
  let⟨_,_,_,q⟩:=hs;exact False.elim q
section
variable{x:Str}{e:QF}{id T:String}{r:List V->Hp->VK->Prop}
def tCB(r:List V->Hp->VK->Prop)(t:TA):TE:=λσ H Q=>t σ H λvs H1=>r vs H1 Q
theorem Ct(hc:ft X (.builtin id) r)(hg:Gl X x)(hm:X.mg x=none)(hv:ZS x=some (.builtin id))(ha:PA X (e::es) t)(hn:x≠"__name__":=by decide)(hdb:(x == ("__debug__":Str))=false:=by decide)
  (he:Q6 (e::es) X.env=(false,eval e X.env)::Q6 es X.env:=by rfl) (hpl:(ZL pos (Q6 es X.env)).any (·.1)=false:=by rfl):PE X (.Call (.Name x p) (e::es) [] pos) (tCB r t):=by
 intro b_ s σ H Q I h;refine wpAny_Call_Name_kw (oI I hg hm hv ?_ hn hdb);exact PyProof.Rows.callWith_builtin1 (thn (ha pos b_ s σ H _ I h) λus s1 ⟨vs,H1,I1,r1,q1⟩=>hc b_ s1 σ H1 vs us Q I1 r1 q1) he hpl
theorem zA(hc:ft X (.type T) r)(hg:Gl X x)(hm:X.mg x=none)(hv:ZS x=some (.type T))(ha:PA X (e::es) t)(hn:x≠"__name__":=by decide)(hdb:(x == ("__debug__":Str))=false:=by decide)
  (he:Q6 (e::es) X.env=(false,eval e X.env)::Q6 es X.env:=by rfl) (hpl:(ZL pos (Q6 es X.env)).any (·.1)=false:=by rfl):PE X (.Call (.Name x p) (e::es) [] pos) (tCB r t):=by
 intro b_ s σ H Q I h;refine wpAny_Call_Name_kw (oI I hg hm hv ?_ hn hdb);exact PyProof.Rows.callWith_type1 (thn (ha pos b_ s σ H _ I h) λus s1 ⟨vs,H1,I1,r1,q1⟩=>hc b_ s1 σ H1 vs us Q I1 r1 q1) he hpl
end
end L2
namespace HT
open PySem PyProof.Rows
section
variable{prog:Z7}{w:ZR}{A:ZE}{E:Q3->Q4->Prop}{s:Q4}
theorem cat_tup{t b:Addr}{vs ws:List Q3}{Q:Q3->Q4->Prop}(ht:IsTup s.heap t vs.toArray)(hb:IsTup s.heap b ws.toArray)(hv:vs≠[])
  (h1:ws=[]->Q (.ref t) s) (h2:ws≠[]->Q (.ref s.heap.objs.size) { s with heap:=s.heap.push { cls:=.type "tuple",data:=.seq (vs++ws).toArray } })
  (hsz:vs.length+ws.length<=QU):wpAny (ZQ prog w) A (binaryOp .Add (.ref t) (.ref b)) Q E s:=by
 let⟨⟨cls,dd,data,sl⟩,ho,hc,n,hd⟩:=id ht;let⟨⟨cls2,dd2,data2,sl2⟩,ho2,hc2,n2,hd2⟩:=id hb;simp only at hc hd hc2 hd2;subst hc hd hc2 hd2;have e:vs.toArray++ws.toArray=(vs++ws).toArray:=by simp
 by_cases hw:ws=[];exact concat_meets ⟨_,ho,rfl⟩ ⟨_,ho2,rfl⟩ noFill_tuple_add seq_tuple_add PySem.F.slot_tuple_add YL (YK _ _)
  (tuple_addW1 t b vs.toArray ws.toArray n n2 dd dd2 sl sl2 ‹hv› (by simp[hw])) ⟨ho,ho2,h1 hw⟩
 refine concat_meets ⟨_,ho,rfl⟩ ⟨_,ho2,rfl⟩ noFill_tuple_add seq_tuple_add PySem.F.slot_tuple_add YL (YK _ _)
  (tuple_addW2 t b vs.toArray ws.toArray n n2 dd dd2 sl sl2 ‹hv› ‹hw› (by rw[QM,QM];exact hsz)) ⟨ho,ho2,?_⟩
 rw[e];exact h2 hw
def sIx(n d:Nat):Option Int->Nat
 |none=>d
 |some v=>if v<0 then(v+(n:Int)).toNat else min v.toNat n
def sIx_none(n d:Nat):sIx n d none=d:=rfl
theorem sIx_nat(n d k:Nat):sIx n d (some (k:Int))=min k n:=by
 show(if (k:Int)<0 then((k:Int)+(n:Int)).toNat else min (k:Int).toNat n)=min k n;rw[XS ⋯,XD]
theorem JF(n d:Nat)(hd:d<=n)(o:Option Int):sIx n d o<=n:=by
 cases o with
 |none=>exact hd
 |some v=>
  show(if v<0 then(v+(n:Int)).toNat else min v.toNat n)<=n;by_cases hv:v<0;rw[XO hv];omega;rw[XS hv];exact Nat.min_le_right _ _
theorem AY(v:Int)(n d:Nat):(if v<0 then max (v+(n:Int)) 0 else min v (n:Int))=((sIx n d (some v):Nat):Int):=by
 show(if v<0 then max (v+(n:Int)) 0 else min v (n:Int))=(((if v<0 then(v+(n:Int)).toNat else min v.toNat n):Nat):Int);by_cases hv:v<0;simp only[XO hv];omega;simp only[XS hv];omega
theorem yh(lo hi:Option Int)(n:Nat):Builtin.Slice.sliceAdjust lo hi 1 (n:Int)=(((sIx n 0 lo:Nat):Int),((sIx n n hi:Nat):Int)):=by
 have h1:¬((1:Int)<0):=by omega
 unfold Builtin.Slice.sliceAdjust;simp only[h1,if_false];refine Prod.ext ?_ ?_;cases lo with
 |none=>rfl
 |some v=>exact AY v n 0
 cases hi with
 |none=>rfl
 |some v=>exact AY v n n
theorem xG(i j:Nat):Builtin.Slice.slicePlaces (i:Int) (j:Int) 1=j-i:=by
 unfold Builtin.Slice.slicePlaces;have h1:(1:Int)>0:=by omega
 simp only[h1,if_true,Int.ediv_one];split<;>omega
theorem oA{v:Q3}{o:Option Int}{Q:Option Int->Q4->Prop}(p:IsPart v o)(h:Q o s):wpAny (ZQ prog w) A (Builtin.Slice.slicePartIndex v) Q E s:=by
 cases p with
 |none=>exact slicePart_none h
 |int i t=>exact slicePart_int h
theorem ie{sl:Addr}{vl vu:Q3}{lo hi:Option Int}{n:Nat}{Q:Int×Int×Nat->Q4->Prop}(hs:s.heap.IsSliceOf sl vl vu .none)(pl:IsPart vl lo)(pu:IsPart vu hi)
  (h:Q (((sIx n 0 lo:Nat):Int),1,sIx n n hi-sIx n 0 lo) s):wpAny (ZQ prog w) A (Builtin.Slice.sliceApplied (.ref sl) (pure (n:Int))) Q E s:=by
 let⟨os,hos,hcs,hds⟩:=id hs;unfold Builtin.Slice.sliceApplied Builtin.Slice.sliceFields;refine Q2 (Q2 (wpAny_field hos hds (x:=vl) rfl (Q2 (wpAny_field hos hds (x:=vu) rfl (Q2 (wpAny_field hos hds (x:=.none) rfl (QJ ?_)))))));refine Q2 (slicePart_none ?_);show wpAny _ _ (if ((1:Int) == 0)=true then _ else _) _ _ s;rw[XS ∅];refine Q2 (oA pl (Q2 (oA pu (Q2 (QJ ?_)))));show wpAny _ _ (match Builtin.Slice.sliceAdjust lo hi 1 (n:Int)with|(lo,hi)=>pure (lo,(1:Int),Builtin.Slice.slicePlaces lo hi 1)) _ _ s;rw[yh lo hi n];show wpAny _ _ (pure (((sIx n 0 lo:Nat):Int),(1:Int),Builtin.Slice.slicePlaces ((sIx n 0 lo:Nat):Int) ((sIx n n hi:Nat):Int) 1)) _ _ s;rw[xG];exact QJ h
theorem Ck(xs:Array Q3)(i k:Nat):((ZO k).filterMap λ(m:Nat)=>xs[((i:Int)+(m:Int)*1).toNat]?).toArray=((xs.toList.drop i).take k).toArray:=by
 have e:(λ(m:Nat)=>xs[((i:Int)+(m:Int)*1).toNat]?)=λm=>xs[i+m]?:=by
  funext m;have:((i:Int)+(m:Int)*1).toNat=i+m:=by omega
  rw[this]
 rw[e];have:=pick_run xs i k;rw[List.filterMap_map]at this;have e2:((λx=>xs[x]?) ∘ λx=>i+x)=λm=>xs[i+m]?:=rfl;rw[e2]at this;rw[this]
theorem getItem_tuple_cut{t sl:Addr}{items:Array Q3}{vl vu:Q3}{lo hi:Option Int}{Q:Q3->Q4->Prop}(ht:IsTup s.heap t items)(hs:s.heap.IsSliceOf sl vl vu .none)(pl:IsPart vl lo)(pu:IsPart vu hi)
  (hw:¬(sIx items.size 0 lo=0/\sIx items.size items.size hi=items.size))
  (h:Q (.ref s.heap.objs.size) { s with heap:=s.heap.push { cls:=.type "tuple",data:=.seq ((items.toList.drop (sIx items.size 0 lo)).take (sIx items.size items.size hi-sIx items.size 0 lo)).toArray } })
  (hsz:items.size<=QU):wpAny (ZQ prog w) A (getItem (.ref t) (.ref sl)) Q E s:=by
 have htake:sizeOk (.seq ((items.toList.drop (sIx items.size 0 lo)).take (sIx items.size items.size hi-sIx items.size 0 lo)).toArray):=by
  show((items.toList.drop (sIx items.size 0 lo)).take (sIx items.size items.size hi-sIx items.size 0 lo)).toArray.size<=QU;rw[QM,List.length_take,List.length_drop,ZY];omega
 have hj:sIx items.size items.size hi<=items.size:=JF _ _ (QQ _) hi;let⟨os,hos,hcs,hds⟩:=id hs;have hTs:s.TypeIs (.ref sl) "slice":=⟨os,hos,hcs⟩;unfold getItem;try with_reducible refine wpAny_holding ?_
 first|refine Q2 (QJ ?_)|skip
 refine Q2 (wpAny_sequenceKey ht.typeIs ∅ ?_);refine Q2 (wpAny_callSpecial?_slot (name:=Str.ofString "__getitem__") ht.typeIs PyProof.Rows.slot_tuple_getitem
  (wpAny_call_entry PyProof.Rows.slot_tuple_getitem ht.typeIs entry_tuple_getitem ?_ (args_tuple_getitem _ _)))
 show wpAny _ _ (Builtin.Tuple.tupleItemsOf (.ref t) >>= _) _ _ s;refine Q2 (tupleItemsOf_ ht ?_);refine Q2 (wpAny_typeOf hTs ?_);rw[XO ∅];refine Q2 (ie hs pl pu ?_);have hno:¬((((sIx items.size 0 lo:Nat):Int) == 0&&(1:Int) == 1&&(sIx items.size items.size hi-sIx items.size 0 lo) == items.size)=true):=by
  intro q;rw[Zl,Zl]at q;have q1:((sIx items.size 0 lo:Nat):Int)=0:=eq_of_beq q.1.1;have q2:sIx items.size items.size hi-sIx items.size 0 lo=items.size:=eq_of_beq q.2;exact hw ⟨⋯,⋯⟩
 show wpAny _ _ (if (((sIx items.size 0 lo:Nat):Int) == 0&&(1:Int) == 1&&(sIx items.size items.size hi-sIx items.size 0 lo) == items.size)=true then _ else _) _ _ s;rw[XS hno,Ck];first
  |exact Q2 (m:=Builtin.Tuple.tupleExact _) (wpAny_newObj_type (QJ ⟨_,rfl,QJ h⟩) htake)
  |exact Q2 (m:=Builtin.Tuple.tupleExact _) (wpAny_newObj_type (Q2 (QJ (QJ ⟨_,rfl,QJ h⟩))) htake)
  |exact Q2 (Q2 (m:=Builtin.Tuple.tupleExact _) (wpAny_newObj_type (QJ (QJ ⟨_,rfl,QJ h⟩)) htake))
  |exact Q2 (Q2 (m:=Builtin.Tuple.tupleExact _) (wpAny_newObj_type (QJ ⟨_,rfl,QJ h⟩) htake))
end
end HT
namespace L2
open PySem PySem.Spec PyProof.Rows
abbrev TO:=St->Hp->(Option Int->Hp->Prop)->Prop
def PO(X:Cx)(e:Option QF)(t:TO):Prop:=
 ∀(b_:List (Addr×Obj)) (s:Q4) (σ:St) (H:Hp) (Q:Option Int->Hp->Prop),Inv X b_ σ H s->t σ H Q->
  wpAny (ZQ X.prog X.w) X.A (evalPart e X.env) (λu s'=>∃o H',Inv X b_ σ H' s'/\IsPart u o/\Q o H') X.xe s
def yT:TO:=λ_ H Q=>Q none H
def Ju(t:TE):TO:=λσ H Q=>t σ H λx H1=>∃i,x=.int i/\Q (some i) H1
variable{X:Cx}{e:QF}{pos:Pos}
section
variable{te:TE}{lo hi:Option QF}{tl th:TO}{p2:Pos}
theorem GG:PO X none yT:=by
 intro b_ s σ H Q I h;rw[evalPart_none];exact QJ ⟨none,H,I,.none,h⟩
theorem GF(h:PE X e te):PO X (some e) (Ju te):=by
 intro b_ s σ H Q I hw;rw[evalPart_some];refine thn (h b_ s σ H _ I hw) λu s1 hz=>?_;let⟨x,H1,I1,r1,q1⟩:=hz;let⟨i,rfl,q⟩:=q1;let⟨t,rfl⟩:=r1;exact⟨some i,H1,I1,.int i t,q⟩
def SlR(X:Cx)(r:V->Option Int->Option Int->Hp->VK->Prop):Prop:=
 ∀(b_:List (Addr×Obj)) (s:Q4) (σ:St) (H:Hp) (x:V) (v vl vu:Q3) (lo hi:Option Int) (sl:Addr) (Q:VK),Inv X b_ σ H s->bS x v->s.heap.IsSliceOf sl vl vu .none->IsPart vl lo->IsPart vu hi->r x lo hi H Q->
  ∃T id,typeLookup (.type T) "__getitem__"=pure (some (.builtin id))/\s.TypeIs v T/\wpAny (ZQ X.prog X.w) X.A (getItem v (.ref sl)) (EP X b_ σ Q) X.xe s
theorem SlR.or{r r':V->Option Int->Option Int->Hp->VK->Prop}(h:SlR X r)(h':SlR X r'):SlR X (λx lo hi H Q=>r x lo hi H Q\/r' x lo hi H Q):=by
 intro b_ s σ H x v vl vu lo hi sl Q I rx hs pl pu q;rcases q with q|q;exact h b_ s σ H x v vl vu lo hi sl Q I rx hs pl pu q;exact h' b_ s σ H x v vl vu lo hi sl Q I rx hs pl pu q
def tSl(r:V->Option Int->Option Int->Hp->VK->Prop)(te:TE)(tl th:TO):TE:=λσ H Q=>te σ H λx H1=>tl σ H1 λl H2=>th σ H2 λu H3=>r x l u H3 Q
theorem Cn{r:V->Option Int->Option Int->Hp->VK->Prop}(hr:SlR X r)(he:PE X e te)(hl:PO X lo tl)(hu:PO X hi th):PE X (.Subscript e (.Slice lo hi none p2) pos) (tSl r te tl th):=by
 intro b_ s σ H Q I h;refine Subscript_ (thn (he b_ s σ H _ I h) λv s1 hz=>?_);let⟨x,H1,I1,r1,q1⟩:=hz;refine wpAny_Slice (thn (hl b_ s1 σ H1 _ I1 q1) λvl s2 ⟨l,H2,I2,pl,q2⟩=>thn (hu b_ s2 σ H2 _ I2 q2) λvu s3 hz=>?_);let⟨u,H3,I3,pu,q3⟩:=hz;rw[evalPart_none];refine QJ ?_;have I4:Inv X b_ σ H3 { s3 with heap:=s3.heap.push { cls:=.type "slice",data:=.fields #[vl,vu,.none] } }:=I3.kept (t':=s3.toks) λb ob q=>Q5 _ q;let⟨T,id,hT,ht,hg⟩:=hr b_ { s3 with heap:=s3.heap.push { cls:=.type "slice",data:=.fields #[vl,vu,.none] } } σ H3 x v vl vu l u s3.heap.objs.size Q I4 r1 (Heap.IsSliceOf.new ..) pl pu q3;show wpAny (ZQ X.prog X.w) X.A (subscriptTail e (.Slice lo hi none p2) v (.ref s3.heap.objs.size)) (EP X b_ σ Q) X.xe { s3 with heap:=s3.heap.push { cls:=.type "slice",data:=.fields #[vl,vu,.none] } };exact tail_any (ops:=[.ref s3.heap.objs.size,v]) ht hT hg (by with_unfolding_all rfl)
def E4(xs:List V)(lo hi:Option Int):List V:=(xs.drop (HT.sIx xs.length 0 lo)).take (HT.sIx xs.length xs.length hi-HT.sIx xs.length 0 lo)
theorem nr(xs:List V)(lo hi:Option Int):(E4 xs lo hi).length<=xs.length:=by
 unfold E4;rw[List.length_take,List.length_drop];omega
def Qq(K:Q1):V->Option Int->Option Int->Hp->VK->Prop:=λx lo hi H Q=>∃a xs,x=.ref a/\SqT K H a xs/\
 ¬(HT.sIx xs.length 0 lo=0/\HT.sIx xs.length xs.length hi=xs.length)/\∀p,H p=none->Q (.ref p) (upd H p (.tup (E4 xs lo hi)))
theorem JD:SlR X (Qq X.K):=by
 intro b_ s σ H x v vl vu lo hi sl Q I rx hs pl pu h;let⟨a,xs,rfl,hx,hw,q⟩:=h;cases rx;let⟨its,r,ht,hz⟩:=I.tuple hx;have p_:its.toArray.size=xs.length:=by rw[QM];exact r.length.symm
 refine⟨"tuple",_,PyProof.Rows.slot_tuple_getitem.lookup,ht.typeIs,?_⟩;refine HT.getItem_tuple_cut ht hs pl pu (by rw[p_];exact hw) ?_ (by rw[p_];exact hz);rw[p_];refine⟨.ref s.heap.objs.size,_,I.laid (t':=s.toks) (o:=.tup (E4 xs lo hi)) (λb ob q=>Q5 _ q) (QQ _) ?_,rfl,q _ (I.hok.fresh (QQ _))⟩;exact⟨ZP (nr xs lo hi) hz,_,(r.drop (HT.sIx xs.length 0 lo)).take (HT.sIx xs.length xs.length hi-HT.sIx xs.length 0 lo),Ee.new _ _⟩
def NI(K:Q1):R2:=λx y H Q=>∃a b xs ys,x=.ref a/\y=.ref b/\SqT K H a xs/\SqT K H b ys/\xs≠[]/\xs.length+ys.length<=QU/\
 (ys=[]->Q (.ref a) H)/\(ys≠[]->∀p,H p=none->Q (.ref p) (upd H p (.tup (xs++ys))))
theorem bE.nil_iff{xs:List V}{us:List Q3}(r:bE xs us):us=[]↔xs=[]:=by
 cases r with
 |nil=>simp
 |cons _ _=>simp
theorem G4:OpR X (binaryOp .Add) (NI X.K):=by
 intro b_ s σ H x y v u Q I rx ry h;let⟨a,b,xs,ys,rfl,rfl,ha,hb,hx,hz,q1,q2⟩:=h;cases rx;cases ry;let⟨its,r1,p1,_⟩:=I.tuple ha;let⟨its2,r2,p2,_⟩:=I.tuple hb;refine HT.cat_tup p1 p2 (λz=>hx (r1.nil_iff.mp z)) (λz=>⟨.ref a,H,I,rfl,q1 (r2.nil_iff.mp z)⟩) (λz=>?_) (by rw[<-r1.length,<-r2.length];exact hz);refine⟨.ref s.heap.objs.size,_,I.laid (t':=s.toks) (o:=.tup (xs++ys)) (λb ob q=>Q5 _ q) (QQ _) ?_,rfl,q2 (λw=>z (r2.nil_iff.mpr w)) _ (I.hok.fresh (QQ _))⟩;exact⟨by rw[Z6];exact hz,_,r1.append r2,Ee.new _ _⟩
end
def ixN(n:Nat)(i:Int):Option Nat:=if 0<=i then(if i<n then some i.toNat else none)else if -(n:Int)<=i then some (i+n).toNat else none
def atI{α:Type}(xs:List α)(i:Int):Option α:=(ixN xs.length i).bind λj=>xs[j]?
theorem Aq{n:Nat}{i:Int}{j:Nat}(h:ixN n i=some j):seqIndex? i n=some j/\j<n/\-(n:Int)<=i/\i<n:=by
 unfold ixN at h;by_cases h0:0<=i;rw[XO h0]at h;by_cases h1:i<n;rw[XO h1]at h;have e:i.toNat=j:=Yc h;exact⟨by rw[seqIndex_of h0 h1,e],⋯,⋯,h1⟩;rw[XS h1]at h;cases h;rw[XS h0]at h;by_cases h1:-(n:Int)<=i;rw[XO h1]at h;have e:(i+n).toNat=j:=Yc h;exact⟨by rw[seqIndex_neg ⋯ h1,e],⋯,h1,⋯⟩;rw[XS h1]at h;cases h
theorem A9{α:Type}{xs:List α}{i:Int}{v:α}(h:atI xs i=some v):∃j,seqIndex? i xs.length=some j/\xs[j]?=some v/\j<xs.length/\-(xs.length:Int)<=i/\i<xs.length:=by
 unfold atI at h;cases e:ixN xs.length i with
 |none=>rw[e]at h;cases h
 |some j=>
  rw[e]at h;let⟨h1,h2,h3,h4⟩:=Aq e;exact⟨j,h1,h,h2,h3,h4⟩
theorem lh{α:Type}{xs:List α}{j:Nat}{v:α}(h:xs[j]?=some v):atI xs (j:Int)=some v:=by
 have hj:j<xs.length:=(Q8.mp h).1;have e:ixN xs.length (j:Int)=some j:=by
  unfold ixN;rw[XO ⋯,XO ⋯];simp
 unfold atI;rw[e];exact h
def vm(b:QF):Prop:=∀o i,subscripted b false o i=operate [o,i] (getItem o i)
def IxR(X:Cx)(r:R2):Prop:=
 ∀(value I_:QF) (b_:List (Addr×Obj)) (s:Q4) (σ:St) (H:Hp) (x y:V) (v u:Q3) (Q:VK),Inv X b_ σ H s->bS x v->bS y u->r x y H Q->
  subscripted I_ false v u=operate [v,u] (getItem v u)->wpAny (ZQ X.prog X.w) X.A (subscriptTail value I_ v u) (EP X b_ σ Q) X.xe s
def MtR(X:Cx)(id:String)(r:V->List V->Hp->VK->Prop):Prop:=
 ∀(b_:List (Addr×Obj)) (s:Q4) (σ:St) (H:Hp) (x:V) (xs:List V) (v:Q3) (us:List Q3) (Q:VK),Inv X b_ σ H s->bS x v->bE xs us->r x xs H Q->
  wpAny (ZQ X.prog X.w) X.A (call (.builtin id) (v::us)) (EP X b_ σ Q) X.xe s
variable{o:QF}{i_ j_:Pos}
section
variable{a b:QF}{ta tb:TE}
theorem IxR.or{r r':R2}(h:IxR X r)(h':IxR X r'):IxR X (λx y H Q=>r x y H Q\/r' x y H Q):=by
 intro value I_ b_ s σ H x y v u Q I rx ry q hs;rcases q with q|q;exact h value I_ b_ s σ H x y v u Q I rx ry q hs;exact h' value I_ b_ s σ H x y v u Q I rx ry q hs
theorem NX{r:R2}(hr:IxR X r)(ha:PE X a ta)(hb:PE X b tb)(hs:vm b):PE X (.Subscript a b pos) (tOp r ta tb):=by
 intro b_ s σ H Q I h;exact Subscript_ (OZ ha hb I h λv u s2 x y H2 I2 rx ry q=>hr a b b_ s2 σ H2 x y v u Q I2 rx ry q (hs _ _))
def Qt(K:Q1):R2:=λx y H Q=>∃p xs i v,x=.ref p/\y=.int i/\SqL K H p xs/\atI xs i=some v/\Q v H
def Qs(K:Q1):R2:=λx y H Q=>∃p xs i v,x=.ref p/\y=.int i/\SqT K H p xs/\atI xs i=some v/\Q v H
theorem Ho:IxR X (Qt X.K):=by
 intro value I_ b_ s σ H x y v u Q I rx ry h hs;let⟨p,xs,i,z,rfl,rfl,hq,he,q⟩:=h;cases rx;let⟨t,rfl⟩:=ry;let⟨its,r,pl,hz⟩:=I.list hq;let⟨j,h1,h2,h3,h4,h5⟩:=A9 he;let⟨w,ew,rw'⟩:=r.get h2;have hl:=r.length;have hn:=wF;have fin:EP X b_ σ Q w s:=⟨z,H,I,rw',q⟩;by_cases h0:0<=i;have hj:i.toNat=j:=by
  rw[seqIndex_of h0 h5]at h1;exact Yc h1
 exact item_listR pl.isList h0 ⋯ (by rw[hj];simpa using ew) fin hs
 ·have hj:(i+(its.toArray.size:Int)).toNat=j:=by
   rw[seqIndex_neg ⋯ h4]at h1;rw[QM,<-hl];exact Yc h1
  exact subscriptTail_builtinR (x:=w) pl.isList.typeIs slot_list_getitem.lookup
   (wpAny_getItem_list_neg (Q:=λr s'=>r=w/\EP X b_ σ Q r s') pl.isList ⋯ (by rw[QM]<;>omega) ⋯ (by rw[hj];simpa using ew) ⟨rfl,fin⟩) hs
theorem K8:IxR X (Qs X.K):=by
 intro value I_ b_ s σ H x y v u Q I rx ry h hs;let⟨p,xs,i,z,rfl,rfl,hq,he,q⟩:=h;cases rx;let⟨t,rfl⟩:=ry;let⟨its,r,pl,hz⟩:=I.tuple hq;let⟨j,h1,h2,h3,h4,h5⟩:=A9 he;let⟨w,ew,rw'⟩:=r.get h2;have hl:=r.length;have hn:=wF;have fin:EP X b_ σ Q w s:=⟨z,H,I,rw',q⟩;exact subscriptTail_builtinR (x:=w) pl.typeIs slot_tuple_getitem.lookup
  (getItem_tuple (j:=j) (Q:=λr s'=>r=w/\EP X b_ σ Q r s') pl ⋯ ⋯ (by rw[QM,<-hl];exact h1) ‹ew› ⟨rfl,fin⟩) hs
theorem xO(its:List Q3)(n j:Nat)(u:Q3):YZ (·.setIfInBounds j u) { cls:=.type "list",data:=.seq its.toArray n }={ cls:=.type "list",data:=.seq (its.set j u).toArray n }:=by
 simp[YZ]
theorem Inv.lst{b_:List (Addr×Obj)}{σ:St}{H:Hp}{s:Q4}{p:Addr}{xs:List V}(I:Inv X b_ σ H s)(h:H p=some (.lst xs)) :
  ∃(its:List Q3) (n:Nat),bE xs its/\s.heap.get? p=some { cls:=.type "list",data:=.seq its.toArray n }/\xs.length<=QU:=by
 let⟨z,its,n,r,e⟩:=I.hok p _ h;exact⟨its,n,r,e,z⟩
theorem Inv.lstUpd{b_:List (Addr×Obj)}{σ:St}{H:Hp}{s:Q4}{p:Addr}{xs ys:List V}{its its':List Q3}{n n':Nat}{f:Obj->Obj}(I:Inv X b_ σ H s)(h:H p=some (.lst xs))
  (ho:s.heap.get? p=some { cls:=.type "list",data:=.seq its.toArray n }) (hf:f { cls:=.type "list",data:=.seq its.toArray n }={ cls:=.type "list",data:=.seq its'.toArray n' }) (r:bE ys its') (hz:ys.length<=QU) (t:Nat) :
  Inv X b_ σ (upd H p (.lst ys)) { s with heap:=s.heap.update p f,toks:=t }:=by
 have e:(s.heap.update p f).get? p=some { cls:=.type "list",data:=.seq its'.toArray n' }:=by
  rw[XC f ho (by rw[hf]<;>rfl),hf]
 refine I.write (x:=p) (e:=p) (by rw[h];trivial) (.inl rfl) (λb u hb q=>(Zu _ _ (Ne.symm hb)).trans q) ⟨_,e⟩ ?_;exact⟨hz,its',n',r,e⟩
def ND:V->V->V->Hp->(Hp->Prop)->Prop:=λo i v H Q=>∃p xs k j,o=.ref p/\i=.int k/\H p=some (.lst xs)/\ixN xs.length k=some j/\Q (upd H p (.lst (xs.set j v)))
theorem BW:O4 X ND:=by
 intro b_ s σ H o i v ov iv u Q I ro ri rv h;let⟨p,xs,k,j,rfl,rfl,hp,hj,q⟩:=h;cases ro;let⟨t,rfl⟩:=ri;let⟨its,n,r,ho,hz⟩:=I.lst hp;let⟨h1,h2,h3,h4⟩:=Aq hj;have hl:=r.length;have hn:=wF;have I':Inv X b_ σ (upd H p (.lst (xs.set j v))) { s with heap:=s.heap.update p (YZ (·.setIfInBounds j u)) }:=
  I.lstUpd hp ho (xO its n j u) (r.set rv j) (by rw[Zx];exact hz) s.toks
 by_cases h0:0<=k;have hk:k.toNat=j:=by
  rw[seqIndex_of h0 h4]at h1;exact Yc h1
 exact PySem.W.ki_setAt ho h0 ⋯ (by rw[QM,<-hl];exact h4) (by rw[hk];exact⟨_,I',q⟩);have hk:(k+(its.toArray.size:Int)).toNat=j:=by
  rw[seqIndex_neg ⋯ h3]at h1;rw[QM,<-hl];exact Yc h1
 exact PySem.W.ki_setBack ho ⋯ (by rw[QM,<-hl];exact h3) ⋯ (by rw[hk];exact⟨_,I',q⟩)
theorem qY(lo hi:Option Int)(n:Nat):(sliceBounds lo hi none n).1=((HT.sIx n 0 lo:Nat):Int)/\(sliceBounds lo hi none n).2.1=((HT.sIx n n hi:Nat):Int)/\(sliceBounds lo hi none n).2.2=1:=by
 refine⟨?_,?_,rfl⟩
 ·cases lo with
  |none=>simp[sliceBounds,HT.sIx]
  |some i=>
   simp only[sliceBounds,HT.sIx,Option.getD_none,show(1:Int)>0 by decide,if_true];by_cases h:i<0
   ·simp only[h,if_true]<;>omega
   ·simp only[h,if_false]<;>omega
 ·cases hi with
  |none=>simp[sliceBounds,HT.sIx]
  |some i=>
   simp only[sliceBounds,HT.sIx,Option.getD_none,show(1:Int)>0 by decide,if_true];by_cases h:i<0
   ·simp only[h,if_true]<;>omega
   ·simp only[h,if_false]<;>omega
theorem pd(its:List Q3)(lo hi:Option Int):slicePick its.toArray lo hi none=((its.drop (HT.sIx its.length 0 lo)).take (HT.sIx its.length its.length hi-HT.sIx its.length 0 lo)).toArray:=by
 let⟨h1,h2,h3⟩:=qY lo hi its.toArray.size;unfold slicePick;rw[h1,h2,h3];simp only[sliceRange_one,pick_run,QM]<;>rfl
def Qr(K:Q1):V->Option Int->Option Int->Hp->VK->Prop:=λx lo hi H Q=>∃a xs,x=.ref a/\SqL K H a xs/\∀p,H p=none->Q (.ref p) (upd H p (.lst (E4 xs lo hi)))
theorem Gf:SlR X (Qr X.K):=by
 intro b_ s σ H x v vl vu lo hi sl Q I rx hs pl pu h;let⟨a,xs,rfl,hx,q⟩:=h;cases rx;let⟨its,r,ht,hz⟩:=I.list hx;have p_:=r.length;refine⟨"list",_,slot_list_getitem.lookup,ht.isList.typeIs,?_⟩;refine wpAny_getItem_list_slice ht.isList hs pl pu .none nofun ?_ (by rw[QM]<;>omega);rw[pd,<-p_];refine⟨.ref s.heap.objs.size,_,I.laid (t':=s.toks) (o:=.lst (E4 xs lo hi)) (λb ob q=>Q5 _ q) (QQ _) ?_,rfl,q _ (I.hok.fresh (QQ _))⟩;exact⟨ZP (nr xs lo hi) hz,_,0,(r.drop (HT.sIx xs.length 0 lo)).take (HT.sIx xs.length xs.length hi-HT.sIx xs.length 0 lo),Z0 _ rfl⟩
def n8:V->Bool
 |.non=>true
 |.bl _=>true
 |.int _=>true
 |.str _=>true
 |_=>false
def eqV:V->V->Bool
 |.non,.non=>true
 |.bl a,.bl b=>a == b
 |.bl a,.int b=>(if a then 1 else 0) == b
 |.int a,.bl b=>a == (if b then 1 else 0)
 |.int a,.int b=>a == b
 |.str a,.str b=>a == b
 |_,_=>false
theorem Lo{A:ZE}{s:Q4}{y x:V}{u v:Q3}(ry:bS y u)(rx:bS x v)(fy:n8 y=true)(fx:n8 x=true):SeqAt.EqAt A s u v (eqV y x):=by
 cases y with
 |non=>
  cases ry;cases x with
  |non=>cases rx;exact SeqAt.EqAt.same _
  |bl b=>cases rx;exact SeqAt.EqAt.none_bool b
  |int b=>let⟨t,rfl⟩:=rx;exact SeqAt.EqAt.none_int b t
  |str b=>let⟨t,rfl⟩:=rx;exact SeqAt.EqAt.none_str b t
  |_=>exact absurd (show false=true from fx) QV
 |bl a=>
  cases ry;cases x with
  |non=>cases rx;exact SeqAt.EqAt.bool_none a
  |bl b=>cases rx;exact SeqAt.EqAt.bool_bool a b
  |int b=>let⟨t,rfl⟩:=rx;exact SeqAt.EqAt.bool_int a b t
  |str b=>let⟨t,rfl⟩:=rx;exact SeqAt.EqAt.bool_str a b t
  |_=>exact absurd (show false=true from fx) QV
 |int a=>
  let⟨t',rfl⟩:=ry;cases x with
  |non=>cases rx;exact SeqAt.EqAt.int_none a t'
  |bl b=>cases rx;exact SeqAt.EqAt.int_bool a t' b
  |int b=>let⟨t,rfl⟩:=rx;exact SeqAt.EqAt.int_int a t' b t
  |str b=>let⟨t,rfl⟩:=rx;exact SeqAt.EqAt.int_str a t' b t
  |_=>exact absurd (show false=true from fx) QV
 |str a=>
  let⟨t',rfl⟩:=ry;cases x with
  |non=>cases rx;exact SeqAt.EqAt.str_none a t'
  |bl b=>cases rx;exact SeqAt.EqAt.str_bool a t' b
  |int b=>let⟨t,rfl⟩:=rx;exact SeqAt.EqAt.str_int a t' b t
  |str b=>let⟨t,rfl⟩:=rx;exact SeqAt.EqAt.str_str a t' b t
  |_=>exact absurd (show false=true from fx) QV
 |_=>exact absurd (show false=true from fy) QV
def eqU(x:V)(u:Q3):Bool:=match u with
 |.none=>eqV .non x
 |.bool b=>eqV (.bl b) x
 |.int i _=>eqV (.int i) x
 |.str z _=>eqV (.str z) x
 |_=>false
theorem EZ{x y:V}{u:Q3}(r:bS y u)(f:n8 y=true):eqU x u=eqV y x:=by
 cases y with
 |non=>cases r;rfl
 |bl b=>cases r;rfl
 |int i=>let⟨t,rfl⟩:=r;rfl
 |str z=>let⟨t,rfl⟩:=r;rfl
 |_=>exact absurd (show false=true from f) QV
theorem nD{x:V}:∀{xs:List V} {us:List Q3},bE xs us->xs.all n8=true->us.any (eqU x)=xs.any λy=>eqV y x
 |_,_,.nil,_=>rfl
 |y::xs,u::us,.cons r t,f=>by
  rw[List.all_cons,Zl]at f;rw[Zn,Zn,EZ r f.1,nD t f.2]
theorem ki{A:ZE}{s:Q4}{x:V}{v:Q3}(rx:bS x v)(fx:n8 x=true):∀{xs:List V} {us:List Q3},bE xs us->xs.all n8=true->∀u∈us,SeqAt.EqAt A s u v (eqU x u)
 |_,_,.nil,_=>λu hu=>by cases hu
 |y::xs,u::us,.cons r t,f=>λu' hu=>by
  rw[List.all_cons,Zl]at f;rcases Z8.mp hu with rfl|hu;rw[EZ r f.1];exact Lo r rx f.1 fx;exact ki rx fx t f.2 u' hu
def inV(x:V)(xs:List V):Bool:=xs.any λy=>eqV y x
def rIn(K:Q1)(neg:Bool):R2:=λx y H Q=>∃p xs,y=.ref p/\(SqL K H p xs\/SqT K H p xs)/\n8 x=true/\xs.all n8=true/\Q (.bl (if neg then !inV x xs else inV x xs)) H
theorem zI:OpR X (compareOp .In) (rIn X.K false):=by
 intro b_ s σ H x y v u Q I rx ry h;let⟨p,xs,rfl,hq,fx,fs,q⟩:=h;cases ry;rcases hq with hq|hq;let⟨its,r,pl,hz⟩:=I.list hq;refine SeqAt.in_listAt (eqU x) pl.isList (λw hw=>ki rx fx r fs w ‹hw›) ⟨.bl _,H,I,rfl,?_⟩;rw[show its.toArray.any (eqU x)=its.any (eqU x)by simp,nD r fs];exact q;let⟨its,r,pl,hz⟩:=I.tuple hq;refine SeqAt.in_tupleAt (eqU x) pl (λw hw=>ki rx fx r fs w ‹hw›) ⟨.bl _,H,I,rfl,?_⟩;rw[show its.toArray.any (eqU x)=its.any (eqU x)by simp,nD r fs];exact q
theorem rB:OpR X (compareOp .NotIn) (rIn X.K true):=by
 intro b_ s σ H x y v u Q I rx ry h;let⟨p,xs,rfl,hq,fx,fs,q⟩:=h;cases ry;rcases hq with hq|hq;let⟨its,r,pl,hz⟩:=I.list hq;refine SeqAt.notIn_listAt (eqU x) pl.isList (λw hw=>ki rx fx r fs w ‹hw›) ⟨.bl _,H,I,rfl,?_⟩;rw[show its.toArray.any (eqU x)=its.any (eqU x)by simp,nD r fs];exact q;let⟨its,r,pl,hz⟩:=I.tuple hq;refine SeqAt.notIn_tupleAt (eqU x) pl (λw hw=>ki rx fx r fs w ‹hw›) ⟨.bl _,H,I,rfl,?_⟩;rw[show its.toArray.any (eqU x)=its.any (eqU x)by simp,nD r fs];exact q
theorem sR:ft X (.builtin "len") (λxs H Q=>∃p ys,xs=[.ref p]/\(SqL X.K H p ys\/SqT X.K H p ys)/\Q (.int ys.length) H):=by
 intro b_ s σ H xs us Q I r h;let⟨p,ys,rfl,hq,q⟩:=h;let⟨u,rfl,rx⟩:=lL r;cases rx;have hn:=wF;rcases hq with hq|hq
 ·let⟨its,r',pl,hz⟩:=I.list hq;have p_:=r'.length;exact Calls.call_len_list pl.isList (by simp only[QM]<;>omega) ⟨.int ys.length,H,I.tok _,⟨s.toks+1,by rw[QM,p_]⟩,q⟩
 ·let⟨its,r',pl,hz⟩:=I.tuple hq;have p_:=r'.length;exact len_tuple pl (by simp only[QM]<;>omega) ⟨.int ys.length,H,I.tok _,⟨s.toks+1,by rw[QM,p_]⟩,q⟩
theorem ft.or{f:Q3}{r r':List V->Hp->VK->Prop}(h:ft X f r)(h':ft X f r'):ft X f (λxs H Q=>r xs H Q\/r' xs H Q):=by
 intro b_ s σ H xs us Q I rs q;rcases q with q|q;exact h b_ s σ H xs us Q I rs q;exact h' b_ s σ H xs us Q I rs q
theorem i6:ft X (.type "list") (λxs H Q=>∃p ys,xs=[.ref p]/\(SqL X.K H p ys\/SqT X.K H p ys)/\∀l,H l=none->Q (.ref l) (upd H l (.lst ys))):=by
 intro b_ s σ H xs us Q I r h;let⟨p,ys,rfl,hq,q⟩:=h;let⟨u,rfl,rx⟩:=lL r;cases rx;have fin:∀(its:List Q3),bE ys its->ys.length<=QU->∀(h':Heap) (c':Nat),(∀b o',s.heap.get? b=some o'->h'.get? b=some o')->
   h'.get? s.heap.objs.size=some { cls:=.type "list",dict:=none,data:=.seq its.toArray c',slots:=#[] }->EP X b_ σ Q (.ref s.heap.objs.size) { s with heap:=h' }:=λits r' hz h' c' kp e=>
  ⟨.ref s.heap.objs.size,_,I.laid (t':=s.toks) kp (QQ _) (show cU X.prog X.w _ h' _ (.lst ys)from⟨hz,its,c',r',e⟩),rfl,q _ (I.hok.fresh (QQ _))⟩
 rcases hq with hq|hq
 ·let⟨its,r',pl,hz⟩:=I.list hq;have p_:=r'.length;let⟨o,ho,hc,n,hd⟩:=pl.isList;exact call_list_seq p (.inl rfl) ho hc hd (λh' c' kp e=>fin its r' hz h' c' kp e) (by simp only[QM]<;>omega)
 ·let⟨its,r',pl,hz⟩:=I.tuple hq;have p_:=r'.length;let⟨o,ho,hc,n,hd⟩:=pl;exact call_list_seq p (.inr rfl) ho hc hd (λh' c' kp e=>fin its r' hz h' c' kp e) (by simp only[QM]<;>omega)
theorem hJ:ft X (.type "tuple") (λxs H Q=>∃p ys,xs=[.ref p]/\((SqL X.K H p ys/\∀l,H l=none->Q (.ref l) (upd H l (.tup ys)))\/(SqT X.K H p ys/\Q (.ref p) H))):=by
 intro b_ s σ H xs us Q I r h;let⟨p,ys,rfl,h⟩:=h;let⟨u,rfl,rx⟩:=lL r;cases rx;rcases h with⟨hq,q⟩|⟨hq,q⟩
 ·let⟨its,r',pl,hz⟩:=I.list hq;have p_:=r'.length;refine call_tuple_list pl.isList (λh' kp=>?_) (by simp only[QM]<;>omega);have I1:Inv X b_ σ H { s with heap:=h' }:=I.kept (t':=s.toks) kp;have I2:Inv X b_ σ (upd H h'.objs.size (.tup ys)) { s with heap:=h'.push { cls:=.type "tuple",data:=.seq its.toArray } }:=
   I1.laid (t':=s.toks) (λb o e=>Q5 _ e) (QQ _) (show cU X.prog X.w _ _ _ (.tup ys)from⟨hz,its,r',Ee.new _ _⟩)
  exact⟨.ref h'.objs.size,_,I2,rfl,q _ (I1.hok.fresh (QQ _))⟩
 let⟨its,r',pl,hz⟩:=I.tuple hq;exact call_tuple_same pl ⟨.ref p,H,I,rfl,q⟩
def tyV(K:Q1)(T:String)(x:V)(H:Hp):Prop:=match x with
 |.str _=>T="str"
 |.int _=>T="int"
 | .ref p=>(T="list"/\∃xs,SqL K H p xs)\/(T="tuple"/\∃o,K.lookup p=some o/\o.cls=.type "tuple"/\o.dict=none)\/
   (T="dict"/\((∃kvs,H p=some (.dK kvs))\/∃kvs,H p=some (.dT kvs)))\/(T="set"/\∃S n,H p=some (.set S n))
 |_=>False
theorem Jp{b_:List (Addr×Obj)}{σ:St}{H:Hp}{s:Q4}{T:String}{x:V}{v:Q3}(I:Inv X b_ σ H s)(r:bS x v)(ty:tyV X.K T x H) :
  s.TypeIs v T/\∀a,v=.ref a->∃ob,s.heap.get? a=some ob/\ob.dict=none:=by
 cases x with
 |str z=>
  let⟨t,rfl⟩:=r;cases (show T="str" from ty);exact⟨typeIs_str s z t,λ_ e=>nomatch e⟩
 |int i=>
  let⟨t,rfl⟩:=r;cases (show T="int" from ty);exact⟨typeIs_int s i t,λ_ e=>nomatch e⟩
 |ref p=>
  cases r;rcases ty with⟨rfl,xs,hq⟩|⟨rfl,o,hk,hc,hd⟩|⟨rfl,hk⟩|⟨rfl,S,n,hk⟩;let⟨its,_,pl,_⟩:=I.list hq;refine⟨pl.isList.typeIs,λa e=>?_⟩;cases e;let⟨o,n,e,c,hd,_⟩:=pl;exact⟨o,e,hd⟩;refine⟨⟨o,I.kIn p o hk,hc⟩,λa e=>?_⟩;cases e;exact⟨o,I.kIn _ o hk,hd⟩;have z:∃o,s.heap.get? p=some o/\o.ExactDict:=by
   rcases hk with⟨kvs,hk⟩|⟨kvs,hk⟩;let⟨_,_,_,_,o,_,_,e,ex,_⟩:=I.hok p _ hk;exact⟨o,e,ex⟩;let⟨_,_,_,_,o,_,_,e,ex,_⟩:=I.hok p _ hk;exact⟨o,e,ex⟩
  let⟨o,e,ex⟩:=z;refine⟨⟨o,e,ex.1⟩,λa e2=>?_⟩;cases e2;exact⟨o,e,ex.2.1⟩;let⟨o,_,_,_,e,ex,_⟩:=I.hok p _ hk;refine⟨⟨o,e,ex.1⟩,λa e2=>?_⟩;cases e2;exact⟨o,e,ex.2.1⟩
 |_=>exact False.elim ty
def tBM(K:Q1)(T:String)(r:V->List V->Hp->VK->Prop)(to:TE)(t:TA):TE:=λσ H Q=>to σ H λx H1=>tyV K T x H1/\t σ H1 λxs H2=>r x xs H2 Q
variable{es:List QF}{to:TE}{t:TA}{name:Str}{T id:String}{r:V->List V->Hp->VK->Prop}
theorem NZ(pa:PlainAttrs T)(slot:Slot T name id)(hty:typeOf (.builtin id)=pure (.type "method_descriptor"))(hm:MtR X id r)(ho:PE X o to)(ha:PA X (e::es) t)
  (K_:attributeBase o name X.env (eval o X.env)=eval o X.env:=by rfl)
  (R8:((ZL j_ (Q6 (e::es) X.env)).all (λx=>!x.1)&&(backToKw j_ (keywordEach [] X.env)).all (λx=>x.1.isSome)
   && decide ((e::es).length+([]:List Keyword).length+(if ([]:List Keyword).isEmpty then 0 else 1)<30))=true:=by rfl)
  (J_:(i_.endLine == j_.line)=true:=by rfl) (hs:Q6 (e::es) X.env=(false,eval e X.env)::Q6 es X.env:=by rfl) (E_:(ZL j_ (Q6 es X.env)).any (·.1)=false:=by rfl) :
  PE X (.Call (.Attribute o name i_) (e::es) [] j_) (tBM X.K T r to t):=by
 intro b_ s σ H Q I h;refine wpAny_Call_method_late K_ R8 J_ rfl (thn (ho b_ s σ H _ I h) λv s1 hz=>?_);let⟨x,H1,I1,r1,ty,q1⟩:=hz;let⟨h1,h2⟩:=Jp I1 r1 ty;refine⟨T,id,pa,slot,hty,h1,h2,?_⟩;have hA:=ha j_ b_ s1 σ H1 _ I1 q1;rw[hs]at hA ⊢;refine Calls.callWith_builtin (by show(false||(ZL j_ (Q6 es X.env)).any (·.1))=false;rw[E_]<;>rfl) (Calls.evalArgs_plain ?_);exact thn hA λus s2 ⟨vs,H2,I2,r2,q2⟩=>hm b_ s2 σ H2 x vs v us Q I2 r1 r2 q2
end
def MtM(X:Cx)(id:String)(r:V->List V->Hp->VK->Prop):Prop:=
 ∀(b_:List (Addr×Obj)) (s:Q4) (σ:St) (H:Hp) (x:V) (xs:List V) (v:Q3) (us:List Q3) (Q:VK),Inv X b_ σ H s->bS x v->bE xs us->r x xs H Q->
  wpAny (ZQ X.prog X.w) X.A (call (.builtin id) (v::us)) (EP X b_ σ Q) X.xe s
theorem bE.one:∀{x:V} {us:List Q3},bE [x] us->∃u,us=[u]/\bS x u
 |_,_,.cons r .nil=>⟨_,rfl,r⟩
theorem bE.eraseIdx:∀{xs:List V} {us:List Q3} (i:Nat),bE xs us->bE (xs.eraseIdx i) (us.eraseIdx i)
 |_,_,_,.nil=>.nil
 |_,_,0,.cons _ t=>t
 |_,_,i+1,.cons r t=>.cons r (bE.eraseIdx i t)
theorem bE.rep{xs:List V}{us:List Q3}(h:bE xs us):∀k:Nat,bE (QR k xs).flatten (QR k us).flatten
 |0=>.nil
 |k+1=>by
  rw[XZ,XZ,XM,XM];exact bE.append h (bE.rep h k)
theorem rN{α:Type}:∀(l:List α) (i:Nat),(l.eraseIdx i).length<=l.length
 |[],_=>QQ _
 |_::_,0=>Nat.le_succ _
 |_::r,i+1=>Nat.succ_le_succ (rN r i)
theorem mZ(its:List Q3):∀(k:Nat) (acc:List Q3),
  List.foldl (λx1 x2=>x1++x2) acc.toArray (QR k its.toArray)=(acc++(QR k its).flatten).toArray
 |0,acc=>by simp
 |k+1,acc=>by
  have e:acc.toArray++its.toArray=(acc++its).toArray:=by simp
  have e2:(acc++its)++(QR k its).flatten=acc++(QR (k+1) its).flatten:=by
   rw[XZ,XM,ZJ]
  rw[<-e2,<-mZ its k (acc++its),<-e,XZ,List.foldl_cons]
variable{b_:List (Addr×Obj)}{σ:St}{H:Hp}{s:Q4}
section
variable{l:Addr}{xs ys:List V}
theorem Inv.lset{its its':List Q3}{n:Nat}{f:Array Q3->Array Q3}{t':Nat}(I:Inv X b_ σ H s)(hH:H l=some (.lst xs))
  (e:s.heap.get? l=some { cls:=.type "list",data:=.seq its.toArray n }) (hf:f its.toArray=its'.toArray) (hv:bE ys its') (hz:ys.length<=QU) :
  Inv X b_ σ (upd H l (.lst ys)) { s with heap:=s.heap.update l (YZ f),toks:=t' }:=by
 have q:=PySem.IsL.update e f;rw[hf]at q;refine I.write (x:=l) (e:=l) (by rw[hH];exact trivial) (.inl rfl) (λb' u hb hu=>(Zu s.heap (YZ f) (Ne.symm hb)).trans hu) ⟨_,q⟩ ?_;exact⟨hz,its',_,hv,q⟩
theorem Inv.lnew{its:List Q3}{t':Nat}(I:Inv X b_ σ H s)(hv:bE ys its)(hz:ys.length<=QU) :
  Inv X b_ σ (upd H s.heap.objs.size (.lst ys)) { s with heap:=s.heap.push { cls:=.type "list",data:=.seq its.toArray },toks:=t' }:=
 I.laid (λ_ _ q=>Q5 _ q) (QQ _) ⟨hz,its,0,hv,Z0 _ rfl⟩
def Inv.fresh(I:Inv X b_ σ H s):H s.heap.objs.size=none:=I.hok.fresh (QQ _)
theorem Inv.lstM(I:Inv X b_ σ H s)(hH:H l=some (.lst xs)):xs.length<=QU/\∃(its:List Q3) (n:Nat),bE xs its/\xs.length=its.length/\s.heap.get? l=some { cls:=.type "list",data:=.seq its.toArray n }:=by
 let⟨z,its,n,r,e⟩:=I.hok l _ hH;exact⟨z,its,n,r,r.length,e⟩
theorem CK{n:Nat}(h:n<=QU):Builtin.List.listTooLong n=false:=by
 unfold Builtin.List.listTooLong;exact Xq ⋯
end
def zg:V->List V->Hp->VK->Prop:=λx vs H Q=>∃l xs y,x=.ref l/\vs=[y]/\H l=some (.lst xs)/\xs.length<QU/\Q .non (upd H l (.lst (xs++[y])))
theorem mP:MtM X "list.append" zg:=by
 intro b_ s σ H x vs v us Q I rx rv h;let⟨l,xs,y,rfl,rfl,hH,hz,q⟩:=h;cases rx;let⟨u,rfl,ru⟩:=rv.one;let⟨z,its,n,r,hl,e⟩:=I.lstM hH;refine call_meets F.slot_list_append ⟨_,e,rfl⟩ F.entry_list_append (F.args_list_append_2 _ _) (PySem.list_append l its.toArray n u (by rw[QM];omega)) ⟨e,?_⟩;refine⟨.non,_,I.lset (its':=its++[u]) hH e nofun (r.append (.cons ru .nil)) ?_,rfl,q⟩;rw[Z6,List.length_singleton];omega
def Ez:V->List V->Hp->VK->Prop:=λx vs H Q=>∃l xs i k y,x=.ref l/\vs=[.int i]/\H l=some (.lst xs)/\-(2^63)<=i/\i<2^63/\seqIndex? i xs.length=some k/\xs[k]?=some y/\Q y (upd H l (.lst (xs.eraseIdx k)))
theorem CN:MtM X "list.pop" Ez:=by
 intro b_ s σ H x vs v us Q I rx rv h;let⟨l,xs,i,k,y,rfl,rfl,hH,h1,h2,hk,hy,q⟩:=h;cases rx;let⟨u,rfl,ru⟩:=rv.one;let⟨t,rfl⟩:=ru;let⟨z,its,n,r,hl,e⟩:=I.lstM hH;let⟨w,hw,rw'⟩:=r.get hy;refine call_meets F.slot_list_pop ⟨_,e,rfl⟩ F.entry_list_pop (F.args_list_pop_2 _ _)
  (MeetsSeq.list_pop_at l its.toArray n i t k w (fitsIndex_both h1 h2) (by rw[QM,<-hl];exact hk) (by rw[<-XG];exact hw) (by rw[QM];omega)) ⟨e,?_⟩
 refine⟨y,_,I.lset (its':=its.eraseIdx k) hH e ?_ (r.eraseIdx k) ?_,rw',q⟩;show its.toArray.eraseIdxIfInBounds k=(its.eraseIdx k).toArray;rw[List.eraseIdxIfInBounds_toArray];have:=rN xs k;omega
def L6:R2:=λx y H Q=>∃l b xs zs,x=.ref l/\y=.ref b/\H l=some (.lst xs)/\H b=some (.lst zs)/\xs.length+zs.length<=QU/\∀p,H p=none->Q (.ref p) (upd H p (.lst (xs++zs)))
theorem KC:OpR X (binaryOp .Add) L6:=by
 intro b_ s σ H x y v u Q I rx ry h;let⟨l,b,xs,zs,rfl,rfl,hH,hB,hz,q⟩:=h;cases rx;cases ry;let⟨z,its,n,r,hl,e⟩:=I.lstM hH;let⟨z2,its2,n2,r2,hl2,e2⟩:=I.lstM hB;refine PySem.P.add_list e e2 ?_ (by rw[QM,QM];omega);have ea:its.toArray++its2.toArray=(its++its2).toArray:=by simp
 rw[ea];exact⟨.ref _,_,I.lnew (t':=s.toks) (r.append r2) (by rw[Z6];omega),rfl,q _ I.fresh⟩
def NF:R2:=λx y H Q=>∃l k xs,x=.ref l/\y=.int k/\H l=some (.lst xs)/\-(2^63)<=k/\k<2^63/\xs.length*k.toNat<=QU/\
 ∀p,H p=none->Q (.ref p) (upd H p (.lst (QR k.toNat xs).flatten))
theorem uB{α:Type}(xs:List α)(k:Nat):(QR k xs).flatten.length=k*xs.length:=by
 induction k with
 |zero=>simp
 |succ k ih=>rw[XZ,XM,Z6,ih,Nat.succ_mul,Nat.add_comm]
theorem Ky:OpR X (binaryOp .Mult) NF:=by
 intro b_ s σ H x y v u Q I rx ry h;let⟨l,k,xs,rfl,rfl,hH,h1,h2,hz,q⟩:=h;cases rx;let⟨t,rfl⟩:=ry;let⟨z,its,n,r,hl,e⟩:=I.lstM hH;have p_:its.toArray.size*k.toNat<=QU:=by rw[QM,<-hl];exact hz
 have F_:¬its.toArray.size*k.toNat>(2^63-1) / 8:=by
  have:(QU:Nat)<=(2^63-1) / 8:=by decide
  omega
 have hfit:¬(!Builtin.List.listFitsIndex k)=true:=by
  rw[fitsIndex_both h1 h2];exact QV
 have hlong:¬Builtin.List.listTooLong (its.toArray.size*k.toNat)=true:=by
  rw[CK p_];exact QV
 have hnew:List.foldl (λx1 x2=>x1++x2) #[] (QR (if its.toArray.isEmpty=true then 0 else k.toNat) its.toArray)=(QR k.toNat its).flatten.toArray:=by
  have f0:∀m:Nat,List.foldl (λx1 x2=>x1++x2) #[] (QR m its.toArray)=(QR m its).flatten.toArray:=λm=>by
   have:=mZ its m [];rw[Zw]at this;exact this
  rw[f0];cases its with
  |nil=>simp
  |cons a r'=>rw[XS nofun]
 refine wpAny_binaryOp_repeat_ref (T:="list") (U:="int") ∅ ⟨_,e,rfl⟩ (λs'=>typeIs_int s' k t) noFill_list_mul F.fills_int_mul F.slot_int_rmul repeat_list F.slot_int_index.lookup
  (call_meets F.slot_int_rmul (typeIs_int s k t) F.entry_int_rmul (F.args_int_rmul_2 _ _) (int___rmul___int_list k t l its.toArray n)
   ⟨e,rfl,⟨_,e,rfl⟩,call_meets F.slot_list_mul ⟨_,e,rfl⟩ F.entry_list_mul (F.args_list_mul_2 _ _) (AutoListH.list___mul___list_int_3 l its.toArray n k t hfit F_ hlong) ⟨e,?_⟩⟩)
 rw[hnew];exact⟨.ref _,_,I.lnew (t':=s.toks) (r.rep k.toNat) (by rw[uB,Nat.mul_comm];exact hz),rfl,q _ I.fresh⟩
section
variable{κ:Type}[DecidableEq κ]
def jr(kvs:List (κ×V))(k:κ):Option V:=(kvs.find? λkv=>decide (kv.1=k)).map (·.2)
def nN(kvs:List (κ×V))(k:κ)(v:V):List (κ×V):=
 if (kvs.any λkv=>decide (kv.1=k))=true then kvs.map (λkv=>if kv.1=k then(kv.1,v)else kv)else kvs++[(k,v)]
def qq(kvs:List (κ×V))(k:κ):List (κ×V):=kvs.filter λkv=>decide (kv.1≠k)
def dq{p:κ×V}{r:List (κ×V)}{k:κ}(e:p.1=k):jr (p::r) k=some p.2:=by simp[jr,Zj,e]
def dr{p:κ×V}{r:List (κ×V)}{k:κ}(e:¬p.1=k):jr (p::r) k=jr r k:=by simp[jr,Zj,e]
theorem lX(k:κ):∀kvs:List (κ×V),(kvs.any λkv=>decide (kv.1=k))=(jr kvs k).isSome
 |[]=>rfl
 |p::r=>by
  rw[Zn];by_cases e:p.1=k;simp only[dq e,Xz e,Bool.true_or,ZI];rw[dr e,Xq e,XA];exact lX k r
theorem vN(k j:κ)(y:V):∀kvs:List (κ×V),jr (kvs.map λkv=>if kv.1=k then(kv.1,y)else kv) j=(jr kvs j).map λx=>if j=k then y else x
 |[]=>rfl
 |p::r=>by
  have ih:=vN k j y r;rw[QL];by_cases h:p.1=k;rw[XO h];by_cases e:p.1=j;rw[dq (p:=(p.1,y)) e,dq e,Zi,XO (e.symm.trans h)];rw[dr (p:=(p.1,y)) e,dr e,ih];rw[XS h];by_cases e:p.1=j;rw[dq (p:=p) e,dq e,Zi,XS (λz=>h (e.trans z))];rw[dr (p:=p) e,dr e,ih]
theorem qU(k j:κ)(y:V):∀kvs:List (κ×V),jr kvs k=none->jr (kvs++[(k,y)]) j=if j=k then some y else jr kvs j
 |[],_=>by
  by_cases e:k=j;rw[XO e.symm];exact dq (p:=(k,y)) e;rw[XS (λz=>e z.symm)];exact dr (p:=(k,y)) e
 |p::r,hn=>by
  rw[Zt];have hk:¬p.1=k:=λz=>by rw[dq z]at hn;cases hn
  rw[dr hk]at hn;have ih:=qU k j y r hn;by_cases e:p.1=j;rw[dq e,dq e,XS (λz=>hk (e.trans z))];rw[dr e,dr e,ih]
theorem BQ(kvs:List (κ×V))(k j:κ)(y:V):jr (nN kvs k y) j=if j=k then some y else jr kvs j:=by
 unfold nN;by_cases a:(kvs.any λkv=>decide (kv.1=k))=true;rw[XO a,vN];rw[lX]at a;by_cases e:j=k;let⟨x,hx⟩:=Zz.mp a;rw[XO e,e,hx,Zi,XO rfl];rw[XS e];cases jr kvs j with
 |none=>rfl
 |some x=>rw[Zi,XS e]
 rw[XS a];refine qU k j y kvs ?_;rw[lX]at a;cases q:jr kvs k with
 |none=>rfl
 |some x=>rw[q]at a;exact(a rfl).elim
theorem jJ(kvs:List (κ×V))(k:κ)(v:V):(nN kvs k v).length<=kvs.length+1:=by
 unfold nN;split;rw[QX];omega;rw[Z6,QK,XF];omega
theorem qF.isSome_eq{o:Option V}{u:Option Q3}(r:qF o u):o.isSome=u.isSome:=by
 cases o with
 |none=>cases u with
  |none=>rfl
  |some _=>exact(show False from r).elim
 |some _=>cases u with
  |none=>exact(show False from r).elim
  |some _=>rfl
theorem qF.getD{o:Option V}{u:Option Q3}{d:V}{d':Q3}(r:qF o u)(rd:bS d d'):bS (o.getD d) (u.getD d'):=by
 cases o with
 |none=>cases u with
  |none=>exact rd
  |some _=>exact(show False from r).elim
 |some _=>cases u with
  |none=>exact(show False from r).elim
  |some _=>exact r
theorem KV.val{kvs:List (κ×V)}{vs:List (κ×Q3)}(r:KV kvs vs)(k:κ):qF (jr kvs k) (valueAt vs k):=by
 unfold KV at r;induction r with
 |nil=>exact True.intro
 |@cons p q ps qs h t ih=>
  let⟨h1,h2⟩:=h;by_cases e:p.1=k;have e':q.1=k:=h1.symm.trans e;have b:valueAt (q::qs) k=some q.2:=by simp[valueAt,Zj,e']
  rw[dq e,b];exact h2;have e':¬q.1=k:=λz=>e (h1.trans z);have b:valueAt (q::qs) k=valueAt qs k:=by simp[valueAt,Zj,e']
  rw[dr e,b];exact ih
theorem KV.any{kvs:List (κ×V)}{vs:List (κ×Q3)}(r:KV kvs vs)(k:κ):(kvs.any λkv=>decide (kv.1=k))=vs.any λkv=>decide (kv.1=k):=by
 unfold KV at r;induction r with
 |nil=>rfl
 |cons h t ih=>rw[Zn,Zn,ih,h.1]
theorem KV.repl{kvs:List (κ×V)}{vs:List (κ×Q3)}(r:KV kvs vs)(k:κ){y:V}{u:Q3}(ry:bS y u) :
  KV (kvs.map λkv=>if kv.1=k then(kv.1,y)else kv) (vs.map λkv=>if kv.1=k then(kv.1,u)else kv):=by
 unfold KV at r ⊢;induction r with
 |nil=>exact .nil
 |@cons p q ps qs h t ih=>
  rw[QL,QL];refine .cons ?_ ih;let⟨h1,h2⟩:=h;by_cases e:p.1=k;rw[XO e,XO (h1.symm.trans e)];exact⟨h1,ry⟩;rw[XS e,XS (λz=>e (h1.trans z))];exact⟨h1,h2⟩
theorem KV.put{kvs:List (κ×V)}{vs:List (κ×Q3)}(r:KV kvs vs)(k:κ){y:V}{u:Q3}(ry:bS y u):KV (nN kvs k y) (stored vs k u):=by
 unfold nN stored;rw[r.any k];by_cases e:(vs.any λkv=>decide (kv.1=k))=true;rw[XO e,XO e];exact r.repl k ry;rw[XS e,XS e];exact Paired.snoc r ⟨rfl,ry⟩
theorem KV.drop{kvs:List (κ×V)}{vs:List (κ×Q3)}(r:KV kvs vs)(k:κ):KV (qq kvs k) (without vs k):=by
 unfold KV at r ⊢;unfold qq without;induction r with
 |nil=>exact .nil
 |@cons p q ps qs h t ih=>
  let⟨h1,h2⟩:=h;rw[List.filter_cons,List.filter_cons];by_cases e:p.1=k;have a:¬decide (p.1≠k)=true:=by simp[e]
  have b:¬decide (q.1≠k)=true:=by simp[h1.symm.trans e]
  rw[XS a,XS b];exact ih;have e':¬q.1=k:=λz=>e (h1.trans z);have a:decide (p.1≠k)=true:=by simp[e]
  have b:decide (q.1≠k)=true:=by simp[e']
  rw[XO a,XO b];exact .cons ⟨h1,h2⟩ ih
def KV.length{kvs:List (κ×V)}{vs:List (κ×Q3)}(r:KV kvs vs):kvs.length=vs.length:=Paired.length r
def DH(kvs:List (κ×V))(k:κ):(qq kvs k).length<=kvs.length:=List.length_filter_le _ _
end
theorem rO{P:Z7}{w:ZR}{k:Key}{u:Q3}(r:bS (kV k) u):(bp P w).is k u=true:=by
 cases k with
 |inl i=>let⟨t,e⟩:=(show ∃t,u=Value.int i t from r);subst e;exact uz P w i t
 |inr x=>let⟨t,e⟩:=(show ∃t,u=Value.str x t from r);subst e;exact uy P w x t
theorem rP{P:Z7}{w:ZR}:∀{ks:List Key} {us:List Q3},bE (ks.map kV) us->ItemsAre (bp P w) ks us
 |[],_,r=>by rw[Za]at r;cases r;exact .nil
 |k::ks,_,r=>by
  rw[QL]at r;cases r with
  |cons h t=>exact .cons (rO h) (rP t)
abbrev KT(H:Hp):List (List Key×V)->List (List Key×Addr×Q3)->Prop:=Paired λp q=>p.1=q.1/\H q.2.1=some (.tup (p.1.map kV))/\bS p.2 q.2.2
theorem KT.val{H:Hp}{kvs:List (List Key×V)}{xs:List (List Key×Addr×Q3)}(r:KT H kvs xs)(k:List Key):qF (jr kvs k) ((atKey xs k).map (·.2)):=by
 induction r with
 |nil=>exact True.intro
 |@cons p q ps qs h t ih=>
  let⟨h1,_,h2⟩:=h;by_cases e:p.1=k;have e':q.1=k:=h1.symm.trans e;have b:atKey (q::qs) k=some q.2:=by simp[atKey,Zj,e']
  rw[dq e,b];exact h2;have e':¬q.1=k:=λz=>e (h1.trans z);have b:atKey (q::qs) k=atKey qs k:=by simp[atKey,Zj,e']
  rw[dr e,b];exact ih
theorem KT.repl{H:Hp}{kvs:List (List Key×V)}{xs:List (List Key×Addr×Q3)}(r:KT H kvs xs)(k:List Key){y:V}{u:Q3}(ry:bS y u) :
  KT H (kvs.map λkv=>if kv.1=k then(kv.1,y)else kv) (xs.map (putAt k u)):=by
 induction r with
 |nil=>exact .nil
 |@cons p q ps qs h t ih=>
  rw[QL,QL];refine .cons ?_ ih;let⟨h1,h2,h3⟩:=h;unfold putAt;by_cases e:p.1=k;rw[XO e,XO (h1.symm.trans e)];exact⟨h1,h2,ry⟩;rw[XS e,XS (λz=>e (h1.trans z))];exact⟨h1,h2,h3⟩
theorem KT.put{H:Hp}{kvs:List (List Key×V)}{xs:List (List Key×Addr×Q3)}(r:KT H kvs xs)(k:List Key){b:Addr}{y:V}{u:Q3}(hb:H b=some (.tup (k.map kV)))(ry:bS y u) :
  KT H (nN kvs k y) (storedH xs k b u):=by
 have e:(kvs.any λkv=>decide (kv.1=k))=(atKey xs k).isSome:=by
  rw[lX,(r.val k).isSome_eq,Option.isSome_map]
 unfold nN storedH;rw[e];by_cases q:(atKey xs k).isSome=true;rw[XO q,XO q];exact r.repl k ry;rw[XS q,XS q];exact Paired.snoc r ⟨rfl,hb,ry⟩
theorem KT.keeps{H H':Hp}{kvs:List (List Key×V)}{xs:List (List Key×Addr×Q3)}(r:KT H kvs xs)(ht:∀b ys,H b=some (.tup ys)->H' b=some (.tup ys)):KT H' kvs xs:=
 Paired.mapP r λ_ _ z=>⟨z.1,ht _ _ z.2.1,z.2.2⟩
variable{a:Addr}
section
variable{P:Z7}{w:ZR}{h:Heap}
def JJ{u:HO}(ok:HOk P w H h)(e:Rd H a u):cU P w H h a u:=e.ok ok
theorem sJ{kvs:List (Key×V)}(ok:HOk P w H h)(e:Rd H a (.dK kvs)):kvs.length<=QU/\(a == sysModules)=false/\∃vs,KV kvs vs/\h.DictOf (bp P w) a vs:=
 show cU P w H h a (.dK kvs)from JJ ok e
theorem qt{kvs:List (Key×V)}(ok:HOk P w H h)(e:H a=some (.dK kvs)):kvs.length<=QU/\(a == sysModules)=false/\∃vs,KV kvs vs/\h.DictOf (bp P w) a vs:=sJ ok (.inl e)
theorem oM{ks:List Key}(ok:HOk P w H h)(e:H a=some (.tup (ks.map kV))):(tupleKind (bp P w)).is h ks a:=by
 let⟨_,its,r,o,h1,h2,n,h3⟩:=(show cU P w H h a (.tup (ks.map kV))from ok a _ e);exact⟨o,its.toArray,n,h1,h2.1,h3,by simpa using rP r⟩
theorem sH{kvs:List (List Key×V)}(ok:HOk P w H h)(e:Rd H a (.dT kvs)):kvs.length<=QU/\(a == sysModules)=false/\
  ∃xs,KT H kvs xs/\h.DictOfH (tupleKind (bp P w)) a xs:=by
 let⟨z,y,xs,r,o,es,ep,h1,h2,h3,h4,h5⟩:=(show cU P w H h a (.dT kvs)from JJ ok e);refine⟨z,y,xs,r,o,es,ep,h1,h2,h3,h4,λx hx=>?_,h5⟩;have all:∀{l:List (List Key×V)} {m:List (List Key×Addr×Q3)},KT H l m->∀x∈m,(tupleKind (bp P w)).is h x.1 x.2.1:=by
  intro l m q;induction q with
  |nil=>intro x hx;exact nomatch hx
  |@cons p q ps qs hq t ih=>
   intro x hx;rcases Z8.mp hx with e|hx;subst e;exact oM ok (by rw[<-hq.1];exact hq.2.1);exact ih x hx
 exact all r x hx
theorem OS{kvs:List (List Key×V)}(ok:HOk P w H h)(e:H a=some (.dT kvs)):kvs.length<=QU/\(a == sysModules)=false/\
  ∃xs,KT H kvs xs/\h.DictOfH (tupleKind (bp P w)) a xs:=sH ok (.inl e)
end
def DGet(H:Hp)(a:Addr)(y:V)(r:Option V):Prop:=
 (∃kvs k,Rd H a (.dK kvs)/\y=kV k/\r=jr kvs k)\/∃kvs k b,Rd H a (.dT kvs)/\y=.ref b/\H b=some (.tup (k.map kV))/\r=jr kvs k
def LW(H:Hp)(a:Addr)(y v:V)(H':Hp):Prop:=
 (∃kvs k,H a=some (.dK kvs)/\y=kV k/\kvs.length<QU/\H'=upd H a (.dK (nN kvs k v)))\/
 ∃kvs k b,H a=some (.dT kvs)/\y=.ref b/\H b=some (.tup (k.map kV))/\kvs.length<QU/\H'=upd H a (.dT (nN kvs k v))
theorem DGet.k{H:Hp}{a:Addr}{kvs:List (Key×V)}{k:Key}(e:H a=some (.dK kvs)):DGet H a (kV k) (jr kvs k):=.inl ⟨kvs,k,.inl e,rfl,rfl⟩
theorem LW.k{H:Hp}{a:Addr}{kvs:List (Key×V)}{k:Key}{v:V}(e:H a=some (.dK kvs))(hl:kvs.length<QU):LW H a (kV k) v (upd H a (.dK (nN kvs k v))):=.inl ⟨kvs,k,e,rfl,hl,rfl⟩
variable{y:V}{r:Q3}{A:ZE}{E:Q3->Q4->Prop}
section
variable{v:V}{u:Q3}{o:Option V}
theorem Inv.big(I:Inv X b_ σ H s):sysModules<s.heap.objs.size:=by
 have h:mainGlobals<s.heap.objs.size:=(I.mod.glob.keeps I.bk).lt;exact Nat.lt_trans ∅ h
theorem AW{Q:Q3->Q4->Prop}(hu:A.units+1<cLine)(I:Inv X b_ σ H s)(g:DGet H a y (some v))(ry:bS y u)(h:∀w' s',Inv X b_ σ H s'->bS v w'->Q w' s') :
  wpAny (ZQ X.prog X.w) A (getItem (.ref a) u) Q E s:=by
 rcases g with⟨kvs,k,e,ey,l⟩|⟨kvs,k,b,e,ey,eb,l⟩;subst ey;let⟨z,hd,vs,rel,dd⟩:=sJ I.hok e;let⟨w',hw,rw'⟩:=qF.some_of (v:=v) (o:=valueAt vs k) (by rw[l];exact rel.val k);exact wpAny_getItem_of (rO ry) dd.mapOf hw (h w' _ (I.tok _) rw');subst ey;cases (show u=Value.ref b from ry);let⟨z,hd,xs,rel,dd⟩:=sH I.hok e;let⟨w',hw,rw'⟩:=qF.some_of (v:=v) (o:=(atKey xs k).map (·.2)) (by rw[l];exact rel.val k);let⟨p,hp,hp2⟩:=Zq.mp hw;refine wpAny_getItem_heap (tupleKind_room_in1 hu) (oM I.hok eb) dd hp ?_;rw[hp2];exact h w' _ (I.tok _) rw'
theorem QC{Q:Q3->Q4->Prop}(hu:A.units+1<cLine)(I:Inv X b_ σ H s)(g:DGet H a y o)(ry:bS y u)(h:∀s',Inv X b_ σ H s'->Q (.bool o.isSome) s') :
  wpAny (ZQ X.prog X.w) A (compareOp .In u (.ref a)) Q E s:=by
 rcases g with⟨kvs,k,e,ey,l⟩|⟨kvs,k,b,e,ey,eb,l⟩;subst ey;let⟨z,hd,vs,rel,dd⟩:=sJ I.hok e;refine wpAny_in_of (rO ry) hd dd.mapOf ?_;rw[<-(rel.val k).isSome_eq,<-l];exact h _ (I.tok _);subst ey;cases (show u=Value.ref b from ry);let⟨z,hd,xs,rel,dd⟩:=sH I.hok e;refine wpAny_in_heap (tupleKind_room_in1 hu) (oM I.hok eb) hd dd ?_;have q:=(rel.val k).isSome_eq;rw[Option.isSome_map]at q;rw[<-q,<-l];exact h _ (I.tok _)
theorem HE{Q:Q3->Q4->Prop}(hu:A.units+1<cLine)(I:Inv X b_ σ H s)(g:DGet H a y o)(ry:bS y u)(h:∀s',Inv X b_ σ H s'->Q (.bool (!o.isSome)) s') :
  wpAny (ZQ X.prog X.w) A (compareOp .NotIn u (.ref a)) Q E s:=by
 rcases g with⟨kvs,k,e,ey,l⟩|⟨kvs,k,b,e,ey,eb,l⟩;subst ey;let⟨z,hd,vs,rel,dd⟩:=sJ I.hok e;refine wpAny_notIn_of (rO ry) hd dd.mapOf ?_;rw[<-(rel.val k).isSome_eq,<-l];exact h _ (I.tok _);subst ey;cases (show u=Value.ref b from ry);let⟨z,hd,xs,rel,dd⟩:=sH I.hok e;refine wpAny_notIn_heap (tupleKind_room_in1 hu) (oM I.hok eb) hd dd ?_;have q:=(rel.val k).isSome_eq;rw[Option.isSome_map]at q;rw[<-q,<-l];exact h _ (I.tok _)
theorem qw{h':Heap}{t':Nat}{ob:HO}(I:Inv X b_ σ H s)(mu:Mut (H a))(hs:Heap.SameBut a s.heap h')(he:∃q,h'.get? a=some q)(new:cU X.prog X.w (upd H a ob) h' a ob) :
  Inv X b_ σ (upd H a ob) { s with heap:=h',toks:=t' }:=
 I.write (x:=a) (e:=a) mu (.inl rfl) (λb q hb z=>(hs.2 b hb).trans z) he new
theorem AO{P:Z7}{w:ZR}{H':Hp}{h':Heap}{kvs:List (Key×V)}{vs:List (Key×Q3)}(z:kvs.length<=QU)(hd:(a == sysModules)=false)(rel:KV kvs vs)(dd:h'.DictOf (bp P w) a vs) :
  cU P w H' h' a (.dK kvs):=⟨z,hd,vs,rel,dd⟩
theorem AV{H':Hp}{Q:Unit->Q4->Prop}(hu:A.units+1<cLine)(I:Inv X b_ σ H s)(g:LW H a y v H')(ry:bS y u)(rv:bS v r)(h:∀s',Inv X b_ σ H' s'->Q () s') :
  wpAny (ZQ X.prog X.w) A (setItem (.ref a) u r) Q E s:=by
 rcases g with⟨kvs,k,e,ey,l,eH⟩|⟨kvs,k,b,e,ey,eb,l,eH⟩;subst ey eH;let⟨z,hd,vs,rel,dd⟩:=qt I.hok e;have hz:vs.length<=QU:=by rw[<-rel.length];exact z
 have hl:(nN kvs k v).length<=QU:=by have:=jJ kvs k v;omega
 refine wpAny_setItem_pairs (hsz:=hz) (rO ry) dd λh' dd' hs=>h _ ?_;have he:∃q,h'.get? a=some q:=let ⟨q,_,_,hq,_⟩:=dd';⟨q,hq⟩
 exact qw I (by rw[e];exact True.intro) hs he (AO hl hd (rel.put k rv) dd');subst ey eH;cases (show u=Value.ref b from ry);let⟨z,hd,xs,rel,dd⟩:=OS I.hok e;have hz:xs.length<=QU:=by rw[<-Paired.length rel];exact z
 have hl:(nN kvs k v).length<=QU:=by have:=jJ kvs k v;omega
 refine wpAny_setItem_heap (hsz:=hz) (tupleKind_room_in1 hu) (oM I.hok eb) dd λh' dd' hs=>h _ ?_;let⟨q,es,ep,hq,h2,h3,h4,_,h5⟩:=dd';refine qw I (by rw[e];exact True.intro) hs ⟨q,hq⟩ ⟨hl,hd,_,(rel.put k eb rv).keeps λc ys ec=>?_,q,es,ep,hq,h2,h3,h4,h5⟩;rw[aH (Oh ec e (λz=>nomatch z))];exact ec
end
section
variable{kvs:List (Key×V)}{k:Key}{u:Q3}
theorem OV{v:V}{y_:List Q3}{Q:Q3->Q4->Prop}(I:Inv X b_ σ H s)(e:H a=some (.dK kvs))(ry:bS (kV k) u)(l:jr kvs k=some v)(hm:y_=[]\/∃x,y_=[x])
  (h:∀w' s',Inv X b_ σ (upd H a (.dK (qq kvs k))) s'->bS v w'->Q w' s'):wpAny (ZQ X.prog X.w) A (call (.builtin "dict.pop") (.ref a::u::y_)) Q E s:=by
 let⟨z,hd,vs,rel,dd⟩:=qt I.hok e;let⟨w',hw,rw'⟩:=qF.some_of (v:=v) (o:=valueAt vs k) (by rw[<-l];exact rel.val k);have hp:(keyPart u).isSome=true:=by
  cases k with
  |inl i=>let⟨t,q⟩:=(show ∃t,u=Value.int i t from ry);subst q;rfl
  |inr x=>let⟨t,q⟩:=(show ∃t,u=Value.str x t from ry);subst q;rfl
 have ha:argsOk "dict.pop" ⟨.ref a::u::y_,[]⟩:=by
  rcases hm with q|⟨x,q⟩;subst q;exact PySem.F.args_dict_pop_2 _ _;subst q;exact PySem.F.args_dict_pop_3 _ _ _
 refine call_meetsIn PySem.F.slot_dict_pop dd.typeIs PySem.F.entry_dict_pop ha (meets_dict_pop_there (bp X.prog X.w) a (rO ry) y_ hm hp)
  ⟨vs,w',dd,by rw[<-rel.length];exact z,hw,λh' dd' hs=>h w' _ ?_ rw'⟩
 have he:∃q,h'.get? a=some q:=let ⟨q,_,_,hq,_⟩:=dd';⟨q,hq⟩
 exact qw I (by rw[e];exact True.intro) hs he (AO (ZP (DH kvs k) z) hd (rel.drop k) dd')
theorem OW{Q:Q3->Q4->Prop}(I:Inv X b_ σ H s)(e:Rd H a (.dK kvs))(h:∀t s',Inv X b_ σ H s'->Q (.int kvs.length t) s'):wpAny (ZQ X.prog X.w) A (call (.builtin "len") [.ref a]) Q E s:=by
 let⟨z,hd,vs,rel,dd⟩:=sJ I.hok e;refine call_len_dict hd dd (by rw[<-rel.length];rw[sizeLine_eq]at z;omega) ?_;rw[<-rel.length];exact h _ _ (I.tok _)
end
def LM(i:QF):Prop:=∀ov iv,subscripted i false ov iv=operate [ov,iv] (getItem ov iv)
theorem F7{prog:Z7}{w:ZR}{A:ZE}{E:Q3->Q4->Prop}{s:Q4}{env:Env}{value I_:QF}{pos:Pos}{T id:String}{Q:Q3->Q4->Prop}
  (hl:typeLookup (.type T) "__getitem__"=pure (some (.builtin id))) (hs:LM I_)
  (h:wpAny (ZQ prog w) A (eval value env) (λo s₁=>wpAny (ZQ prog w) A (eval I_ env) (λi s₂=>s₂.TypeIs o T/\wpAny (ZQ prog w) A (getItem o i) Q E s₂) E s₁) E s) :
  wpAny (ZQ prog w) A (eval (.Subscript value I_ pos) env) Q E s:=by
 refine Subscript_ (ZN h (λo s₁ h₁=>ZN h₁ (λi s₂ h₂=>?_) λ_ _ x=>x) λ_ _ x=>x);let⟨hT,h₂⟩:=h₂;unfold subscriptTail;refine Q2 ?_;rw[getitemInPython_of_ne hT.not_modules];refine Q2 (wpAny_specialOf hT hl ?_);have fin:wpAny (ZQ prog w) A (subscripted I_ false o i) (λr s₃=>wpAny (ZQ prog w) A (letTemporaryGo value o r >>= λ_=>pure r) Q E s₃) E s₂:=by
  rw[hs o i];exact wpAny_operating (ZN h₂ (λr s₃ h₃=>Q2 (wpAny_letTemporaryGo (QJ h₃))) λ_ _ x=>x)
 first
  |exact QJ (Q2 fin)
  |exact Q2 (QJ (Q2 fin))
  |exact Q2 fin
theorem u6{X:Cx}{b_:List (Addr×Obj)}{σ:St}{H:Hp}{s:Q4}{a:Addr}{y:V}{o:Option V}(I:Inv X b_ σ H s)(g:DGet H a y o):s.TypeIs (.ref a) "dict":=by
 rcases g with⟨kvs,k,e,_,_⟩|⟨kvs,k,b,e,_,_,_⟩;let⟨_,_,vs,_,dd⟩:=sJ I.hok e;exact dd.typeIs;let⟨_,_,xs,_,dd⟩:=sH I.hok e;exact dd.typeIs
def JA(td ty:TE):TE:=λσ H Q=>td σ H λx H1=>ty σ H1 λy H2=>∃a v,x=.ref a/\DGet H2 a y (some v)/\Q v H2
def NB(ty td:TE):TE:=λσ H Q=>ty σ H λy H1=>td σ H1 λx H2=>∃a o,x=.ref a/\DGet H2 a y o/\Q (.bl o.isSome) H2
def ue(ty td:TE):TE:=λσ H Q=>ty σ H λy H1=>td σ H1 λx H2=>∃a o,x=.ref a/\DGet H2 a y o/\Q (.bl (!o.isSome)) H2
def JG(td ty tv:TE):TS:=λD σ H=>tv σ H λv H1=>td σ H1 λx H2=>ty σ H2 λy H3=>∃a H4,x=.ref a/\LW H3 a y v H4/\D.nx σ H4
variable{td ty:TE}
section
variable{i value:QF}{g_:Pos}{tv:TE}
theorem GP(hu:X.A.units+1<cLine)(ho:PE X o td)(hi:PE X i ty)(hs:LM i):PE X (.Subscript o i pos) (JA td ty):=by
 intro b_ s σ H Q I h;refine F7 PySem.F.slot_dict_getitem.lookup hs (thn (ho b_ s σ H _ I h) λu s1 ⟨x,H1,I1,rx,q1⟩=>thn (hi b_ s1 σ H1 _ I1 q1) λiv s2 hz=>?_);let⟨y,H2,I2,ry,a,v,ex,g,q2⟩:=hz;subst ex;obtain rfl:u=Value.ref a:=rx;exact⟨u6 I2 g,AW hu I2 g ry λw' s3 I3 rw'=>⟨v,H2,I3,rw',q2⟩⟩
theorem Kn(hu:X.A.units+1<cLine)(hi:PE X i ty)(ho:PE X o td):PC X .In i o (NB ty td):=by
 intro b_ s σ H Q I h;refine thn (hi b_ s σ H _ I h) λiv s1 ⟨y,H1,I1,ry,q1⟩=>thn (ho b_ s1 σ H1 _ I1 q1) λu s2 hz=>?_;let⟨x,H2,I2,rx,a,ov,ex,g,q2⟩:=hz;subst ex;obtain rfl:u=Value.ref a:=rx;exact QC hu I2 g ry λs3 I3=>⟨.bl ov.isSome,H2,I3,rfl,q2⟩
theorem zB(hu:X.A.units+1<cLine)(hi:PE X i ty)(ho:PE X o td):PC X .NotIn i o (ue ty td):=by
 intro b_ s σ H Q I h;refine thn (hi b_ s σ H _ I h) λiv s1 ⟨y,H1,I1,ry,q1⟩=>thn (ho b_ s1 σ H1 _ I1 q1) λu s2 hz=>?_;let⟨x,H2,I2,rx,a,ov,ex,g,q2⟩:=hz;subst ex;obtain rfl:u=Value.ref a:=rx;exact HE hu I2 g ry λs3 I3=>⟨.bl (!ov.isSome),H2,I3,rfl,q2⟩
theorem GC(hu:X.A.units+1<cLine)(ho:PE X o td)(hi:PE X i ty)(hv:PE X value tv)(hs:Zc value (some (.Subscript o i g_)) pos.line X.env=pure false) :
  PS X (.Assign [.Subscript o i g_] value pos) (JG td ty tv):=by
 intro b_ s σ H D I h;refine wpAny_Assign_Subscript (thn (hv b_ s σ H _ I h) λr s1 ⟨v,H1,I1,rv,q1⟩=>thn (ho b_ s1 σ H1 _ I1 q1) λu s2 ⟨x,H2,I2,rx,q2⟩=>thn (hi b_ s2 σ H2 _ I2 q2) λiv s3 hz=>?_) hs;let⟨y,H3,I3,ry,a,H4,ex,g,q3⟩:=hz;subst ex;obtain rfl:u=Value.ref a:=rx;exact AV hu I3 g ry rv λs4 I4=>⟨σ,H4,I4,q3⟩
end
theorem wZ{P:Z7}{w:ZR}{H:Hp}(h:Heap)(hb:sysModules<h.objs.size):cU P w H (h.push { cls:=.type "dict",data:=.dict #[] }) h.objs.size (.dK []):=
 ⟨Zh _,beq_eq_false_iff_ne.mpr (Ne.symm (ZZ hb)),[],.nil,Heap.DictOf.new h⟩
def Er:TE:=λ_ H Q=>∀p,H p=none->Q (.ref p) (upd H p (.dK []))
theorem Cq:PE X (.Dict [] [] pos) Er:=λb_ s σ H Q I h=>
 wpAny_Dict_empty ⟨.ref s.heap.objs.size,_,I.laid (a:=s.heap.objs.size) (o:=.dK []) (t':=s.toks) (λ_ _ q=>Q5 _ q) (QQ _) (wZ s.heap I.big),rfl,h _ (I.hok.fresh (QQ _))⟩
def vP:List (TE×TE)->St->Hp->(List (V×V)->Hp->Prop)->Prop
 |[],_,H,Q=>Q [] H
 |(tk,tv)::r,σ,H,Q=>tk σ H λx H1=>tv σ H1 λy H2=>vP r σ H2 λps H3=>Q ((x,y)::ps) H3
abbrev VV:List (V×V)->List (Q3×Q3)->Prop:=Paired λp q=>bS p.1 q.1/\bS p.2 q.2
def PPs(X:Cx)(pos:Pos)(q_:List (Option QF))(u_:List QF)(trs:List (TE×TE)):Prop:=
 ∀(b_:List (Addr×Obj)) (s:Q4) (σ:St) (H:Hp) (Q:List (V×V)->Hp->Prop),Inv X b_ σ H s->vP trs σ H Q->
  wpAny (ZQ X.prog X.w) X.A (evalPairs (pairTrees q_ u_ X.env pos)) (λvs s'=>∃ps H',Inv X b_ σ H' s'/\VV ps vs/\Q ps H') X.xe s
def GD{X:Cx}{pos:Pos}:PPs X pos [] [] []:=λb_ s σ H Q I h=>pairTrees_nil_walk ⟨[],H,I,.nil,h⟩
theorem Cj{X:Cx}{pos:Pos}{k v:QF}{ks:List (Option QF)}{vs:List QF}{tk tv:TE}{trs:List (TE×TE)}(hk:PE X k tk)(hv:PE X v tv)(hr:PPs X pos ks vs trs) :
  PPs X pos (some k::ks) (v::vs) ((tk,tv)::trs):=λb_ s σ H Q I h=>
 pairTrees_cons_walk (thn (hk b_ s σ H _ I h) λu s1 ⟨x,H1,I1,rx,q1⟩=>thn (hv b_ s1 σ H1 _ I1 q1) λw2 s2 ⟨y,H2,I2,ry,q2⟩=>
  thn (hr b_ s2 σ H2 _ I2 q2) λws s3 ⟨ps,H3,I3,rel,q3⟩=>⟨(x,y)::ps,H3,I3,.cons ⟨rx,ry⟩ rel,q3⟩)
def lI(kvs y_:List (Key×V)):List (Key×V):=y_.foldl (λacc kv=>nN acc kv.1 kv.2) kvs
theorem KV.merge:∀{y_:List (Key×V)} {rs:List (Key×Q3)} {kvs:List (Key×V)} {vs:List (Key×Q3)},KV y_ rs->KV kvs vs->KV (lI kvs y_) (merged vs rs):=by
 intro y_ rs kvs vs r;unfold KV at r;induction r generalizing kvs vs with
 |nil=>intro q;exact q
 |@cons p q ps qs h t ih=>
  intro r0;have e:KV (nN kvs p.1 p.2) (stored vs q.1 q.2):=by
   have:=r0.put p.1 h.2;rw[<-h.1];exact this
  exact ih e
theorem kj:∀(y_ kvs:List (Key×V)),(lI kvs y_).length<=kvs.length+y_.length
 |[],kvs=>by show kvs.length<=kvs.length+0;omega
 |p::r,kvs=>by
  have h1:=kj r (nN kvs p.1 p.2);have h2:=jJ kvs p.1 p.2;show(lI (nN kvs p.1 p.2) r).length<=_;rw[QK];omega
theorem oN{P:Z7}{w:ZR}:∀{kvs:List (Key×V)} {ws:List (Q3×Q3)},VV (kvs.map λkv=>(kV kv.1,kv.2)) ws->∃rs,Carries (bp P w) ws rs/\KV kvs rs
 |[],_,r=>by rw[Za]at r;cases r;exact⟨[],True.intro,.nil⟩
 |p::kvs,_,r=>by
  rw[QL]at r;cases r with
  |@cons a b as bs h t=>
   let⟨rs,c,q⟩:=oN (P:=P) (w:=w) t;let⟨b1,b2⟩:=b;exact⟨(p.1,b2)::rs,⟨rO h.1,rfl,c⟩,.cons ⟨rfl,h.2⟩ q⟩
def Jz(trs:List (TE×TE)):TE:=λσ H Q=>∀p,H p=none->vP trs σ (upd H p (.dK [])) λps H2=>H2 p=some (.dK [])/\∃kvs:List (Key×V),ps=kvs.map (λkv=>(kV kv.1,kv.2))/\kvs.length<=15/\Q (.ref p) (upd H2 p (.dK (lI [] kvs)))
theorem GO{X:Cx}{pos:Pos}{q_:List (Option QF)}{u_:List QF}{trs:List (TE×TE)}(h:PPs X pos q_ u_ trs)(RA:q_.all (·.isSome)=true)(hl:q_.length=u_.length)(h0:q_≠[])
  (h15:q_.length<=15):PE X (.Dict q_ u_ pos) (Jz trs):=by
 intro b_ s σ H Q I q;have hn:=I.hok.fresh (QQ s.heap.objs.size);have I1:=I.laid (a:=s.heap.objs.size) (o:=.dK []) (h':=s.heap.push { cls:=.type "dict",data:=.dict #[] }) (t':=s.toks) (λ_ _ q=>Q5 _ q) (QQ _) (wZ s.heap I.big);refine wpAny_Dict_walk (knd:=bp X.prog X.w) RA hl h0 h15 (thn (h b_ _ σ _ _ I1 (q _ hn)) λws s2 hz=>?_);let⟨ps,H2,I2,rel,e,kvs,ep,lk,q2⟩:=hz;subst ep;let⟨rs,c,rk⟩:=oN (P:=X.prog) (w:=X.w) rel;let⟨z,hd,vs0,r0,dd⟩:=qt I2.hok e;cases r0;refine⟨rs,c,dd,λh' dd' hs=>⟨.ref s.heap.objs.size,_,?_,rfl,q2⟩⟩;have hz:(lI [] kvs).length<=QU:=by
  have h1:=kj kvs [];rw[XF]at h1;rw[sizeLine_eq];omega
 have he:∃q,h'.get? s.heap.objs.size=some q:=let ⟨q,_,_,hq,_⟩:=dd';⟨q,hq⟩
 exact qw I2 (by rw[e];exact True.intro) hs he (AO hz hd (rk.merge .nil) dd')
structure M1(X:Cx)(o:QF)(m:Str)(i_:Pos)(e:QF)(j_:Pos):Prop where
 base:attributeBase o m X.env (eval o X.env)=eval o X.env
 few:((ZL j_ (Q6 [e] X.env)).all (λx=>!x.1)&&(backToKw j_ (keywordEach [] X.env)).all (λx=>x.1.isSome)
  && decide (([e]:List QF).length+([]:List Keyword).length+(if ([]:List Keyword).isEmpty then 0 else 1)<30))=true
 line:(i_.endLine == j_.line)=true
 trees:ZL j_ (Q6 [e] X.env)=[(false,eval e X.env)]
structure M2(X:Cx)(o:QF)(m:Str)(i_:Pos)(e f:QF)(j_:Pos):Prop where
 base:attributeBase o m X.env (eval o X.env)=eval o X.env
 few:((ZL j_ (Q6 [e,f] X.env)).all (λx=>!x.1)&&(backToKw j_ (keywordEach [] X.env)).all (λx=>x.1.isSome)
  && decide (([e,f]:List QF).length+([]:List Keyword).length+(if ([]:List Keyword).isEmpty then 0 else 1)<30))=true
 line:(i_.endLine == j_.line)=true
 trees:ZL j_ (Q6 [e,f] X.env)=[(false,eval e X.env),(false,eval f X.env)]
def IsD(H:Hp)(a:Addr):Prop:=(∃kvs,Rd H a (.dK kvs))\/∃kvs,Rd H a (.dT kvs)
theorem EN{X:Cx}{b_:List (Addr×Obj)}{σ:St}{H:Hp}{s:Q4}{a:Addr}(I:Inv X b_ σ H s)(d:IsD H a) :
  s.TypeIs (.ref a) "dict"/\(∀b,Value.ref a=.ref b->∃ob,s.heap.get? b=some ob/\ob.dict=none)/\(a == sysModules)=false:=by
 rcases d with⟨kvs,e⟩|⟨kvs,e⟩;let⟨_,hd,vs,_,dd⟩:=sJ I.hok e;refine⟨dd.typeIs,λb q=>?_,hd⟩;cases q;let⟨ob,_,_,h1,h2,_⟩:=dd;exact⟨ob,h1,h2.2.1⟩;let⟨_,hd,xs,_,dd⟩:=sH I.hok e;refine⟨dd.typeIs,λb q=>?_,hd⟩;cases q;let⟨ob,_,_,h1,h2,_⟩:=dd;exact⟨ob,h1,h2.2.1⟩
section
variable{d:V}{u:Q3}{o:Option V}
theorem Ly{Q:Q3->Q4->Prop}(hu:A.units+1<cLine)(I:Inv X b_ σ H s)(g:DGet H a y o)(ry:bS y u)(rd:bS d r)(h:∀w' s',Inv X b_ σ H s'->bS (o.getD d) w'->Q w' s') :
  wpAny (ZQ X.prog X.w) A (call (.builtin "dict.get") [.ref a,u,r]) Q E s:=by
 rcases g with⟨kvs,k,e,ey,l⟩|⟨kvs,k,b,e,ey,eb,l⟩;subst ey;let⟨z,hd,vs,rel,dd⟩:=sJ I.hok e;refine call_meetsIn PySem.F.slot_dict_get dd.typeIs PySem.F.entry_dict_get (PySem.F.args_dict_get_3 _ _ _) (meets_dict_get_default (bp X.prog X.w) a (rO ry) hd r) ⟨_,dd.mapOf,h _ _ (I.tok _) ?_⟩;rw[l];exact(rel.val k).getD rd;subst ey;cases (show u=Value.ref b from ry);let⟨z,hd,xs,rel,dd⟩:=sH I.hok e;refine call_meetsIn PySem.F.slot_dict_get dd.typeIs PySem.F.entry_dict_get (PySem.F.args_dict_get_3 _ _ _) (meetsH_dict_get_default (tupleKind (bp X.prog X.w)) a b hd r) ⟨tupleKind_room_in1 hu,k,xs,oM I.hok eb,dd,h _ _ (I.tok _) ?_⟩;rw[l];exact(rel.val k).getD rd
end
def Es(td ty tx:TE):TE:=λσ H Q=>td σ H λx H1=>∃a,x=.ref a/\IsD H1 a/\ty σ H1 λy H2=>tx σ H2 λz H3=>∃o,DGet H3 a y o/\Q (o.getD z) H3
def Ep(td ty:TE):TE:=λσ H Q=>td σ H λx H1=>∃a,x=.ref a/\IsD H1 a/\ty σ H1 λy H2=>∃kvs k v,H2 a=some (.dK kvs)/\y=kV k/\jr kvs k=some v/\Q v (upd H2 a (.dK (qq kvs k)))
section
variable{f:QF}{tx:TE}
theorem Cr(hu:X.A.units+1<cLine)(ho:PE X o td)(he:PE X e ty)(hf:PE X f tx)(m:M2 X o "get" i_ e f j_):PE X (.Call (.Attribute o "get" i_) [e,f] [] j_) (Es td ty tx):=by
 intro b_ s σ H Q I h;refine wpAny_Call_method m.base m.few m.line PySem.F.plainAttrs_dict PySem.F.slot_dict_get PySem.F.type_dict_get (thn (ho b_ s σ H _ I h) λu s1 hz=>?_);let⟨x,H1,I1,rx,a,ex,d,q1⟩:=hz;subst ex;obtain rfl:u=Value.ref a:=rx;let⟨t1,t2,_⟩:=EN I1 d;refine⟨t1,t2,?_⟩;rw[m.trees];refine Calls.callWith_builtin rfl (Calls.evalArgs_plain (Calls.spliced_cons (thn (he b_ s1 σ H1 _ I1 q1) λiv s2 ⟨y,H2,I2,ry,q2⟩=>
  Calls.spliced_cons (thn (hf b_ s2 σ H2 _ I2 q2) λfv s3 ⟨z,H3,I3,rz,ov,g,q3⟩=>Calls.spliced_nil ?_))))
 exact Ly hu I3 g ry rz λw' s4 I4 rw'=>⟨_,H3,I4,rw',q3⟩
theorem Cp(ho:PE X o td)(he:PE X e ty)(m:M1 X o "pop" i_ e j_):PE X (.Call (.Attribute o "pop" i_) [e] [] j_) (Ep td ty):=by
 intro b_ s σ H Q I h;refine wpAny_Call_method m.base m.few m.line PySem.F.plainAttrs_dict PySem.F.slot_dict_pop PySem.F.type_dict_pop (thn (ho b_ s σ H _ I h) λu s1 hz=>?_);let⟨x,H1,I1,rx,a,ex,d,q1⟩:=hz;subst ex;obtain rfl:u=Value.ref a:=rx;let⟨t1,t2,_⟩:=EN I1 d;refine⟨t1,t2,?_⟩;rw[m.trees];refine Calls.callWith_builtin rfl (Calls.evalArgs_plain (Calls.spliced_cons (thn (he b_ s1 σ H1 _ I1 q1) λiv s2 ⟨y,H2,I2,ry,kvs,k,v,ea,ey,l,q2⟩=>Calls.spliced_nil ?_)));subst ey;exact OV I2 ea ry l (.inl rfl) λw' s3 I3 rw'=>⟨v,_,I3,rw',q2⟩
end
end L2
namespace Att
open PySem PySem.W PySem.Calls PyProof.Rows
theorem mX{P:Params}{h:Heap}:∀(ns:List Int) (vs:List Q3),WellAll P h vs (ns.map WData.int)->IntsAre vs ns:=by
 intro ns;induction ns with
 |nil=>
  intro vs w;rw[Za]at w;cases w;exact .nil
 |cons n ns ih=>
  intro vs w;rw[QL]at w;cases w with
  |cons a b=>
   cases a;exact .cons _ _ (ih _ b)
theorem yX{l:OpenLaw}{n:Nat}(hn:l.most=some n){P:Params}{h:Heap}{args:List WData}{RT:List Q3}
  (RN:l.row.toRowW.claim.pre args=true) (hwl:WellAll P h RT args) :
  ∃a vs ns,RT=[Value.ref a]/\args=[WData.list (ns.map WData.int)]/\h.get? a=some { cls:=.type "list",data:=.seq vs.toArray }/\IntsAre vs ns/\ns.length<=n:=by
 have hsh:WShape.hasAll [] args [.list .int]=true:=(pre_splitW RN).1;have hc:l.pre.holds [] { args:=args }=true:=(pre_splitW RN).2;let⟨d,r,rfl,h1,h2⟩:=hasAllW_cons hsh;obtain rfl:=hasAllW_nil h2;let⟨xs,rfl,h3⟩:=hasW_list h1;let⟨ns,rfl⟩:=items_int h3;have p_:ns.length<=n:=by
  unfold OpenLaw.pre at hc;have h4:(WTm.not (.lt (.lit (.int (n:Int))) (.len (.arg 0)))).holds [] { args:=[.list (ns.map .int)] }=true:=by
   have h4:=(holds_andW hc).1;rw[hn]at h4;exact h4
  have h5:=condW_of h4 (w_not (w_lt w_lit (w_len_list (w_arg rfl))));rw[QX]at h5;refine Nat.le_of_not_lt λq=>?_;have q':(n:Int)<((ns.length:Nat):Int):=by omega
  first
   |(rw[Xz q']at h5;exact absurd h5 ∅)
   |(simp at h5;omega)
 cases hwl with
 |cons w1 w2=>
  cases w2;cases w1 with
  |list ho RA=>exact⟨_,_,ns,rfl,rfl,ho,mX ns _ RA,p_⟩
theorem zx(l:OpenLaw)(args:List WData):l.row.toRowW.claim.post args (.bool true) args=true:=
 postW_of (r:=l.row.toRowW) (X:=(true == true))
  (show WShape.has [] (.bool true) .bool=true by first|rfl|decide|simp[WShape.has,WShape.arms,WShape.armsAll])
  (show(WTm.eq .res (.lit (.bool true))).value [] { args:=args,res:=some (.bool true),after:=args }=some (.bool (true == true))from w_eq_bool (w_res rfl) w_lit) rfl
theorem attach_call{l:OpenLaw}{n:Nat}{q:Z7}{de:List Str}{XP:(Str->Option Q3)->Heap->Prop}{YP:ZR->Heap->Prop}{d:DefRec}
  (hn:l.most=some n) (hdf:d.params.defaults=[])
  (call:∀(w:ZR) (s₀ s₁:Q4) (mg mb:Str->Option Q3) (fa:Addr) (o:Obj) (pm cd doc:Q3) (a:Addr) (vs:List Q3) (ns:List Int),
   Ground q de [] XP w s₀ mg mb s₁.heap->YP w s₁.heap->
   s₁.heap.get? fa=some o->o.data=.func (docDef d.name d.params d.body d.scope pm cd doc)->s₁.heap.CodeRec cd d.name->mg d.name=some (.ref fa)->
   s₁.heap.get? a=some { cls:=.type "list",data:=.seq vs.toArray }->IntsAre vs ns->ns.length<=n->s₁.gens=#[]->
   codeAny (ZQ l.prog w) callerA (.call (.ref fa) ⟨[.ref a],[]⟩) (λr s'=>r=.ok (.ret (.bool true))/\OldK s₁.heap s'.heap/\s'.os=s₁.os/\AllBare s'.gens) s₁) :
  WalkO q de XP YP l.row.toRowW d [] (λf vs=>PySem.call f vs):=by
 intro w s₀ s₁ mg mb G Y fa o pm cd doc dV kV ho hd hcd hD hmg hg args RT as RN hlay hrd hwl hlo;obtain rfl:dV=.none:=Dflts.none hD hdf;obtain rfl:kV=.none:=Dflts.noKw hD;let⟨a,vs,ns,rfl,rfl,RX,RH,p_⟩:=yX hn RN hwl;refine enter_call (codeAny_mono (call w s₀ s₁ mg mb fa o pm cd doc a vs ns G Y ho (fd_plain hd) hcd hmg RX RH p_ hg) λr s' hq=>?_);let⟨rfl,h2,h3,h4⟩:=hq;exact⟨.inl ⟨.bool true,.bool true,[],rfl,λ_=>rfl,.bool true,zx l _,λ_=>⟨List.Pairwise.nil,λ_ hm=>nomatch hm⟩⟩,h2,h3,h4⟩
end Att
namespace L2
open PySem PySem.Spec PyProof.Rows
theorem iF:∀{vs:List Q3} {ns:List Int},IntsAre vs ns->bE (ns.map V.int) vs
 |_,_,.nil=>.nil
 |_,_,.cons n t h=>.cons ⟨t,rfl⟩ (iF h)
def bR(s:ZC)(j:Nat):ZC:=match s with
 |.ClassDef _ _ _ body _ _ _ _ _ _ _=>body.getD j (.Pass ⟨0,0,0,0⟩)
 |_=>.Pass ⟨0,0,0,0⟩
def jN(s:ZC):Arguments:=match s with
 |.FunctionDef _ a _ _ _ _ _ _ _ _=>a
 |_=>{ posonlyargs:=[],args:=[],vararg:=none,kwonlyargs:=[],kw_defaults:=[],kwarg:=none,defaults:=[] }
def cM(s:ZC):List ZC:=match s with
 |.FunctionDef _ _ b _ _ _ _ _ _ _=>b
 |_=>[]
def ax(s:ZC):XR:=match s with
 |.FunctionDef _ _ _ _ _ _ sc _ _ _=>sc
 |_=>{ kind:=.function,names:=[],isGenerator:=false,isCoroutine:=false }
abbrev CX0:CXT:=λ_ _ _ _ _ _=>False
abbrev E0:XK:=λ_ _ _=>False
def Cu{X:Cx}:iq CX0 X E0:=λ_ _ _ _ _ _ _ h=>h.elim
structure Fun(K:Q1)(x qual:Str)(st:ZC)(f:Addr)(fd:Zo):Prop where
 ex:∃(oc:Q3) (od:Option Addr) (kV doc pm:Q3) (an:Option Addr) (cdv ct:Q3) (osl:Array (Option Q3)),
  fd=YB x qual (jN st) (cM st) (ax st) .none kV doc pm an cdv ct/\K.lookup f=some ⟨oc,od,.func fd,osl⟩/\YE K cdv qual=true
 kp:YC K (.ref f)=true
section
variable{P:Z7}{w:ZR}{K:Q1}{mg:Str->Option Q3}{base:Heap}
theorem Fun.ok{x qual:Str}{st:ZC}{f:Addr}{fd:Zo}{N ps:List Str}{k:Nat}{sp:Sp}(F:Fun K x qual st f fd)(S:aN N ps (ax st))(len:∀vs H Q E,sp vs H Q E->vs.length=ps.length)
  (R9:∀(cdv:Q3) (A:ZE) (outer:List Env) (s:Q4) (H:Hp) (vs:List V) (Q:VK) (E:XK),eN k (A.deeper (envOfC qual (ax st) s.heap.objs.size f cdv))->sp vs H Q E->
   ∃t,PSs (sL CX0 P w K mg base N qual (ax st) f cdv A outer s H E).nox (cM st) t/\t { nx:=λ_ H'=>Q .non H',rt:=Q } (jC N vs) H):kF P w K mg base CX0 (k+1) f fd ps sp:=by
 let⟨oc,od,kV,doc,pm,an,cdv,ct,osl,rfl,lk,hcd⟩:=F.ex;refine Hx lk hcd S len λA outer s H vs Q E hr hsp=>?_;let⟨t,h,q⟩:=R9 cdv A outer s H vs Q E hr hsp;exact⟨t,h.nox,q⟩
theorem Fun.binds{x qual:Str}{st:ZC}{f:Addr}{fd:Zo}{ps:List Str}(F:Fun K x qual st f fd)
  (h:∀(kV doc pm:Q3) (an:Option Addr) (cdv ct:Q3) (us:List Q3),us.length=ps.length->bindArgs (YB x qual (jN st) (cM st) (ax st) .none kV doc pm an cdv ct) ⟨us,[]⟩=pure (ps.zip us)):gR K fd ps []:=by
 let⟨oc,od,kV,doc,pm,an,cdv,ct,osl,rfl,lk,hcd⟩:=F.ex;exact .all (h kV doc pm an cdv ct)
theorem EU{x qual:Str}{st:ZC}{f:Addr}{oc:Q3}{od an:Option Addr}{osl:Array (Option Q3)}{kV doc pm cdv ct:Q3}(l:K.lookup f=some ⟨oc,od,.func (YB x qual (jN st) (cM st) (ax st) .none kV doc pm an cdv ct),osl⟩)
  (c:YE K cdv qual=true) (k:YC K (.ref f)=true):Fun K x qual st f (YB x qual (jN st) (cM st) (ax st) .none kV doc pm an cdv ct):=⟨⟨oc,od,kV,doc,pm,an,cdv,ct,osl,rfl,l,c⟩,k⟩
end
theorem bH{A:ZE}{k:Nat}(hr:eN k A):A.units+1<cLine:=Nat.lt_of_le_of_lt (Nat.add_le_add_left (by decide:1<=64) _) hr.units
def yW{n:Nat}(h:n<=1000):n<QU:=Nat.lt_of_le_of_lt h ∅
section
variable{X:Cx}
theorem pv(i:Nat){x:Str}{pos:Pos}(hN:X.N[i]?=some x:=by rfl)(hv:Vis X.env.scope x:=by first|exact Or.inl rfl|exact Or.inr (Or.inl rfl)|exact Or.inr (Or.inr rfl))(hd:(x == ("__debug__":Str))=false:=by decide)
  (hcd:(x == ("__classdict__":Str))=false:=by decide):PE X (.Name x pos) (LZ i):=Kd hN hv hd hcd
theorem A1:ft X (.builtin "len") (λxs H Q=>∃a kvs,xs=[V.ref a]/\H a=some (.dK kvs)/\Q (.int kvs.length) H):=by
 intro b_ s σ H xs us Q I r h;let⟨a,kvs,rfl,ha,q⟩:=h;let⟨u,rfl,ru⟩:=lL r;cases ru;exact OW I (.inl ha) λt s' I'=>⟨.int kvs.length,H,I',⟨t,rfl⟩,q⟩
end
theorem Ia{A B:Prop}(h:B):if false=true then A else B:=by
 rw[XS QV];exact h
theorem HZ{A B:Prop}(h:A):if true=true then A else B:=by
 rw[XO rfl];exact h
def D8(H H':Hp):Prop:=∀b o,H b=some o->H' b=some o
def D8.refl(H:Hp):D8 H H:=λ_ _ h=>h
end L2
namespace OG
open PySem PySem.Spec PyProof.Rows L2
structure WE(X:Cx)(e:QF)(t:TE):Prop where
 h:PE X e t
structure WT(X:Cx)(e:QF)(t:TT):Prop where
 h:PT X e t
structure WW(X:Cx)(e:QF)(t:TT):Prop where
 h:PW X e t
structure WA(X:Cx)(es:List QF)(t:TA):Prop where
 h:PA X es t
structure WS(X:Cx)(st:ZC)(t:TS):Prop where
 h:PS X st t
structure WSs(X:Cx)(st:List ZC)(t:TS):Prop where
 h:PSs X st t
structure WI(X:Cx)(tg iter:QF)(wi:TI):Prop where
 h:PI X tg iter wi
structure WG(X:Cx)(zz:QF)(t:TG):Prop where
 h:PG X zz t
structure WGs(X:Cx)(ts:List QF)(t:TGs):Prop where
 h:PGs X ts t
structure WC(X:Cx)(op:CmpOp)(a b:QF)(t:TE):Prop where
 h:PC X op a b t
structure WO(X:Cx)(e:Option QF)(t:TO):Prop where
 h:PO X e t
variable{X:Cx}
def FN{i j pos}:WE X (.Constant (.int i) j pos) (tC (.int i)):=⟨Kk ⟩
def Jl{b j pos}:WE X (.Constant (.bool b) j pos) (tC (.bl b)):=⟨N7 ⟩
def FK{j pos}:WE X (.Constant .none j pos) (tC .non):=⟨Kh ⟩
def gS{x j pos}:WE X (.Constant (.str x) j pos) (tC (.str x)):=⟨Kf ⟩
variable{a b:QF}{pos:Pos}
theorem yC{op:CmpOp}{t:TE}(h:WC X op a b t)(h1:behindInMarks op b=false:=by first|exact nobehind _ ∅ ∅|rfl):WT X (.Compare a [op] [b] pos) (tB t):=⟨J0 h.h h1⟩
theorem FC{e:QF}{t:TE}(h:WE X e t)(he:∀M_,isTrue e X.env M_=(do let v <-M_;standAt e.pos;holding [v] (truthy v)):=by intro _;rfl):WT X e (tB t):=⟨JY h.h he⟩
section
variable{tA:TT}
def BB(ha:WT X a tA):WW X (.BoolOp .And [a] pos) tA:=⟨Gv ha.h⟩
def Fz(ha:WT X a tA):WW X (.BoolOp .Or [a] pos) tA:=⟨JV ha.h⟩
end
variable{s_:List QF}
section
variable{tA tB':TT}
theorem FA(ha:WT X a tA)(hb:WW X (.BoolOp .And (b::s_) pos) tB'):WW X (.BoolOp .And (a::b::s_) pos) (Ph tA tB'):=⟨JW ha.h hb.h⟩
theorem Je(ha:WT X a tA)(hb:WW X (.BoolOp .Or (b::s_) pos) tB'):WW X (.BoolOp .Or (a::b::s_) pos) (tOr tA tB'):=⟨NR ha.h hb.h⟩
end
section
variable{tA:TT}
def FD(ha:WT X a tA):WT X (.UnaryOp .Not a pos) (Pd tA):=⟨JZ ha.h⟩
end
def FJ{op}{t:TE}(h:WE X a t):WE X (.BoolOp op [a] pos) t:=⟨Kg h.h⟩
variable{ta tb:TE}
theorem Jh(ha:WE X a ta)(hb:WE X (.BoolOp .Or (b::s_) pos) tb):WE X (.BoolOp .Or (a::b::s_) pos) (Pc ta tb):=⟨NV ha.h hb.h⟩
def BD :WSs X [] Jw:=⟨Gz ⟩
variable{st:ZC}{t:TS}
section
variable{s_:List ZC}{u:TS}
def mr(h1:WS X st t)(h2:WSs X s_ u):WSs X (st::s_) (Pa t u):=⟨Ce h1.h h2.h⟩
end
def BC(h1:WS X st t):WSs X [st] t:=⟨Gy h1.h⟩
variable{e:QF}{te:TE}
def vF(he:WE X e te)(hs:Zc e none pos.line X.env=pure false:=by rfl):WS X (.Expr e pos) (Jy te):=⟨GB he.h hs⟩
def FE(he:WE X e te):WS X (.Return (some e) pos) (Pb te):=⟨J4 he.h⟩
section
variable{u:TS}
theorem Em{c:QF}{a b:List ZC}{tc:TT}(hc:WT X c tc)(ha:WSs X a t)(hb:WSs X b u):WS X (.If c a b pos) (Pf tc t u):=⟨NT hc.h ha.h hb.h⟩
end
def yE :WS X st vQ:=⟨Ci ⟩
def ot{sts:List ZC}:WSs X sts vQ:=⟨zw ⟩
theorem a8{i:Nat}{x:Str}(hN:X.N.Nodup)(hi:X.N[i]?=some x)(hx:Loc X.env.scope x)(hf:X.fn x=true\/X.env.scope.names.lookup x=some .local:=by first|exact .inl rfl|exact .inr rfl|assumption):WG X (.Name x pos) (xY i):=⟨GJ hN hi hx hf⟩
def BI :WGs X [] PU:=⟨GI ⟩
theorem yG{e:QF}{es:List QF}{t:TG}{u:TGs}(h1:WG X e t)(h2:WGs X es u)(hs:(assignEach (e::es) X.env).map (·.2)=assign e X.env::(assignEach es X.env).map (·.2):=by rfl):WGs X (e::es) (Lh t u):=⟨Cm h1.h h2.h hs⟩
theorem FH{es:List QF}{k:Nat}{t:TGs}{n:Nat}(hc:X.calm=true)(h:WGs X es t)(hn:(assignEach es X.env).length=n:=by rfl)(hst:(assignEach es X.env).findIdx? (·.1)=none:=by rfl):WG X (.Tuple es k pos) (PQ X.K n t):=⟨J9 hc h.h hn hst⟩
theorem FI {o i : QF} {to ti : TE} {t : Mx} (ho : WE X o to) (hi : WE X i ti) (hs : O4 X t) (ha : ∀ v, assign (.Subscript o i pos) X.env v = (do
   let ov <-holding [v] (eval o X.env)
   let iv <-holding [v,ov] (eval i X.env)
   standAt pos
   holding [v,ov,iv] (setItem ov iv v)
   release [v,ov,iv] []):=by intro _;rfl):WG X (.Subscript o i pos) (PR to ti t):=⟨Ka ho.h hi.h hs ha⟩
theorem yF{tg e:QF}{te:TE}{g:TG}(he:WE X e te)(hg:WG X tg g)(hs:swapsWithSole [tg] e pos.line X.env=pure false:=by rfl)(hw:swappedStores [tg] e X.env=pure none:=by rfl)(h1:(assignEach [tg] X.env).map (·.2)=[assign tg X.env]:=by rfl):WS X (.Assign [tg] e pos) (JC te g):=⟨J7 he.h hg.h hs hw h1⟩
theorem yD{i:Nat}{x:Str}{e:QF}{te:TE}{g_:Pos}(hN:X.N.Nodup)(hi:X.N[i]?=some x)(hx:Loc X.env.scope x)(he:WE X e te)(hs:Zc e (some (.Name x g_)) pos.line X.env=pure false:=by rfl)(hf:X.fn x=true\/X.env.scope.names.lookup x=some .local:=by first|exact .inl rfl|exact .inr rfl|assumption):WS X (.Assign [.Name x g_] e pos) (JC te (xY i)):=⟨J3 hN hi hx he.h hs hf⟩
section
variable{tg:QF}
def BH{l:QF}{tl:TE}(hl:WE X l tl):WI X tg l (Lg X.K tl):=⟨GH hl.h⟩
def FG{l:QF}{tl:TE}(hl:WE X l tl):WI X tg l (PN X.K tl):=⟨J8 hl.h⟩
theorem xt{a:QF}{ta:TA}{p pos:Pos}(hg:Gl X "range")(hm:X.mg "range"=none)(ha:WA X [a] ta)(hs:Q6 [a] X.env=[(false,eval a X.env)]:=by rfl):WI X tg (.Call (.Name "range" p) [a] [] pos) (Lf ta):=⟨zy hg hm ha.h hs⟩
theorem t6{iter:QF}{body:List ZC}{wi:TI}{g:TG}{tb:TS}{pos:Pos}(hp:PassesOwn (ZQ X.prog X.w) X.A X.env X.xe)(hc:X.calm=true)(hi:WI X tg iter wi)(hg:WG X tg g)(hb:WSs X body tb)(hs:∀x,foldedSetIterable iter X.env x=pure x:=by intro _;rfl):WS X (.For tg iter body [] pos) (Jx wi g tb):=⟨J5 hp hc hi.h hg.h hb.h hs⟩
end
theorem Ji{op:Operator}{r:R2}(ho:OpR X (binaryOp op) r)(ha:WE X a ta)(hb:WE X b tb):WE X (.BinOp a op b pos) (tOp r ta tb):=⟨NW ho ha.h hb.h⟩
theorem Jf{op:UnaryOp}{r:V->Hp->VK->Prop}(ho:UnR X (unaryOp op) r)(ha:WE X a ta):WE X (.UnaryOp op a pos) (tUn r ta):=⟨NU ho ha.h⟩
theorem BM{op:CmpOp}{r:R2}(ho:OpR X (compareOp op) r)(ha:WE X a ta)(hb:WE X b tb)(hm:behindInMarks op b=false):WE X (.Compare a [op] [b] pos) (tOp r ta tb):=⟨GQ ho ha.h hb.h hm⟩
theorem oU{op:CmpOp}{r:R2}(ho:OpR X (compareOp op) r)(ha:WE X a ta)(hb:WE X b tb)(hm:behindInMarks op b=false):WT X (.Compare a [op] [b] pos) (Js (tOp r ta tb)):=⟨Gx ho ha.h hb.h hm⟩
variable{f:Str}
theorem FO(he:WE X e ta)(hb:attributeBase e f X.env (eval e X.env)=eval e X.env):WE X (.Attribute e f pos) (Pg X.K ta f):=⟨Km he.h hb⟩
variable{o value:QF}{g_:Pos}{tv:TE}
theorem FF(ha:WE X o ta)(hv:WE X value tv)(hs:Zc value (some (.Attribute o f g_)) pos.line X.env=pure false):WS X (.Assign [.Attribute o f g_] value pos) (Pj X.K ta tv f):=⟨J6 ha.h hv.h hs⟩
def kG :WA X [] Jv:=⟨Ko ⟩
variable{es:List QF}
section
variable{t:TA}
theorem dj(ha:WE X e te)(hr:WA X es t)(hs:Q6 (e::es) X.env=(false,eval e X.env)::Q6 es X.env:=by rfl):WA X (e::es) (F0 te t):=⟨GV ha.h hr.h hs⟩
def yH{x1}(h:WA X es t):WE X (.Tuple es x1 pos) (O9 t):=⟨Ke h.h⟩
def FL(h:WA X es t):WE X (.List es pos) (Pe t):=⟨Kj h.h⟩
end
variable{CX:CXT}{C:Addr}{fd:Zo}{ps:List Str}{sp:Sp}{dvs:List V}{ds:List Q3}{E:XK}{m:Str}{i_:Pos}
section
variable{k:Nat}{f:Addr}{t:TA}
theorem vG {pl : Sem Bool} (he : WE X o ta) (c : Cls X.K C) (hm : Ed X.K C m f) (F : kF X.prog X.w X.K X.mg X.base CX k f fd ps sp) (hr : eN k X.A) (hb : gR X.K fd ps ds) (hd : bE dvs ds) (hx : iq CX X E) (ha : WA X (e :: es) t) (hst : Q6 (e :: es) X.env = (false, eval e X.env) :: Q6 es X.env := by rfl) (hpl : (ZL pos (Q6 es X.env)).any (·.1) = false := by rfl) (ht : eval (.Call (.Attribute o m i_) (e :: es) [] pos) X.env = (do
   let ov <-eval o X.env
   standAt i_.atName
   let (f,first) <-holding [ov] (getMethod ov m pl)
   callWith pos f first (ZL pos (Q6 (e::es) X.env)) (backToKw pos (keywordEach [] X.env))):=by rfl):WE X (.Call (.Attribute o m i_) (e::es) [] pos) (ud C m sp dvs E ta t):=⟨GK he.h c hm F hr hb hd hx ha.h hst hpl ht⟩
end
section
variable{k:Nat}{f:Addr}
theorem yJ {pl : Sem Bool} (he : WE X o ta) (c : Cls X.K C) (hm : Ed X.K C m f) (F : kF X.prog X.w X.K X.mg X.base CX k f fd ps sp) (hr : eN k X.A) (hb : gR X.K fd ps ds) (hd : bE dvs ds) (hx : iq CX X E) (ht : eval (.Call (.Attribute o m i_) [] [] pos) X.env = (do
   let ov <-eval o X.env
   standAt i_.atName
   let (f,first) <-holding [ov] (getMethod ov m pl)
   callWith pos f first (ZL pos (Q6 [] X.env)) (backToKw pos (keywordEach [] X.env))):=by rfl):WE X (.Call (.Attribute o m i_) [] [] pos) (ud C m sp dvs E ta Jv):=⟨Co he.h c hm F hr hb hd hx ht⟩
end
variable{x:Str}{p:Pos}
section
variable{k:Nat}{f:Addr}{t:TA}
theorem BJ(M:Mk X.K C f)(F:kF X.prog X.w X.K X.mg X.base CX k f fd ps sp)(hr:eN (k+1) X.A)(hg:Gl X x)(hm:X.mg x=some (.ref C))(hb:gR X.K fd ps ds)(hd:bE dvs ds)(hx:iq CX X E)(ha:WA X (e::es) t)(hdb:(x == ("__debug__":Str))=false:=by decide)(he:Q6 (e::es) X.env=(false,eval e X.env)::Q6 es X.env:=by rfl)(hpl:(ZL pos (Q6 es X.env)).any (·.1)=false:=by rfl):WE X (.Call (.Name x p) (e::es) [] pos) (FZ C sp dvs E t):=⟨GL M F hr hg hm hb hd hx ha.h hdb he hpl⟩
end
variable{r:List V->Hp->VK->Prop}
section
variable{t:TA}{id:String}
theorem jV(hc:ft X (.builtin id) r)(hg:Gl X x)(hm:X.mg x=none)(hv:ZS x=some (.builtin id))(ha:WA X (e::es) t)(hn:x≠"__name__":=by decide)(hdb:(x == ("__debug__":Str))=false:=by decide)(he:Q6 (e::es) X.env=(false,eval e X.env)::Q6 es X.env:=by rfl)(hpl:(ZL pos (Q6 es X.env)).any (·.1)=false:=by rfl):WE X (.Call (.Name x p) (e::es) [] pos) (tCB r t):=⟨Ct hc hg hm hv ha.h hn hdb he hpl⟩
end
variable{T:String}
section
variable{t:TA}
theorem xv(hc:ft X (.type T) r)(hg:Gl X x)(hm:X.mg x=none)(hv:ZS x=some (.type T))(ha:WA X (e::es) t)(hn:x≠"__name__":=by decide)(hdb:(x == ("__debug__":Str))=false:=by decide)(he:Q6 (e::es) X.env=(false,eval e X.env)::Q6 es X.env:=by rfl)(hpl:(ZL pos (Q6 es X.env)).any (·.1)=false:=by rfl):WE X (.Call (.Name x p) (e::es) [] pos) (tCB r t):=⟨zA hc hg hm hv ha.h hn hdb he hpl⟩
end
def BG :WO X none yT:=⟨GG ⟩
def BF(h:WE X e te):WO X (some e) (Ju te):=⟨GF h.h⟩
section
variable{lo hi:Option QF}{tl th:TO}{p2:Pos}
theorem yI{r:V->Option Int->Option Int->Hp->VK->Prop}(hr:SlR X r)(he:WE X e te)(hl:WO X lo tl)(hu:WO X hi th):WE X (.Subscript e (.Slice lo hi none p2) pos) (tSl r te tl th):=⟨Cn hr he.h hl.h hu.h⟩
end
theorem Jj{r:R2}(hr:IxR X r)(ha:WE X a ta)(hb:WE X b tb)(hs:vm b):WE X (.Subscript a b pos) (tOp r ta tb):=⟨NX hr ha.h hb.h hs⟩
variable{j_:Pos}
section
variable{to:TE}{t:TA}{name:Str}{id:String}{r:V->List V->Hp->VK->Prop}
theorem vI (pa : PlainAttrs T) (slot : Slot T name id) (hty : typeOf (.builtin id) = pure (.type "method_descriptor")) (hm : MtR X id r) (ho : WE X o to) (ha : WA X (e :: es) t) (K_ : attributeBase o name X.env (eval o X.env) = eval o X.env := by rfl) (R8 : ((ZL j_ (Q6 (e :: es) X.env)).all (λx => !x.1) && (backToKw j_ (keywordEach [] X.env)).all (λx => x.1.isSome)
   && decide ((e::es).length+([]:List Keyword).length+(if ([]:List Keyword).isEmpty then 0 else 1)<30))=true:=by rfl) (J_:(i_.endLine == j_.line)=true:=by rfl) (hs:Q6 (e::es) X.env=(false,eval e X.env)::Q6 es X.env:=by rfl) (E_:(ZL j_ (Q6 es X.env)).any (·.1)=false:=by rfl):WE X (.Call (.Attribute o name i_) (e::es) [] j_) (tBM X.K T r to t):=⟨NZ pa slot hty hm ho.h ha.h K_ R8 J_ hs E_⟩
end
variable{i:QF}{td ty:TE}
theorem BL(hu:X.A.units+1<cLine)(ho:WE X o td)(hi:WE X i ty)(hs:LM i):WE X (.Subscript o i pos) (JA td ty):=⟨GP hu ho.h hi.h hs⟩
def FP(hu:X.A.units+1<cLine)(hi:WE X i ty)(ho:WE X o td):WC X .In i o (NB ty td):=⟨Kn hu hi.h ho.h⟩
def xw(hu:X.A.units+1<cLine)(hi:WE X i ty)(ho:WE X o td):WC X .NotIn i o (ue ty td):=⟨zB hu hi.h ho.h⟩
theorem BE(hu:X.A.units+1<cLine)(ho:WE X o td)(hi:WE X i ty)(hv:WE X value tv)(hs:Zc value (some (.Subscript o i g_)) pos.line X.env=pure false):WS X (.Assign [.Subscript o i g_] value pos) (JG td ty tv):=⟨GC hu ho.h hi.h hv.h hs⟩
def yL :WE X (.Dict [] [] pos) Er:=⟨Cq ⟩
theorem BK{X:Cx}{pos:Pos}{q_:List (Option QF)}{u_:List QF}{trs:List (TE×TE)}(h:PPs X pos q_ u_ trs)(RA:q_.all (·.isSome)=true)(hl:q_.length=u_.length)(h0:q_≠[])(h15:q_.length<=15):WE X (.Dict q_ u_ pos) (Jz trs):=⟨GO h RA hl h0 h15⟩
section
variable{f:QF}{tx:TE}
theorem yM(hu:X.A.units+1<cLine)(ho:WE X o td)(he:WE X e ty)(hf:WE X f tx)(m:M2 X o "get" i_ e f j_):WE X (.Call (.Attribute o "get" i_) [e,f] [] j_) (Es td ty tx):=⟨Cr hu ho.h he.h hf.h m⟩
end
theorem yK(ho:WE X o td)(he:WE X e ty)(m:M1 X o "pop" i_ e j_):WE X (.Call (.Attribute o "pop" i_) [e] [] j_) (Ep td ty):=⟨Cp ho.h he.h m⟩
theorem wpv(i:Nat){x:Str}{pos:Pos}(hN:X.N[i]?=some x:=by rfl)(hv:Vis X.env.scope x:=by first|exact Or.inl rfl|exact Or.inr (Or.inl rfl)|exact Or.inr (Or.inr rfl))(hd:(x == ("__debug__":Str))=false:=by decide)(hcd:(x == ("__classdict__":Str))=false:=by decide):WE X (.Name x pos) (LZ i):=⟨pv i hN hv hd hcd⟩
def WW.pt{X:Cx}{e:QF}{t:TT}(h:WW X e t):WT X e t:=⟨h.h.pt⟩
def yl(i j:Int):Prop:=0<j/\j.natAbs.log2<9000
theorem wz:OpR X (binaryOp .FloorDiv) (rI yl λi j=>.int (i / j)):=opI λi j _ _ _ _ _ hc q=>by
 refine PyProof.Rows.floordiv_int (by have:=hc.1;omega) ?_ (.inl (PyProof.noPylong_of_log2 hc.2));rw[Int.fdiv_eq_ediv_of_nonneg i (Int.le_of_lt hc.1)];exact q
def fQ{H:Hp}{p:Addr}(h:H p=none)(o:HO):D8 H (upd H p o):=λb u q=>by rw[aH (c9 q h)];exact q
def Def(K:Q1)(mg:Str->Option Q3)(x:Str)(st:ZC)(ps:List Str):Prop:=
 ∃f fd,Fun K x x st f fd/\gR K fd ps []/\mg x=some (.ref f)
def Has(P:Z7)(w:ZR)(K:Q1)(mg:Str->Option Q3)(base:Heap)(x:Str)(k:Nat)(ps:List Str)(sp:Sp):Prop:=
 ∃f fd,kF P w K mg base CX0 k f fd ps sp/\gR K fd ps []/\YC K (.ref f)=true/\mg x=some (.ref f)
section
variable{P:Z7}{w:ZR}{K:Q1}{mg:Str->Option Q3}{base:Heap}{N:List Str}{k j:Nat}
theorem Has.mono(h:Has P w K mg base x j ps sp)(l:j<=k):Has P w K mg base x k ps sp:=by
 let⟨f,fd,a,b,c,d⟩:=h;exact⟨f,fd,a.mono l,b,c,d⟩
theorem Def.has(d:Def K mg x st ps)(S:aN N ps (ax st))(len:∀vs H Q E,sp vs H Q E->vs.length=ps.length)
  (R9:∀(f:Addr) (cdv:Q3) (A:ZE) (outer:List Env) (s:Q4) (H:Hp) (vs:List V) (Q:VK) (E:XK),eN k (A.deeper (envOfC x (ax st) s.heap.objs.size f cdv))->sp vs H Q E->
   ∃t,WSs (sL CX0 P w K mg base N x (ax st) f cdv A outer s H E).nox (cM st) t/\t { nx:=λ_ H'=>Q .non H',rt:=Q } (jC N vs) H):Has P w K mg base x (k+1) ps sp:=by
 let⟨f,fd,F,b,m⟩:=d;exact⟨f,fd,F.ok S len (λcdv A outer s H vs Q E hr h=>let ⟨t,a,b⟩:=R9 f cdv A outer s H vs Q E hr h;⟨t,a.h,b⟩),b,F.kp,m⟩
end
theorem Jk{X:Cx}{k:Nat}{ps:List Str}{sp:Sp}{x:Str}{p pos:Pos}{e:QF}{es:List QF}{t:TA}(F:Has X.prog X.w X.K X.mg X.base x k ps sp)(hr:eN k X.A)(hg:Gl X x)
  (ha:WA X (e::es) t) (hdb:(x == ("__debug__":Str))=false:=by decide) (he:Q6 (e::es) X.env=(false,eval e X.env)::Q6 es X.env:=by rfl) (hpl:(ZL pos (Q6 es X.env)).any (·.1)=false:=by rfl) :
  WE X (.Call (.Name x p) (e::es) [] pos) (JB sp [] E0 t):=by
 let⟨f,fd,a,b,c,d⟩:=F;exact⟨GR a hr hg d c b .nil Cu ha.h hdb he hpl⟩
structure Blt(mg:Str->Option Q3):Prop where
 len:mg "len"=none
 isinstance:mg "isinstance"=none
 int:mg "int"=none
 bool:mg "bool"=none
 str:mg "str"=none
 tuple:mg "tuple"=none
 list:mg "list"=none
 range:mg "range"=none
 min:mg "min"=none
 sum:mg "sum"=none
 all:mg "all"=none
 zip:mg "zip"=none
 sorted:mg "sorted"=none
 dict:mg "dict"=none
 enumerate:mg "enumerate"=none
 any:mg "any"=none
 max:mg "max"=none
 set:mg "set"=none
def qX{n:Nat}(h:n<=1000):n<=QU:=YS (yW h)
theorem xR{n:Nat}(h:n<2^60):n.log2<1920:=by
 by_cases e:n=0;subst e;decide;have:=(Nat.log2_lt e).mpr h;omega
def qC:ZS "int"=some (.type "int"):=rfl
def k9:ZS "tuple"=some (.type "tuple"):=rfl
def ny:ZS "list"=some (.type "list"):=rfl
def fM:ZS "isinstance"=some (.builtin "isinstance"):=rfl
def DR:ZS "min"=some (.builtin "min"):=rfl
def DS:ZS "max"=some (.builtin "max"):=rfl
def qD:ZS "any"=some (.builtin "any"):=rfl
def hZ:ZS "sorted"=some (.builtin "sorted"):=rfl
theorem Jg{X:Cx}{x:Str}{T:String}{pos:Pos}(hg:Gl X x)(hm:X.mg x=none)(hv:ZS x=some (.type T))(hn:x≠"__name__":=by decide)(hd:(x == ("__debug__":Str))=false:=by decide):WE X (.Name x pos) (tC (.ty T)):=
 ⟨GS hg hm hv rfl hn hd⟩
theorem Fun.okW{P:Z7}{w:ZR}{K:Q1}{mg:Str->Option Q3}{base:Heap}{x qual:Str}{st:ZC}{f:Addr}{fd:Zo}{N ps:List Str}{k:Nat}{sp:Sp}(F:Fun K x qual st f fd)(S:aN N ps (ax st))(len:∀vs H Q E,sp vs H Q E->vs.length=ps.length)
  (R9:∀(cdv:Q3) (A:ZE) (outer:List Env) (s:Q4) (H:Hp) (vs:List V) (Q:VK) (E:XK),eN k (A.deeper (envOfC qual (ax st) s.heap.objs.size f cdv))->sp vs H Q E->
   ∃t,WSs (sL CX0 P w K mg base N qual (ax st) f cdv A outer s H E).nox (cM st) t/\t { nx:=λ_ H'=>Q .non H',rt:=Q } (jC N vs) H):kF P w K mg base CX0 (k+1) f fd ps sp:=
 F.ok S len λcdv A outer s H vs Q E hr h=>let ⟨t,a,b⟩:=R9 cdv A outer s H vs Q E hr h;⟨t,a.h,b⟩
def yt(env:Env):List (Str×Addr)->Prop
 |[]=>True
 |p::r=>env.cells.lookup p.1=some p.2/\yt env r
theorem yt.look{env:Env}:∀{cl:List (Str×Addr)} {y:Str} {c:Addr},yt env cl->cl.lookup y=some c->env.cells.lookup y=some c
 |[],_,_,_,h=>by simp at h
 |(n,d)::r,y,c,a,h=>by
  let⟨a1,a2⟩:=a;rw[Zs]at h;by_cases e:(y == n)=true
  ·rw[e]at h;have e':y=n:=by simpa using e
   subst e';cases h;exact a1
  ·have e':(y == n)=false:=by simpa using e
   rw[e']at h;exact yt.look a2 h
abbrev cxC(X:Cx)(Nc:List Str)(scope:XR)(cl:List (Str×Addr))(s3:Q4)(H3:Hp)(fp:List Addr):Cx where
 prog:=X.prog
 w:=X.w
 K:=X.K
 mg:=X.mg
 base:=X.base
 A:=X.A
 N:=Nc
 s₀:=s3
 H₀:=H3
 env:=compEnvC scope cl s3.heap.objs.size X.env
 outer:=X.stack
 stack:=X.stack
 ex:=fp
 fn:=λ_=>false
 calm:=X.calm
 pn:=[]
 xe:=λ_ _=>False
def stC(n:Nat)(caps:List Nat)(σ:L2.St):L2.St:=QR n none++caps.map λi=>(σ[i]?).getD none
def F1(wi:TI)(g:TG)(te:TE)(n:Nat)(caps:List Nat):TE:=λσ H Q=>wi σ H λJ H1=>∀l,H1 l=none->∃W:Nat->Nat->L2.St->Hp->Prop,(∃m,W 0 m (stC n caps σ) (upd H1 l (.lst [])))/\
 ∀i m σ' H2,W i m σ' H2->(J.stop i H2/\Q (.ref l) H2)\/(J.go i H2/\∃N:L2.St->Hp->Prop,(∀σ'' H',N σ'' H'->∃m',m'<m/\W (i+1) m' σ'' H')/\
  ∀x H3,J.yld i H2 x H3->g x σ' H3 λσ2 H4=>te σ2 H4 λv H5=>∃ys,H5 l=some (.lst ys)/\ys.length<QU/\N σ2 (upd H5 l (.lst (ys++[v]))))
theorem sQ{prog:Z7}{w:ZR}{A:ZE}{R:Result->Q4->Prop}{s:Q4}{elt zz iter:QF}{scope:XR}{pos:Pos}{it acc:Q3}{env:Env}(I:Nat->Q4->Prop)
  (Ru:∀n s,I n s->wpAny (ZQ prog w) A (pyNext it) (λr s₁=>match r with
   |none=>R (.ok .next) s₁
   | some v=>wpAny (ZQ prog w) A (letOwnedTupleGo zz it v) (λ_ s₁'=>wpAny (ZQ prog w) A (assign zz env v) (λ_ s₂=>wpAny (ZQ prog w) A (eval elt env) (λx s₃=>
     wpAny (ZQ prog w) A (call (.builtin "list.append") [acc,x]) (λ_ s₄=>∃m,m<n/\I m s₄) (λ_ _=>False) s₃)
     (λ_ _=>False) s₂) (λ_ _=>False) s₁') (λ_ _=>False) s₁) (λ_ _=>False) s)
  (n:Nat) (h:I n s) :
  codeAny (ZQ prog w) A (.compLoop (.ListComp elt [⟨zz,iter,[],0⟩] scope pos) 0 it acc env) R s:=by
 refine codeAny_loop rfl I (λn s hI=>?_) n h;show wpAny _ _ ((compTurn (.ListComp elt [⟨zz,iter,[],0⟩] scope pos) 0 it acc env).onRaise (λx=>do noteFrame x env;theTreesLotGoes x)) _ _ s;refine wpAny_noted ?_;rw[compTurn_list1];refine Q2 (wpAny_standAt (Q2 (ZN (Ru n s hI) (λr s₁ h₁=>?_) λ_ _ h'=>h'.elim)));cases r with
 |none=>exact QJ h₁
 |some v=>
  refine Q2 (ZN h₁ (λ_ s₁' h₁'=>?_) λ_ _ h'=>h'.elim);exact Q2 (ZN h₁' (λ_ s₂ h₂=>Q2 (Q2 (ZN h₂ (λx s₃ h₃=>Q2 (ZN h₃
   (λ_ s₄ h₄=>QJ (QJ ⟨rfl,h₄⟩)) λ_ _ h'=>h'.elim)) λ_ _ h'=>h'.elim))) λ_ _ h'=>h'.elim)
section
variable{b_:List (Addr×Obj)}{σ:L2.St}{H:Hp}{s:Q4}{Nc capN:List Str}{scope:XR}{cl:List (Str×Addr)}{fp:List Addr}{n:Nat}{caps:List Nat}
def Cap(X:Cx)(scope:XR)(cl:List (Str×Addr))(i:Nat)(y:Str):Prop:=X.N[i]?=some y/\X.env.scope.names.lookup y=some .cell/\(relabel scope X.env).names.lookup y=some .cell/\∃c,cl.lookup y=some c
theorem Inv.comp{h1:Heap}{t':Nat}(I:Inv X b_ σ H s)(hc:X.calm=true)(f2:∀b∈fp,yq X b_ H b)(fo:∀b∈fp,b<s.heap.objs.size)(r_:scope.kind=.function)(hcl:yt X.env cl)
  (H_:((relabel scope X.env).names.all λp=>!(p.2 == .cell||p.2 == .free)||(cl.lookup p.1).isSome)=true)
  (F_:Paired (Cap X scope cl) caps capN) (tn:List Str) (hN:Nc=tn++capN) (hn:tn.length=n)
  (hns:h1.Ns s.heap.objs.size (λ_=>none)) (hk:∀b o,s.heap.get? b=some o->h1.get? b=some o) :
  Inv (cxC X Nc scope cl s H fp) [] (stC n caps σ) H { s with heap:=h1,toks:=t' }:=by
 have lkc:∀y c,cl.lookup y=some c->X.env.cells.lookup y=some c:=λy c e=>hcl.look e;refine⟨⟨I.ok.mod,?_,I.ok.glob,I.ok.blt,QQ _,λx y c a b=>I.ok.inj x y c (lkc _ _ a) (lkc _ _ b),λx hx=>?_,λx c z=>(nomatch z),I.ok.hd,I.ok.frames,.inl rfl,λb hb=>⟨ZZ (fo b hb),λx c e=>(f2 b hb).2.2.2.2.1 x c (lkc _ _ e)⟩,I.bs,ZP I.ok.bsz I.sz,
  λb o e hb=>?_,λb hb z=>?_,I.stack,I.stkFree⟩,rfl,I.bare,Un.kept hk,⟨_,hns,λi y v h1' h2 h3=>?_⟩,λy c e=>?_,I.hok.fresh (QQ _),λy c e=>I.freeC y c (lkc _ _ e),λp hp=>(by simp at hp),I.hok.kept hk,?_⟩
 exact r_
 ·have hx':(relabel scope X.env).names.lookup x=some .cell\/(relabel scope X.env).names.lookup x=some .free:=hx;have mem:∀{k},(relabel scope X.env).names.lookup x=some k->(x,k)∈(relabel scope X.env).names:=λ{k} e=>by
   generalize (relabel scope X.env).names=L at e;induction L with
   |nil=>simp at e
   |cons p r ih=>
    let⟨a,b⟩:=p;rw[Zs]at e;by_cases q:(x == a)=true;rw[q]at e;cases e;have:x=a:=by simpa using q
    subst this;exact QH;rw[show(x == a)=false by simpa using q]at e;exact QZ _ (ih e)
  have fin:∀{k},(k=NameKind.cell\/k=.free)->(relabel scope X.env).names.lookup x=some k->∃c,cl.lookup x=some c:=λ{k} hk' e=>by
   have:=List.all_eq_true.mp H_ _ (mem e);dsimp only at this;have q:(cl.lookup x).isSome=true:=by
    rcases hk' with z|z<;>subst z<;>simpa using this
   exact Zz.mp q
  rcases hx' with e|e;exact fin (.inl rfl) e;exact fin (.inr rfl) e
 rcases(f2 b hb).2.2.2.1 with z|z;exact I.ok.noex b o e z;exact absurd (QN (QY e) I.ok.bsz) (Nat.not_lt.mpr z);rcases Z8.mp (I.stkSub b z)with q|q;exact(f2 b hb).2.1 q;exact(f2 b hb).2.2.1 q;let⟨m,hm,hl⟩:=I.loc;have h2':(stC n caps σ)[i]?=some (some v):=h2;have h1'':Nc[i]?=some y:=h1';unfold stC at h2';by_cases hi:i<n;rw[Zy ‹hi›,X7,XO hi]at h2';cases h2';rw[Zk (by simp;omega),YU,ZH]at h2';rw[hN,Zk ⋯,hn]at h1'';have key:∀(j:Nat) {caps:List Nat} {capN:List Str},Paired (Cap X scope cl) caps capN->capN[j]?=some y->(Option.map (λi=>(σ[i]?).getD none) caps[j]?)=some (some v)->∃k,Cap X scope cl k y/\σ[k]?=some (some v):=by
  intro j;induction j with
  |zero=>
   intro caps capN P e1 e2;cases P with
   |nil=>simp at e1
   |@cons a b l r p t=>
    simp at e1 e2;subst e1;cases q:σ[a]? with
    |none=>rw[q]at e2;simp at e2
    |some w'=>rw[q]at e2;simp at e2;subst e2;exact⟨a,p,q⟩
  |succ j ih=>
   intro caps capN P e1 e2;cases P with
   |nil=>simp at e1
   |cons p t=>exact ih t ‹e1› ‹e2›
 let⟨k,⟨c1,c2,c3,c,c4⟩,e⟩:=key _ F_ h1'' h2';let⟨u,r,lk⟩:=hl k y v c1 e (.inr (.inl c2));refine⟨u,r,.inr ⟨.inl c3,c,c4,?_⟩⟩;rcases lk with⟨z,_⟩|⟨_,c',e',o,ho,hd⟩;have z':X.env.scope.names.lookup y=some .local:=z;rw[c2]at z';cases z';rw[lkc _ _ c4]at e';cases e';exact⟨o,hk _ _ ho,hd⟩;let⟨v,o,ho,hd⟩:=I.cell y c (lkc _ _ e);exact⟨v,o,hk _ _ ho,hd⟩;show(stC n caps σ).length=Nc.length;have pl:caps.length=capN.length:=Paired.length F_;unfold stC;rw[Z6,YU,QX,hN,Z6,hn,pl]
end
theorem DO{X:Cx}{Nc capN tn:List Str}{scope:XR}{cl:List (Str×Addr)}{n:Nat}{caps:List Nat}{tg iter elt:QF}{pos:Pos}{wi:TI}{g:TG}{te:TE}
  (hc:X.calm=true) (hi:WI X tg iter wi) (hg:∀s3 H3 fp,WG (cxC X Nc scope cl s3 H3 fp) tg g) (he:∀s3 H3 fp,WE (cxC X Nc scope cl s3 H3 fp) elt te)
  (G_:closureFor scope X.env=pure cl) (r_:scope.kind=.function) (hnl:∀x∈scope.names,x.2=.local->scope.names.lookup x.1=some .local) (x_:∀x∈scope.names,x.2≠.cell)
  (hcl:yt X.env cl) (H_:((relabel scope X.env).names.all λp=>!(p.2 == .cell||p.2 == .free)||(cl.lookup p.1).isSome)=true)
  (F_:Paired (Cap X scope cl) caps capN) (hN:Nc=tn++capN) (hn:tn.length=n)
  {use:Option (Q3->Sem Unit)} {b_:List (Addr×Obj)} {σ:L2.St} {H:Hp} {s:Q4} {Q:VK} {Qf:Q3->Q4->Prop} (I:Inv X b_ σ H s) (h:F1 wi g te n caps σ H Q)
  (RU:∀(D C:Addr) (s6:Q4) (H5:Hp) (m:Str->Option Q3),Inv X b_ σ H5 s6->s6.heap.Ns C m->H5 C=none->C≠X.env.locals->X.s₀.heap.objs.size<=C->(∀x c,X.env.cells.lookup x=some c->c≠C)->(∀p∈X.pn++b_,p.1≠C)->Q (.ref D) H5->compPost (ZQ X.prog X.w) X.A X.xe use Qf (.ref D) C (.ok .next) s6)
  (hs:∀x,foldedSetIterable iter X.env x=pure x) :
  wpAny (ZQ X.prog X.w) X.A (comprehension (.ListComp elt [⟨tg,iter,[],0⟩] scope pos) scope X.env (firstIterPos [⟨tg,iter,[],0⟩] pos) (newList []) (firstAsync [⟨tg,iter,[],0⟩]) (firstIter [⟨tg,iter,[],0⟩] X.env) use) Qf X.xe s:=by
 refine wpAny_comprehension_free (use:=use) (g:=⟨tg,iter,[],0⟩) (gs:=[]) rfl hs G_ r_ hnl (thn (hi.h b_ s σ H _ I h) λv s1 h1=>thn h1 λitv s2 h2=>?_);let⟨it,fp,tnn,J,H2,rfl,I2,T,st2,f2,hW⟩:=h2;have hD:=I2.fresh;let⟨W,⟨m0,w0⟩,Ru⟩:=hW _ hD;refine wpAny_newObj_type (wpAny_newFunctionEnv x_ (by intro y hy;simp at hy) (λh₁ Rz Ry=>?_) r_);dsimp only at Rz Ry ⊢;have I3:Inv X b_ σ (upd H2 s2.heap.objs.size (.lst [])) { s2 with heap:=s2.heap.push { cls:=.type "list",dict:=none,data:=.seq ([]:List Q3).toArray },toks:=s2.toks }:=I2.lnew (its:=[]) .nil (Zh _);generalize hs3:({ s2 with heap:=s2.heap.push { cls:=.type "list",dict:=none,data:=.seq ([]:List Q3).toArray },toks:=s2.toks }:Q4)=s3 at I3;have es3:s3.heap=s2.heap.push { cls:=.type "list",dict:=none,data:=.seq ([]:List Q3).toArray }:=by rw[<-hs3]
 generalize hDD:s2.heap.objs.size=D at *;have kept:∀b o,s3.heap.get? b=some o->h₁.get? b=some o:=λb o e=>by
  have lt:=QY e;rw[es3]at lt e;exact Ry.extBut b o (ZZ lt) (Q5 _ e)
 have old:∀b o,s2.heap.get? b=some o->s3.heap.get? b=some o:=λb o e=>by rw[es3];exact Q5 _ e
 have ltD:∀b∈fp,b<D:=λb hb=>by
  let⟨o,e,_⟩:=T.obj 0 _ st2 b hb;rw[<-hDD];exact QY e
 have fo:∀b∈fp,b<s3.heap.objs.size:=λb hb=>by
  let⟨o,e,_⟩:=T.obj 0 _ st2 b hb;exact QY (old _ _ e)
 have f3:∀b∈fp,yq X b_ (upd H2 D (.lst [])) b:=λb hb=>by
  refine⟨?_,(f2 b hb).2⟩;rw[aH (ZZ (ltD b hb))];exact(f2 b hb).1
 rw[<-es3]at Rz Ry ⊢;have Ic:=λt'=>Inv.comp (h1:=h₁) (t':=t') (Nc:=Nc) (n:=n) I3 hc f3 fo r_ hcl H_ F_ tn hN hn Rz kept;have stat:∀{H':Hp},(∀b∈fp,H' b=none)->∀b∈fp,yq (cxC X Nc scope cl s3 (upd H2 D (.lst [])) fp) [] H' b:=λhn' b hb=>by
  refine⟨hn' b hb,ZZ (fo b hb),λz=>?_,.inl hb,λx c e=>(f2 b hb).2.2.2.2.1 x c (hcl.look e),λp hp=>by simp at hp⟩;rcases Z8.mp (I3.stkSub b z)with q|q;exact(f2 b hb).2.1 q;exact(f2 b hb).2.2.1 q
 have loop:∀s4:Q4,(∃t',s4={ s3 with heap:=h₁,toks:=t' })->codeAny (ZQ X.prog X.w) X.A (.compLoop (.ListComp elt [⟨tg,iter,[],0⟩] scope pos) 0 (.ref it) (.ref D) (compEnvC scope cl s3.heap.objs.size X.env))
   (compPost (ZQ X.prog X.w) X.A X.xe use Qf (.ref D) s3.heap.objs.size) s4:=by
  rintro s4 ⟨t',rfl⟩;refine sQ (λn' s'=>∃i σ' H',Inv (cxC X Nc scope cl s3 (upd H2 D (.lst [])) fp) [] σ' H' s'/\tnn i s'.heap/\(∀b∈fp,H' b=none)/\W i n' σ' H') ?_ m0
   ⟨0,_,_,Ic t',T.keep 0 _ _ st2 λb hb o e=>kept _ _ (old _ _ e),λb hb=>(f3 b hb).1,w0⟩
  rintro n' s5 ⟨i,σ5,H5,I5,st5,fr5,w5⟩;rcases Ru i n' σ5 H5 w5 with⟨stop,qn⟩|⟨go,N,hN',step⟩;refine thn (T.done (cxC X Nc scope cl s3 (upd H2 D (.lst [])) fp) rfl rfl rfl hc i [] s5 σ5 H5 (λ_ _=>False) I5 (stat fr5) st5 stop) λr s6 ⟨hr,I6⟩=>?_;subst hr;let⟨m,hm,_⟩:=I6.loc;have I7:Inv X b_ σ H5 s6:=Inv.call' (ch:=fp) I3 I6.os I6.base I6.hok I6.bare λb hb=>⟨(f2 b hb).2.2.2.1,(f2 b hb).2.1,(f2 b hb).2.2.2.2.1,(f2 b hb).2.2.2.2.2⟩;exact RU D _ s6 H5 m I7 hm I6.free (Ne.symm (ZZ I3.lt)) I3.sz (λx c e=>by
    let⟨v',o,ho,_⟩:=I3.cell x c e;exact ZZ (QY ho)) (λp hp=>ZZ (QY (I3.pin p hp).1)) qn
  refine thn (T.item (cxC X Nc scope cl s3 (upd H2 D (.lst [])) fp) rfl rfl rfl hc i [] s5 σ5 H5 (λ_ _=>False) I5 (stat fr5) st5 go) λr s6 ⟨u,hr,h6⟩=>?_;subst hr;refine thn h6 λ_ s7 hz=>?_;let⟨x,H7,I7,r7,y7,st7,fr7⟩:=hz;have I7':=I7.pinned (stat fr7) (T.obj _ _ st7);refine thn ((hg s3 (upd H2 D (.lst [])) fp).h _ s7 σ5 H7 x u _ I7' r7 (step x H7 y7)) λ_ s8 hz=>?_;let⟨σ8,H8,I8,q8⟩:=hz;refine thn ((he s3 (upd H2 D (.lst [])) fp).h _ s8 σ8 H8 _ I8 q8) λv9 s9 hz=>?_;let⟨x9,H9,I9,r9,ys,hy,hlt,q9⟩:=hz;refine thn (mP (X:=cxC X Nc scope cl s3 (upd H2 D (.lst [])) fp) _ s9 σ8 H9 (.ref D) [x9] (.ref D) [v9] (λ_ H'=>N σ8 H') I9 rfl (.cons r9 .nil) ⟨D,ys,x9,rfl,rfl,hy,hlt,q9⟩) λ_ s10 hz=>?_;let⟨_,H10,I10,_,q10⟩:=hz;let⟨m',hm,w10⟩:=hN' σ8 H10 q10;refine⟨m',hm,i+1,σ8,H10,I10.unpinned,T.keep _ _ _ st7 λb hb o e=>(I10.pin (b,o) (Z9 _ (Z9 _ (fu hb e)))).1,λb hb=>?_,w10⟩;let⟨o,e,d⟩:=T.obj _ _ st7 b hb;exact(I10.pin (b,o) (Z9 _ (Z9 _ (fu hb e)))).2.1
 have e4:∀t',({ s2 with heap:=h₁,toks:=t' }:Q4)={ s3 with heap:=h₁,toks:=t' }:=λt'=>by rw[<-hs3]
 refine codeAny_compStart_list (loop _ ⟨_,e4 _⟩) (T.self _ 0 _ _ _ (T.keep 0 _ _ st2 λb hb o e=>kept _ _ (old _ _ e)) (loop _ ⟨_,e4 _⟩))
theorem vH{X:Cx}{Nc capN tn:List Str}{scope:XR}{cl:List (Str×Addr)}{n:Nat}{caps:List Nat}{tg iter elt:QF}{pos:Pos}{wi:TI}{g:TG}{te:TE}
  (hc:X.calm=true) (hi:WI X tg iter wi) (hg:∀s3 H3 fp,WG (cxC X Nc scope cl s3 H3 fp) tg g) (he:∀s3 H3 fp,WE (cxC X Nc scope cl s3 H3 fp) elt te)
  (G_:closureFor scope X.env=pure cl) (r_:scope.kind=.function) (hnl:∀x∈scope.names,x.2=.local->scope.names.lookup x.1=some .local) (x_:∀x∈scope.names,x.2≠.cell)
  (hcl:yt X.env cl) (H_:((relabel scope X.env).names.all λp=>!(p.2 == .cell||p.2 == .free)||(cl.lookup p.1).isSome)=true)
  (F_:Paired (Cap X scope cl) caps capN) (hN:Nc=tn++capN) (hn:tn.length=n)
  (hs:∀x,foldedSetIterable iter X.env x=pure x:=by intro _;rfl) :
  WE X (.ListComp elt [⟨tg,iter,[],0⟩] scope pos) (F1 wi g te n caps):=by
 constructor;intro b_ s σ H Q I h;rw[eval_ListComp];refine DO hc hi hg he G_ r_ hnl x_ hcl H_ F_ hN hn I h (λD C s6 H5 m I7 hm fr nl sz cn pn qn=>⟨m,hm,λh' hs'=>?_⟩) hs;exact⟨.ref D,H5,I7.turned (t':=s6.toks) (it:=C) (λb o hb e=>hs'.extBut b o hb e) fr nl (.inr sz) cn pn,rfl,qn⟩
theorem yN:∀{bs:List Bool} {us:List Q3} {i:Nat} {v:Q3},bE (bs.map V.bl) us->us[i]?=some v->∃b,bs[i]?=some b/\v=.bool b
 |[],_,_,_,r,e=>by cases r;simp at e
 |b::bs,_,0,_,.cons r _,e=>by
  have r':_=Value.bool b:=r;simp at e;subst e;exact⟨b,nofun,r'⟩
 |b::bs,_,i+1,v,.cons _ t,e=>by
  let⟨b',e1,e2⟩:=yN (i:=i) (v:=v) t ‹e›;exact⟨b',by simpa using e1,e2⟩
theorem G7{h:Heap}{b:Addr}{o:Obj}(e:h.get? b=some o):¬b∈[h.objs.size]:=λz=>by
 have z':b=h.objs.size:=by simpa using z
 exact absurd (QY e) (by rw[z'];exact Zm _)
open PySem.AutoSeq1 (wpAny_loadPart')
theorem DP{prog:Z7}{w:ZR}{A:ZE}{E:Q3->Q4->Prop}{s:Q4}{t b:Addr}{vs ws:List Q3}{Q:Q3->Q4->Prop}(ht:IsTup s.heap t vs.toArray)(hb:IsTup s.heap b ws.toArray)(hv:vs=[])
  (h1:Q (.ref b) s):wpAny (ZQ prog w) A (binaryOp .Add (.ref t) (.ref b)) Q E s:=by
 let⟨⟨cls,dd,data,sl⟩,ho,hc,n,hd⟩:=id ht;let⟨⟨cls2,dd2,data2,sl2⟩,ho2,hc2,n2,hd2⟩:=id hb;simp only at hc hd hc2 hd2;subst hc hd hc2 hd2;exact concat_meets ⟨_,ho,rfl⟩ ⟨_,ho2,rfl⟩ noFill_tuple_add seq_tuple_add PySem.F.slot_tuple_add YL (YK _ _)
   (tuple_addW0 t b vs.toArray ws.toArray n n2 dd dd2 sl sl2 (by simp[hv])) ⟨ho,ho2,h1⟩
theorem lP:fillsNumberSlot (.type "tuple") "mul"=pure false:=
 PySem.fillsNumberSlot_seq (id:="tuple.__mul__") (r:=some (.builtin "tuple.__rmul__")) F.slot_tuple_mul.lookup ∅ F.slot_tuple_rmul.lookup ∅
theorem rh:seqRepeat? (.type "tuple")=pure (some (.builtin "tuple.__mul__")):=by
 unfold seqRepeat?;rw[PySem.seqSlot_of (T:="tuple") (name:="__mul__") (id:="tuple.__mul__") F.slot_tuple_mul.lookup ∅,PySem.seqSlot_of (T:="tuple") (name:="__rmul__") (id:="tuple.__rmul__") F.slot_tuple_rmul.lookup ∅];rfl
theorem nV(a:Int)(t:Tok)(l:Addr)(items:Array Q3)(n:Nat)(dd:Option Addr)(sl:Array (Option Q3)) :
  Meets (Builtin.«int.__rmul__» ⟨[.int a t,.ref l],[]⟩) (λ_ R s=>s.heap.get? l=some { cls:=.type "tuple",dict:=dd,data:=.seq items n,slots:=sl }/\R (.ok (.ret Value.notImplemented)) s):=
 .of_wp λprog w A R s h=>by let⟨hp,g,d,tk,os⟩:=s;let⟨hl,h⟩:=h;wp_walk using wpAny_loadPart' hl;exact⟨_,rfl,h⟩
theorem uc(l:Addr)(items:Array Q3)(n:Nat)(dd:Option Addr)(sl:Array (Option Q3))(t:Tok) :
  Meets (Builtin.«tuple.__mul__» ⟨[.ref l,.int 1 t],[]⟩) (λ_ R s=>s.heap.get? l=some { cls:=.type "tuple",dict:=dd,data:=.seq items n,slots:=sl }/\R (.ok (.ret (Value.ref l))) s):=
 .of_wp λprog w A R s h=>by let⟨hp,g,d,tk,os⟩:=s;let⟨hl,h⟩:=h;have f1:=AutoSeq1.idx_int;wp_walk using wpAny_loadPart' hl;exact⟨_,rfl,h⟩
theorem t9(l:Addr)(items:Array Q3)(n:Nat)(dd:Option Addr)(sl:Array (Option Q3))(k:Int)(t:Tok)(hc0:¬(decide (k < -2^63)||decide (k≥2^63))=true)(hc1:¬(items.isEmpty||k == 1)=true)(hc2:¬(decide (k<=0)||items.isEmpty)=true)
  (hc3:¬((items.size:Int)*k>(2^63-1) / 8)) (hc4:¬Builtin.Tuple.tupleTooMany ((items.size:Int)*k)=true) (hz:(List.foldl (λx1 x2=>x1++x2) #[] (QR k.toNat items)).size<=QU) :
  Meets (Builtin.«tuple.__mul__» ⟨[.ref l,.int k t],[]⟩) (λ_ R s=>s.heap.get? l=some { cls:=.type "tuple",dict:=dd,data:=.seq items n,slots:=sl }/\
   R (.ok (.ret (Value.ref s.heap.objs.size))) { s with heap:=s.heap.push { cls:=Value.type "tuple",data:=Data.seq (List.foldl (λx1 x2=>x1++x2) #[] (QR k.toNat items)) } }):=
 .of_wp λprog w A R s h=>by
  let⟨hp,g,d,tk,os⟩:=s;let⟨hl,h⟩:=h;have f1:=AutoSeq1.idx_int;have g0:(decide (k < -2^63)||decide (k≥2^63))=false:=by simpa using hc0
  have g1:(items.isEmpty||k == 1)=false:=by simpa using hc1
  have g2:(decide (k<=0)||items.isEmpty)=false:=by simpa using hc2
  have g4:Builtin.Tuple.tupleTooMany ((items.size:Int)*k)=false:=by simpa using hc4
  wp_walk using wpAny_loadPart' hl
  refine PySem.W.KFB.if_not g0 ?_
  wp_walk using wpAny_loadPart' hl
  try (refine PySem.W.KFB.if_not g1 ?_;wp_walk using wpAny_loadPart' hl)
  try (refine PySem.W.KFB.if_not g2 ?_;wp_walk using wpAny_loadPart' hl)
  try (rw[XS hc3];wp_walk using wpAny_loadPart' hl)
  try (refine PySem.W.KFB.if_not g4 ?_;wp_walk using wpAny_loadPart' hl)
  try (refine wpAny_ite_false (Xq (Nat.not_lt.mpr hz)) ?_;wp_walk)
  exact⟨_,rfl,h⟩
theorem z9{m:Int}(h0:0<=m)(h:m<2^60):m.natAbs.log2<9000:=by
 have:=xR (n:=m.natAbs) ⋯;omega
end OG
namespace OP
open PySem PySem.Spec PyProof.Rows L2 OG
inductive U where
 |non|bl (b:Bool)|int (i:Int)|str (x:Str)|tup (us:List U)|ref (l:Nat)|kl (ns:List Int)
structure Cl where
 C:Addr
 ns:List Str
inductive O where
 |lst (us:List U)|dic (kvs:List (Key×U))|ins (c:Cl) (fs:List (Option U))|fdc (ep:Nat) (kvs:List (Key×U))|dit (kvs:List (List Key×U))|fdt (ep:Nat) (kvs:List (List Key×U))|dnt (kvs:List (List (List Int)×U))|fdn (ep:Nat) (kvs:List (List (List Int)×U))|cod (p:Addr) (pos:Pos) (q:Str)|exc (C:Addr)
abbrev Sto:=List O
abbrev Rho:=List (Option U)
def KL(K:Q1)(H:Hp)(a:Addr)(ns:List Int):Prop:=
 (∃o,H a=some (.frz o (.lst (ns.map V.int))))\/
  ∃(o:Obj) (its:Array Q3) (n:Nat),K.lookup a=some o/\o.cls=.type "list"/\o.dict=none/\o.data=.seq its n/\its.size<=QU/\bE (ns.map V.int) its.toList
theorem KL.sq{K:Q1}{H:Hp}{a:Addr}{ns:List Int}(h:KL K H a ns):SqL K H a (ns.map V.int):=by
 rcases h with h|h;exact .inl (.inr h);exact .inr h
mutual
def Is(K:Q1)(m:List Addr)(H:Hp):V->U->Prop
 |v,.non=>v=.non
 |v,.bl b=>v=.bl b
 |v,.int i=>v=.int i
 |v,.str x=>v=.str x
 |v,.tup us=>∃a xs,v=.ref a/\SqT K H a xs/\IsL K m H xs us
 |v,.ref l=>∃a,m[l]?=some a/\v=.ref a
 |v,.kl ns=>∃a,v=.ref a/\KL K H a ns
def IsL(K:Q1)(m:List Addr)(H:Hp):List V->List U->Prop
 |xs,[]=>xs=[]
 |xs,u::us=>∃x r,xs=x::r/\Is K m H x u/\IsL K m H r us
end
structure yp(K:Q1)(H H':Hp):Prop where
 t:∀a xs,SqT K H a xs->SqT K H' a xs
 l:∀a ns,KL K H a ns->KL K H' a ns
 c:∀a ob,H a=some (.frz ob (.own 0))->H' a=some (.frz ob (.own 0))
structure Ext(K:Q1)(m:List Addr)(H:Hp)(m':List Addr)(H':Hp):Prop where
 pre:∃t,m'=m++t
 keep:yp K H H'
variable{K:Q1}{m m':List Addr}{H H':Hp}{us:List U}{a q:Addr}
section
variable{m'':List Addr}{H'':Hp}{v x:V}{u:U}{xs ys:List V}{ws:List U}{o:HO}
def Ext.refl:Ext K m H m H:=⟨⟨[],nofun⟩,λ_ _ h=>h,λ_ _ h=>h,λ_ _ h=>h⟩
theorem Ext.trans(a:Ext K m H m' H')(b:Ext K m' H' m'' H''):Ext K m H m'' H'':=by
 let⟨t,rfl⟩:=a.pre;let⟨t',rfl⟩:=b.pre;exact⟨⟨t++t',nofun⟩,λc ys h=>b.keep.t c ys (a.keep.t c ys h),λc ys h=>b.keep.l c ys (a.keep.l c ys h),λc ob h=>b.keep.c c ob (a.keep.c c ob h)⟩
def Ext.of(k:yp K H H'):Ext K m H m H':=⟨⟨[],nofun⟩,k⟩
def Ext.new(k:yp K H H'):Ext K m H (m++[q]) H':=⟨⟨[q],rfl⟩,k⟩
theorem Ext.get{l:Nat}(e:Ext K m H m' H')(h:m[l]?=some a):m'[l]?=some a:=by
 let⟨t,rfl⟩:=e.pre;rw[Zy (Q8.mp h).1];exact h
mutual
theorem Is.mono(e:Ext K m H m' H'):∀{v:V} {u:U},Is K m H v u->Is K m' H' v u
 |v,.non,h=>by unfold Is at h ⊢;exact h
 |v,.bl b,h=>by unfold Is at h ⊢;exact h
 |v,.int i,h=>by unfold Is at h ⊢;exact h
 |v,.str x,h=>by unfold Is at h ⊢;exact h
 |v,.tup us,h=>by
  unfold Is at h ⊢;let⟨a,xs,e1,k,l⟩:=h;exact⟨a,xs,e1,e.keep.t _ _ k,IsL.mono e l⟩
 |v,.ref l,h=>by
  unfold Is at h ⊢;let⟨a,k,e1⟩:=h;exact⟨a,e.get k,e1⟩
 |v,.kl ns,h=>by
  unfold Is at h ⊢;let⟨a,e1,k⟩:=h;exact⟨a,e1,e.keep.l _ _ k⟩
theorem IsL.mono(e:Ext K m H m' H'):∀{xs:List V} {us:List U},IsL K m H xs us->IsL K m' H' xs us
 |xs,[],h=>by unfold IsL at h ⊢;exact h
 |xs,u::us,h=>by
  unfold IsL at h ⊢;let⟨x,r,e1,k,l⟩:=h;exact⟨x,r,e1,Is.mono e k,IsL.mono e l⟩
end
def Is.int_{i:Int}:Is K m H (.int i) (.int i):=by unfold Is;rfl
def Is.bl_{b:Bool}:Is K m H (.bl b) (.bl b):=by unfold Is;rfl
def Is.non_:Is K m H .non .non:=by unfold Is;rfl
def Is.str_{x:Str}:Is K m H (.str x) (.str x):=by unfold Is;rfl
def Is.of_int{i:Int}(h:Is K m H v (.int i)):v=.int i:=by unfold Is at h;exact h
def Is.of_bl{b:Bool}(h:Is K m H v (.bl b)):v=.bl b:=by unfold Is at h;exact h
def Is.of_non(h:Is K m H v .non):v=.non:=by unfold Is at h;exact h
def Is.of_str{x:Str}(h:Is K m H v (.str x)):v=.str x:=by unfold Is at h;exact h
def Is.of_tup(h:Is K m H v (.tup us)):∃a xs,v=.ref a/\SqT K H a xs/\IsL K m H xs us:=by unfold Is at h;exact h
def Is.of_ref{l:Nat}(h:Is K m H v (.ref l)):∃a,m[l]?=some a/\v=.ref a:=by unfold Is at h;exact h
def Is.of_kl{ns:List Int}(h:Is K m H v (.kl ns)):∃a,v=.ref a/\KL K H a ns:=by unfold Is at h;exact h
def Is.kl_{ns:List Int}(e:KL K H a ns):Is K m H (.ref a) (.kl ns):=by unfold Is;exact⟨a,rfl,e⟩
def Is.tup_(e:SqT K H a xs)(h:IsL K m H xs us):Is K m H (.ref a) (.tup us):=by unfold Is;exact⟨a,xs,rfl,e,h⟩
def Is.ref_{l:Nat}(e:m[l]?=some a):Is K m H (.ref a) (.ref l):=by unfold Is;exact⟨a,e,rfl⟩
def IsL.nil_:IsL K m H [] []:=by unfold IsL;rfl
def IsL.cons_(h:Is K m H x u)(t:IsL K m H xs us):IsL K m H (x::xs) (u::us):=by unfold IsL;exact⟨x,xs,rfl,h,t⟩
def IsL.of_nil(h:IsL K m H xs []):xs=[]:=by unfold IsL at h;exact h
def IsL.of_cons(h:IsL K m H xs (u::us)):∃x r,xs=x::r/\Is K m H x u/\IsL K m H r us:=by unfold IsL at h;exact h
theorem IsL.length:∀{xs:List V} {us:List U},IsL K m H xs us->xs.length=us.length
 |xs,[],h=>by rw[h.of_nil];rfl
 |xs,d::ds,h=>by
  let⟨x,r,rfl,_,t⟩:=h.of_cons;rw[QK,QK,IsL.length t]
theorem IsL.getD:∀{xs:List V} {us:List U} {i:Nat} {u:U},IsL K m H xs us->us[i]?=some u->∃x,xs[i]?=some x/\Is K m H x u
 |xs,[],i,x,h,e=>by simp at e
 |xs,d::ds,0,x,h,e=>by
  let⟨y,r,rfl,k,t⟩:=h.of_cons;simp at e;subst e;exact⟨y,nofun,k⟩
 |xs,d::ds,i+1,x,h,e=>by
  let⟨y,r,rfl,k,t⟩:=h.of_cons;let⟨d',e1,e2⟩:=IsL.getD (i:=i) (u:=x) t ‹e›;exact⟨d',by simpa using e1,e2⟩
theorem IsL.append:∀{xs:List V} {us:List U},IsL K m H xs us->IsL K m H ys ws->IsL K m H (xs++ys) (us++ws)
 |xs,[],h,k=>by rw[h.of_nil];exact k
 |xs,d::ds,h,k=>by
  let⟨y,r,rfl,z,t⟩:=h.of_cons;exact .cons_ z (IsL.append t k)
theorem IsL.set:∀{xs:List V} {us:List U} {j:Nat},IsL K m H xs us->Is K m H x u->IsL K m H (xs.set j x) (us.set j u)
 |xs,[],j,h,k=>by rw[h.of_nil];exact .nil_
 |xs,d::ds,0,h,k=>by
  let⟨y,r,rfl,z,t⟩:=h.of_cons;exact .cons_ k t
 |xs,d::ds,j+1,h,k=>by
  let⟨y,r,rfl,z,t⟩:=h.of_cons;exact .cons_ z (IsL.set t k)
theorem IsL.drop:∀{xs:List V} {us:List U} (n:Nat),IsL K m H xs us->IsL K m H (xs.drop n) (us.drop n)
 |xs,us,0,h=>h
 |xs,[],n+1,h=>by rw[h.of_nil];exact .nil_
 |xs,d::ds,n+1,h=>by
  let⟨y,r,rfl,z,t⟩:=h.of_cons;exact IsL.drop n t
theorem IsL.take:∀{xs:List V} {us:List U} (n:Nat),IsL K m H xs us->IsL K m H (xs.take n) (us.take n)
 |xs,us,0,h=>.nil_
 |xs,[],n+1,h=>by rw[h.of_nil];exact .nil_
 |xs,d::ds,n+1,h=>by
  let⟨y,r,rfl,z,t⟩:=h.of_cons;exact .cons_ z (IsL.take n t)
theorem IsL.erase:∀{xs:List V} {us:List U} (n:Nat),IsL K m H xs us->IsL K m H (xs.eraseIdx n) (us.eraseIdx n)
 |xs,[],n,h=>by rw[h.of_nil];exact .nil_
 |xs,d::ds,0,h=>by
  let⟨y,r,rfl,z,t⟩:=h.of_cons;exact t
 |xs,d::ds,n+1,h=>by
  let⟨y,r,rfl,z,t⟩:=h.of_cons;exact .cons_ z (IsL.erase n t)
theorem IsL.rep:∀(n:Nat),IsL K m H xs us->IsL K m H (QR n xs).flatten (QR n us).flatten
 |0,h=>.nil_
 |n+1,h=>by
  rw[XZ,XZ,XM,XM];exact h.append (IsL.rep n h)
theorem wJ(h:H a=some o)(nt:∀xs,o≠.tup xs)(nf:∀ob xs,o≠.frz ob (.tup xs))(nl:∀ob xs,o≠.frz ob (.lst xs))(nc:∀ob,o≠.frz ob (.own 0))(o':HO):yp K H (upd H a o'):=by
 refine⟨λb xs q=>?_,λb ns q=>?_,λb ob q=>by rw[aH (λz=>by subst z;rw[q]at h;cases h;exact nc _ rfl)];exact q⟩;rcases q with(q|⟨ob,q⟩)|q;have n:b≠a:=λz=>by subst z;rw[q]at h;cases h;exact nt _ rfl
 exact .inl (.inl (by rw[aH n];exact q));have n:b≠a:=λz=>by subst z;rw[q]at h;cases h;exact nf _ _ rfl
 exact .inl (.inr ⟨ob,by rw[aH n];exact q⟩);exact .inr q;rcases q with⟨ob,q⟩|q;have n:b≠a:=λz=>by subst z;rw[q]at h;cases h;exact nl _ _ rfl
 exact .inl ⟨ob,by rw[aH n];exact q⟩;exact .inr q
theorem cq(s:D8 H H'):yp K H H':=by
 refine⟨λb xs q=>?_,λb ns q=>?_,λb ob q=>s _ _ q⟩;rcases q with(q|⟨ob,q⟩)|q;exact .inl (.inl (s _ _ q));exact .inl (.inr ⟨ob,s _ _ q⟩);exact .inr q;rcases q with⟨ob,q⟩|q;exact .inl ⟨ob,s _ _ q⟩;exact .inr q
def bO(h:H q=none)(o':HO):yp K H (upd H q o'):=cq (fQ h o')
end
abbrev NK:=List (List Int)
def hNK(ks:NK):Int:=reduceHash (Builtin.Tuple.tupleHashOf (ks.map λk=>reduceHash (Builtin.Tuple.tupleHashOf (k.map hashInt))))
abbrev KN:List ((NK×Addr)×V)->List (NK×Addr×Q3)->Prop:=Paired λp q=>p.1.1=q.1/\p.1.2=q.2.1/\bS p.2 q.2.2
def dNo(a:Addr)(kvs:List ((NK×Addr)×V)):HO:=.ext λh=>kvs.length<=QU/\(a == sysModules)=false/\∃xs,KN kvs xs/\
 ∃o es ep,h.get? a=some o/\o.ExactDict/\o.data=.dict es ep/\es.toList=(xs.map λx=>(⟨hNK x.1,.ref x.2.1,x.2.2⟩:DictEntry))/\(xs.map (·.1)).Nodup
def LR(K:Q1)(H:Hp)(b:Addr)(k:NK):Prop:=∃cs:List Addr,SqT K H b (cs.map V.ref)/\Paired (λ(l:List Int) c=>SqT K H c (l.map V.int)) k cs
theorem LR.mono{K:Q1}{H H':Hp}{b:Addr}{k:NK}(e:yp K H H')(h:LR K H b k):LR K H' b k:=let ⟨cs,p,q⟩:=h;⟨cs,e.t _ _ p,Paired.mapP q λ_ _ z=>e.t _ _ z⟩
def nP(kvs:List ((NK×Addr)×V)):List (NK×V):=kvs.map λp=>(p.1.1,p.2)
def IsP{κ:Type}(K:Q1)(m:List Addr)(H:Hp)(kvs:List (κ×V))(kus:List (κ×U)):Prop:=kvs.map (·.1)=kus.map (·.1)/\IsL K m H (kvs.map (·.2)) (kus.map (·.2))
def Rf(K:Q1)(m:List Addr)(H:Hp):Option V->Option U->Prop
 |some v,some u=>Is K m H v u
 |none,none=>True
 |_,_=>False
structure InF(K:Q1)(m:List Addr)(H:Hp)(c:Cl)(fs:List (Str×V))(fus:List (Option U)):Prop where
 nd:c.ns.Nodup
 few:c.ns.length<1000
 knd:(fs.map (·.1)).Nodup
 sub:∀x∈fs.map (·.1),x∈c.ns
 len:fus.length=c.ns.length
 at_:∀(i:Nat) (x:Str),c.ns[i]?=some x->Rf K m H (fs.lookup x) ((fus[i]?).join)
theorem Rf.mono{K:Q1}{m m':List Addr}{H H':Hp}{v:Option V}{u:Option U}(e:Ext K m H m' H')(h:Rf K m H v u):Rf K m' H' v u:=by
 cases v with
 |none=>cases u with
  |none=>trivial
  |some u=>exact h.elim
 |some v=>cases u with
  |none=>exact h.elim
  |some u=>exact Is.mono e h
theorem InF.mono{K:Q1}{m m':List Addr}{H H':Hp}{c:Cl}{fs:List (Str×V)}{fus:List (Option U)}(e:Ext K m H m' H')(h:InF K m H c fs fus):InF K m' H' c fs fus:=⟨h.nd,h.few,h.knd,h.sub,h.len,λi x q=>(h.at_ i x q).mono e⟩
def D0(H:Hp)(pos:Pos)(q:Str)(ps:Array Q3):Prop:=TriplesOk ps.toList/\(codeAmong pos ps.toList=none\/∃c ob vs t,codeAmong pos ps.toList=some (.ref c)/\H c=some (.frz ob (.own 0))/\ob.data=.fields vs/\vs[1]?=some (.str q t))
theorem D0.mono{K:Q1}{H H':Hp}{pos:Pos}{q:Str}{ps:Array Q3}(e:yp K H H')(h:D0 H pos q ps):D0 H' pos q ps:=⟨h.1,h.2.imp id λ⟨c,ob,vs,t,h1,h2,h3⟩=>⟨c,ob,vs,t,h1,e.c _ _ h2,h3⟩⟩
def tQ(a C:Addr):HO:=.ext λh=>∃o,h.get? a=some o/\o.cls=.ref C/\o.dict=none/\∃vs,o.data=.fields vs
def Ob(K:Q1)(m:List Addr)(H:Hp)(a:Addr):O->Prop
 |.lst us=>∃xs,H a=some (.lst xs)/\IsL K m H xs us
 |.dic kus=>∃kvs,H a=some (.dK kvs)/\IsP K m H kvs kus
 |.ins c fus=>∃dx fs,H a=some (.ins c.C dx fs)/\InF K m H c fs fus
 |.fdc ep kus=>∃ob es kvs,H a=some (.frz ob (.dK kvs))/\ob.data=.dict es ep/\IsP K m H kvs kus
 |.dit kus=>∃kvs,H a=some (.dT kvs)/\IsP K m H kvs kus
 |.fdt ep kus=>∃ob es kvs,H a=some (.frz ob (.dT kvs))/\ob.data=.dict es ep/\IsP K m H kvs kus
 |.dnt kus=>∃kvs,H a=some (dNo a kvs)/\(∀p∈kvs,LR K H p.1.2 p.1.1)/\IsP K m H (nP kvs) kus
 |.fdn ep kus=>∃ob es kvs,H a=some (.frz ob (dNo a kvs))/\ob.data=.dict es ep/\(∀p∈kvs,LR K H p.1.2 p.1.1)/\IsP K m H (nP kvs) kus
 |.cod p pos q=>a=p/\∃ps,H a=some (.tbl ps)/\D0 H pos q ps
 |.exc C=>H a=some (tQ a C)
structure Sr(K:Q1)(m:List Addr)(S:Sto)(H:Hp):Prop where
 len:m.length=S.length
 nd:m.Nodup
 ob:∀(l:Nat) (a:Addr) (o:O),m[l]?=some a->S[l]?=some o->Ob K m H a o
structure Lr(K:Q1)(m:List Addr)(H:Hp)(ρ:Rho)(σ:L2.St):Prop where
 len:ρ.length=σ.length
 at_:∀(i:Nat) (u:U),ρ[i]?=some (some u)->∃v,σ[i]?=some (some v)/\Is K m H v u
variable{S:Sto}{ρ:Rho}{σ:L2.St}{l:Nat}
section
variable{κ:Type}{o:O}{ho:HO}{v:V}{u:U}{kvs:List (κ×V)}{kus:List (κ×U)}
def IsP.mono(e:Ext K m H m' H')(h:IsP K m H kvs kus):IsP K m' H' kvs kus:=⟨h.1,h.2.mono e⟩
def IsP.length(h:IsP K m H kvs kus):kvs.length=kus.length:=by have:=h.2.length;simpa using this
def IsP.nil_:IsP (κ:=κ) K m H [] []:=⟨rfl,.nil_⟩
theorem IsP.cons_{k:κ}(h:Is K m H v u)(t:IsP K m H kvs kus):IsP K m H ((k,v)::kvs) ((k,u)::kus):=⟨by simp[t.1],.cons_ h t.2⟩
theorem IsP.ind{P:List (κ×V)->List (κ×U)->Prop}(h0:P [] [])(h1:∀k v u kvs kus,Is K m H v u->IsP K m H kvs kus->P kvs kus->P ((k,v)::kvs) ((k,u)::kus)):∀{kvs:List (κ×V)} {kus:List (κ×U)},IsP K m H kvs kus->P kvs kus
 |[],[],_=>h0
 |[],p::r,h=>by have:=h.length;simp at this
 |p::r,[],h=>by have:=h.length;simp at this
 |(k,v)::r,(k',u)::r',h=>by
  let⟨e,i⟩:=h;simp only[QL,List.cons.injEq]at e;let⟨e1,e2⟩:=e;subst e1;let⟨x,t,e3,iu,it⟩:=i.of_cons;cases e3;exact h1 k v u r r' iu ⟨e2,it⟩ (IsP.ind h0 h1 (⟨e2,it⟩:IsP K m H r r'))
theorem Ob.mono(e:Ext K m H m' H')(h1:H' a=H a)(h:Ob K m H a o):Ob K m' H' a o:=by
 cases o with
 |lst us=>let⟨xs,k,i⟩:=h;exact⟨xs,h1.trans k,i.mono e⟩
 |dic kus=>let⟨xs,k,i⟩:=h;exact⟨xs,h1.trans k,i.mono e⟩
 |ins C fus=>let⟨dx,fs,k,i⟩:=h;exact⟨dx,fs,h1.trans k,i.mono e⟩
 |fdc ep kus=>let⟨ob,es,kvs,k,d,i⟩:=h;exact⟨ob,es,kvs,h1.trans k,d,i.mono e⟩
 |dit kus=>let⟨xs,k,i⟩:=h;exact⟨xs,h1.trans k,i.mono e⟩
 |fdt ep kus=>let⟨ob,es,kvs,k,d,i⟩:=h;exact⟨ob,es,kvs,h1.trans k,d,i.mono e⟩
 |dnt kus=>let⟨kvs,k,y,i⟩:=h;exact⟨kvs,h1.trans k,λp hp=>(y p hp).mono e.keep,i.mono e⟩
 |fdn ep kus=>let⟨ob,es,kvs,k,d,y,i⟩:=h;exact⟨ob,es,kvs,h1.trans k,d,λp hp=>(y p hp).mono e.keep,i.mono e⟩
 |cod p pos q=>let⟨z,ps,k,i⟩:=h;exact⟨z,ps,h1.trans k,i.mono e.keep⟩
 |exc C=>exact h1.trans h
theorem Ob.some(h:Ob K m H a o):∃ho,H a=some ho/\(∀xs,ho≠.tup xs)/\(∀ob xs,ho≠.frz ob (.tup xs))/\(∀ob xs,ho≠.frz ob (.lst xs))/\(∀ob,ho≠.frz ob (.own 0)):=by
 cases o with
 |lst us=>let⟨xs,k,i⟩:=h;exact⟨_,k,nofun,nofun,nofun,nofun⟩
 |dic kus=>let⟨xs,k,i⟩:=h;exact⟨_,k,nofun,nofun,nofun,nofun⟩
 |ins C fus=>let⟨dx,fs,k,i⟩:=h;exact⟨_,k,nofun,nofun,nofun,nofun⟩
 |fdc ep kus=>let⟨ob,es,kvs,k,d,i⟩:=h;exact⟨_,k,nofun,nofun,nofun,nofun⟩
 |dit kus=>let⟨xs,k,i⟩:=h;exact⟨_,k,nofun,nofun,nofun,nofun⟩
 |fdt ep kus=>let⟨ob,es,kvs,k,d,i⟩:=h;exact⟨_,k,nofun,nofun,nofun,nofun⟩
 |dnt kus=>let⟨kvs,k,y,i⟩:=h;exact⟨_,k,by simp[dNo],by simp[dNo],by simp[dNo],by simp[dNo]⟩
 |fdn ep kus=>let⟨ob,es,kvs,k,d,y,i⟩:=h;exact⟨_,k,nofun,by simp[dNo],by simp[dNo],by simp[dNo]⟩
 |cod p pos q=>let⟨z,ps,k,i⟩:=h;exact⟨_,k,nofun,nofun,nofun,nofun⟩
 |exc C=>exact⟨_,h,by simp[tQ],by simp[tQ],by simp[tQ],by simp[tQ]⟩
theorem Lr.mono(e:Ext K m H m' H')(h:Lr K m H ρ σ):Lr K m' H' ρ σ:=⟨h.len,λi u e1=>let ⟨v,e2,e3⟩:=h.at_ i u e1;⟨v,e2,e3.mono e⟩⟩
theorem Lr.set(h:Lr K m H ρ σ)(i:Nat)(hv:Is K m H v u):Lr K m H (ρ.set i (some u)) (σ.set i (some v)):=by
 refine⟨by simp[h.len],λj w e=>?_⟩;by_cases c:i=j;subst c;rw[List.getElem?_set_self' ]at e;rw[List.getElem?_set_self'];have hl:=h.len;cases e1:ρ[i]? with
 |none=>rw[e1]at e;simp at e
 |some z=>
  rw[e1]at e;simp at e;subst e;have:i < σ.length:=by rw[<-hl];exact(Q8.mp e1).1
  rw[Q7 this];exact⟨v,rfl,hv⟩
 rw[ZK c]at e;rw[ZK c];exact h.at_ j w e
theorem Sr.get(r:Sr K m S H)(h:S[l]?=some o):∃a,m[l]?=some a/\Ob K m H a o:=by
 have hl:l<m.length:=by rw[r.len];exact(Q8.mp h).1
 exact⟨_,Q7 hl,r.ob _ _ _ (Q7 hl) h⟩
theorem Sr.at_(r:Sr K m S H)(h:m[l]?=some a):∃o,S[l]?=some o/\Ob K m H a o:=by
 have hl:l<S.length:=by rw[<-r.len];exact(Q8.mp h).1
 exact⟨_,Q7 hl,r.ob _ _ _ h (Q7 hl)⟩
theorem Sr.same(r:Sr K m S H)(s:D8 H H'):Sr K m S H':=⟨r.len,r.nd,λl a o h1 h2=>by
 have q:=r.ob l a o h1 h2;let⟨ho,e,_⟩:=q.some;exact q.mono (.of (cq s)) (by rw[s _ _ e,e])⟩
theorem Sr.new(r:Sr K m S H)(h:H q=none)(n:Ob K (m++[q]) (upd H q ho) q o):Sr K (m++[q]) (S++[o]) (upd H q ho):=by
 have hq:q∉m:=λz=>by
  let⟨l,e⟩:=List.getElem?_of_mem z;let⟨o,_,k⟩:=r.at_ e;let⟨ho,e2,_⟩:=k.some;rw[h]at e2;cases e2
 refine⟨by simp[r.len],?_,λl a o' h1 h2=>?_⟩;rw[List.nodup_append];exact⟨r.nd,nofun,λx hx y hy z=>by simp at hy;subst hy;subst z;exact hq hx⟩;by_cases c:l<m.length;rw[Zy c]at h1;rw[Zy (by rw[<-r.len];exact c)]at h2;have q':=r.ob l a o' h1 h2;let⟨ho',e,_⟩:=q'.some;exact q'.mono (.new (bO h _)) (by rw[aH (c9 e h)]);have e:l=m.length:=by
  have:=(Q8.mp h1).1;simp at this;omega
 subst e;rw[Zk (QQ _)]at h1;rw[Zk (by rw[r.len];exact QQ _)]at h2;simp[r.len]at h1 h2;subst h1;subst h2;exact n
theorem Sr.put(r:Sr K m S H)(h:m[l]?=some a)(n:Ob K m (upd H a ho) a o):Sr K m (S.set l o) (upd H a ho):=by
 let⟨o0,h0,k0⟩:=r.at_ h;let⟨ho',e,nt,nf,nl,nc⟩:=k0.some;refine⟨by simp[r.len],r.nd,λl' a' o' h1 h2=>?_⟩;by_cases c:l=l';subst c;rw[h]at h1;cases h1;rw[XX (Q8.mp h0).1]at h2;cases h2;exact n;rw[ZK c]at h2;have na:a'≠a:=λz=>by
  subst z;let⟨p1,e1⟩:=Q8.mp h;let⟨p2,e2⟩:=Q8.mp h1;exact c ((List.getElem_inj r.nd).mp (e1.trans e2.symm))
 exact(r.ob l' a' o' h1 h2).mono (.of (wJ e nt nf nl nc _)) (by rw[aH na])
theorem Sr.keep(r:Sr K m S H)(h:m[l]?=some a)(ho:HO):yp K H (upd H a ho):=by
 let⟨o0,h0,k0⟩:=r.at_ h;let⟨ho',e,nt,nf,nl,nc⟩:=k0.some;exact wJ e nt nf nl nc _
end
def ll(K:Q1)(m:List Addr)(H:Hp)(Q:VK)(u:U)(S':Sto):Prop:=∀m' v H',Ext K m H m' H'->Sr K m' S' H'->Is K m' H' v u->Q v H'
abbrev CE:=Rho->Sto->Option (U×Sto)
abbrev CT:=Rho->Sto->Option (Bool×Sto)
abbrev CA:=Rho->Sto->Option (List U×Sto)
inductive Out where
 |nx|rt (u:U)|bk|ct
abbrev CS:=Rho->Sto->Option (Out×Rho×Sto)
def D9(K:Q1)(m:List Addr)(H:Hp)(Q:Bool->Hp->Prop)(b:Bool)(S':Sto):Prop:=∀m' H',Ext K m H m' H'->Sr K m' S' H'->Q b H'
def O2(K:Q1)(m:List Addr)(H:Hp)(Q:List V->Hp->Prop)(us:List U)(S':Sto):Prop:=∀m' vs H',Ext K m H m' H'->Sr K m' S' H'->IsL K m' H' vs us->Q vs H'
def iD(K:Q1)(m:List Addr)(H:Hp)(Q:L2.St->Hp->Prop)(ρ':Rho)(S':Sto):Prop:=∀m' σ' H',Ext K m H m' H'->Sr K m' S' H'->Lr K m' H' ρ' σ'->Q σ' H'
def yi(K:Q1)(m:List Addr)(H:Hp)(D:yk):Out->Rho->Sto->Prop
 |.nx,ρ',S'=>iD K m H D.nx ρ' S'
 |.bk,ρ',S'=>iD K m H D.bk ρ' S'
 |.ct,ρ',S'=>iD K m H D.ct ρ' S'
 |.rt u,_,S'=>ll K m H D.rt u S'
theorem kY{α β γ δ ε:Type}{A B C D:α->β->γ->δ->ε->Prop}{p:Prop}(h:∃a b c d e,A a b c d e/\B a b c d e/\C a b c d e/\D a b c d e)(f:∀a b c d e,A a b c d e->B a b c d e->C a b c d e->D a b c d e->p):p:=by
 let⟨a,b,c,d,e,h1,h2,h3,h4⟩:=h;exact f a b c d e h1 h2 h3 h4
theorem xZ{α β γ δ ε ζ:Type}{A B C D:α->β->γ->δ->ε->ζ->Prop}{p:Prop}(h:∃a b c d e g,A a b c d e g/\B a b c d e g/\C a b c d e g/\D a b c d e g)(f:∀a b c d e g,A a b c d e g->B a b c d e g->C a b c d e g->D a b c d e g->p):p:=by
 let⟨a,b,c,d,e,g,h1,h2,h3,h4⟩:=h;exact f a b c d e g h1 h2 h3 h4
theorem PY{α β γ δ ε ζ:Type}{A B C D E:α->β->γ->δ->ε->ζ->Prop}{p:Prop}(h:∃a b c d e g,A a b c d e g/\B a b c d e g/\C a b c d e g/\D a b c d e g/\E a b c d e g)(f:∀a b c d e g,A a b c d e g->B a b c d e g->C a b c d e g->D a b c d e g->E a b c d e g->p):p:=by
 let⟨a,b,c,d,e,g,h1,h2,h3,h4,h5⟩:=h;exact f a b c d e g h1 h2 h3 h4 h5
def tE(K:Q1)(c:CE):TE:=λσ H Q=>∃m ρ S u S',Sr K m S H/\Lr K m H ρ σ/\c ρ S=some (u,S')/\ll K m H Q u S'
def tT(K:Q1)(c:CT):TT:=λσ H Q=>∃m ρ S u S',Sr K m S H/\Lr K m H ρ σ/\c ρ S=some (u,S')/\D9 K m H Q u S'
def tA(K:Q1)(c:CA):TA:=λσ H Q=>∃m ρ S u S',Sr K m S H/\Lr K m H ρ σ/\c ρ S=some (u,S')/\O2 K m H Q u S'
def tS(K:Q1)(c:CS):TS:=λD σ H=>∃m ρ S o ρ' S',Sr K m S H/\Lr K m H ρ σ/\c ρ S=some (o,ρ',S')/\yi K m H D o ρ' S'
abbrev QE(X:Cx)(e:QF)(c:CE):Prop:=WE X e (tE X.K c)
abbrev QT(X:Cx)(e:QF)(c:CT):Prop:=WT X e (tT X.K c)
abbrev QW(X:Cx)(e:QF)(c:CT):Prop:=WW X e (tT X.K c)
abbrev QS(X:Cx)(e:ZC)(c:CS):Prop:=WS X e (tS X.K c)
abbrev QSs(X:Cx)(e:List ZC)(c:CS):Prop:=WSs X e (tS X.K c)
structure QA(X:Cx)(es:List QF)(c:CA):Prop where
 h:WA X es (tA X.K c)
 len:∀ρ S us S',c ρ S=some (us,S')->us.length=es.length
variable{X:Cx}{e:QF}{es:List QF}{st:ZC}{sts:List ZC}
theorem _root_.OG.WE.imp{t t':TE}(h:WE X e t)(i:∀σ H Q,t' σ H Q->t σ H Q):WE X e t':=⟨λb_ s σ H Q I k=>h.h b_ s σ H Q I (i σ H Q k)⟩
theorem _root_.OG.WT.imp{t t':TT}(h:WT X e t)(i:∀σ H Q,t' σ H Q->t σ H Q):WT X e t':=⟨λb_ s σ H Q I k=>h.h b_ s σ H Q I (i σ H Q k)⟩
theorem _root_.OG.WW.imp{t t':TT}(h:WW X e t)(i:∀σ H Q,t' σ H Q->t σ H Q):WW X e t':=⟨λwh b_ s σ H Q I k=>h.h wh b_ s σ H Q I (i σ H Q k)⟩
theorem _root_.OG.WA.imp{t t':TA}(h:WA X es t)(i:∀σ H Q,t' σ H Q->t σ H Q):WA X es t':=⟨λpos b_ s σ H Q I k=>h.h pos b_ s σ H Q I (i σ H Q k)⟩
theorem _root_.OG.WS.imp{t t':TS}(h:WS X st t)(i:∀D σ H,t' D σ H->t D σ H):WS X st t':=⟨λb_ s σ H D I k=>h.h b_ s σ H D I (i D σ H k)⟩
theorem _root_.OG.WSs.imp{t t':TS}(h:WSs X sts t)(i:∀D σ H,t' D σ H->t D σ H):WSs X sts t':=⟨λb_ s σ H D I k=>h.h b_ s σ H D I (i D σ H k)⟩
theorem _root_.OG.WI.imp{tg:QF}{t t':TI}(h:WI X tg e t)(i:∀σ H R,t' σ H R->t σ H R):WI X tg e t':=⟨λb_ s σ H R I k=>h.h b_ s σ H R I (i σ H R k)⟩
theorem _root_.OG.WG.imp{t t':TG}(h:WG X e t)(i:∀v σ H Q,t' v σ H Q->t v σ H Q):WG X e t':=⟨λb_ s σ H v u Q I r k=>h.h b_ s σ H v u Q I r (i v σ H Q k)⟩
theorem _root_.OG.WGs.imp{t t':TGs}(h:WGs X es t)(i:∀v σ H Q,t' v σ H Q->t v σ H Q):WGs X es t':=⟨λb_ s σ H v u Q I r k=>h.h b_ s σ H v u Q I r (i v σ H Q k)⟩
theorem _root_.OG.WE.or{t t':TE}(h:WE X e t)(h':WE X e t'):WE X e (λσ H Q=>t σ H Q\/t' σ H Q):=⟨λb_ s σ H Q I k=>k.elim (h.h b_ s σ H Q I) (h'.h b_ s σ H Q I)⟩
theorem _root_.OG.WT.or{t t':TT}(h:WT X e t)(h':WT X e t'):WT X e (λσ H Q=>t σ H Q\/t' σ H Q):=⟨λb_ s σ H Q I k=>k.elim (h.h b_ s σ H Q I) (h'.h b_ s σ H Q I)⟩
theorem _root_.OG.WS.or{t t':TS}(h:WS X st t)(h':WS X st t'):WS X st (λD σ H=>t D σ H\/t' D σ H):=⟨λb_ s σ H D I k=>k.elim (h.h b_ s σ H D I) (h'.h b_ s σ H D I)⟩
theorem _root_.OG.WI.or{tg:QF}{t t':TI}(h:WI X tg e t)(h':WI X tg e t'):WI X tg e (λσ H D=>t σ H D\/t' σ H D):=⟨λb_ s σ H D I k=>k.elim (h.h b_ s σ H D I) (h'.h b_ s σ H D I)⟩
section
variable{Q:VK}{R:L2.St->Hp->Prop}{D:yk}{u:U}{o:Out}{S':Sto}{ρ':Rho}
def ll.mono(e:Ext K m H m' H')(p:ll K m H Q u S'):ll K m' H' Q u S':=λm2 v H2 e2 r i=>p m2 v H2 (e.trans e2) r i
theorem D9.mono{Q:Bool->Hp->Prop}{b:Bool}(e:Ext K m H m' H')(p:D9 K m H Q b S'):D9 K m' H' Q b S':=λm2 H2 e2 r=>p m2 H2 (e.trans e2) r
theorem iD.mono(e:Ext K m H m' H')(p:iD K m H R ρ' S'):iD K m' H' R ρ' S':=λm2 v H2 e2 r i=>p m2 v H2 (e.trans e2) r i
theorem yi.mono(e:Ext K m H m' H')(p:yi K m H D o ρ' S'):yi K m' H' D o ρ' S':=by
 cases o with
 |nx=>exact iD.mono e p
 |rt u=>exact ll.mono e p
 |bk=>exact iD.mono e p
 |ct=>exact iD.mono e p
end
def LIM:Nat:=100000
def lim{n:Nat}(h:n<=LIM):n<=QU:=ZP h (by unfold LIM QU;decide)
def Ma{n:Nat}(h:n<LIM):n<QU:=QN h (by unfold LIM QU;decide)
def ah(i:Nat):CE:=λρ S=>match ρ[i]? with
 |some (some u)=>some (u,S)
 |_=>none
def cC(u:U):CE:=λ_ S=>some (u,S)
variable{b c:QF}{ca cb:CE}{pos:Pos}{ta tb:CT}
section
variable{a:QF}
theorem B7{i:Nat}(h:WE X e (LZ i)):QE X e (ah i):=h.imp λσ H Q hz=>kY hz λm ρ S u S' sr lr hc post=>by
 unfold ah at hc;split at hc;rename_i u' e;cases hc;let⟨v,e1,e2⟩:=lr.at_ i u e;exact⟨v,e1,post m v H .refl sr e2⟩;cases hc
theorem q_c{v:V}{u:U}(h:WE X e (tC v))(hi:∀m H,Is X.K m H v u):QE X e (cC u):=h.imp λσ H Q hz=>kY hz λm ρ S u' S' sr lr hc post=>by
 cases hc;exact post m v H .refl sr (hi m H)
def NP{i:Int}(h:WE X e (tC (.int i))):QE X e (cC (.int i)):=q_c h λ_ _=>.int_
def Qu{i:Bool}(h:WE X e (tC (.bl i))):QE X e (cC (.bl i)):=q_c h λ_ _=>.bl_
def NJ{i:Str}(h:WE X e (tC (.str i))):QE X e (cC (.str i)):=q_c h λ_ _=>.str_
def NN(h:WE X e (tC .non)):QE X e (cC .non):=q_c h λ_ _=>.non_
def cOp(f:U->U->Sto->Option (U×Sto))(ca cb:CE):CE:=λρ S=>(ca ρ S).bind λp=>(cb ρ p.2).bind λq=>f p.1 q.1 q.2
def OpP(K:Q1)(r:R2)(f:U->U->Sto->Option (U×Sto)):Prop:=
 ∀m S H x y v w u S' Q,Sr K m S H->Is K m H v x->Is K m H w y->f x y S=some (u,S')->ll K m H Q u S'->r v w H Q
theorem zJ{K:Q1}{r:R2}{f:U->U->Sto->Option (U×Sto)}(hp:OpP K r f):∀σ H Q,tE K (cOp f ca cb) σ H Q->tOp r (tE K ca) (tE K cb) σ H Q:=by
 rintro σ H Q ⟨m,ρ,S,u,S',sr,lr,hc,post⟩;let⟨⟨x,S1⟩,h1,h⟩:=Q0.mp hc;let⟨⟨y,S2⟩,h2,h3⟩:=Q0.mp h;exact⟨m,ρ,S,x,S1,sr,lr,h1,λm1 v1 H1 e1 sr1 i1=>⟨m1,ρ,S1,y,S2,sr1,lr.mono e1,h2,λm2 v2 H2 e2 sr2 i2=>hp m2 S2 H2 x y v1 v2 u S' Q sr2 (i1.mono e2) i2 h3 (post.mono (e1.trans e2))⟩⟩
theorem kE{op:Operator}{r:R2}{f:U->U->Sto->Option (U×Sto)}(ho:OpR X (binaryOp op) r)(hp:OpP X.K r f)(ha:QE X a ca)(hb:QE X b cb):QE X (.BinOp a op b pos) (cOp f ca cb):=(Ji ho ha hb).imp (zJ hp)
theorem pI{op:CmpOp}{r:R2}{f:U->U->Sto->Option (U×Sto)}(ho:OpR X (compareOp op) r)(hp:OpP X.K r f)(ha:QE X a ca)(hb:QE X b cb)(hm:behindInMarks op b=false):QE X (.Compare a [op] [b] pos) (cOp f ca cb):=(BM ho ha hb hm).imp (zJ hp)
def aG(c:CE):CT:=λρ S=>(c ρ S).bind λp=>match p.1 with
 |.bl b=>some (b,p.2)
 |_=>none
theorem lZ{K:Q1}{c:CE}{t:TE}(h:∀σ H Q,tE K c σ H Q->t σ H Q):∀σ H Q,tT K (aG c) σ H Q->t σ H λx H'=>∃k,x=.bl k/\Q k H':=by
 rintro σ H Q ⟨m,ρ,S,u,S',sr,lr,hc,post⟩;let⟨⟨x,S1⟩,h1,h2⟩:=Q0.mp hc;refine h σ H _ ⟨m,ρ,S,x,S1,sr,lr,h1,λm1 v1 H1 e1 sr1 i1=>?_⟩;cases x<;>simp at h2;let⟨rfl,rfl⟩:=h2;exact⟨_,i1.of_bl,post m1 H1 e1 sr1⟩
theorem aU{op:CmpOp}{r:R2}{f:U->U->Sto->Option (U×Sto)}(ho:OpR X (compareOp op) r)(hp:OpP X.K r f)(ha:QE X a ca)(hb:QE X b cb)(hm:behindInMarks op b=false):QT X (.Compare a [op] [b] pos) (aG (cOp f ca cb)):=(oU ho ha hb hm).imp (lZ (zJ hp))
theorem eK(h:QE X e ca)(he:∀M_,isTrue e X.env M_=(do let v <-M_;standAt e.pos;holding [v] (truthy v)):=by intro _;rfl):QT X e (aG ca):=(FC h he).imp (lZ λ_ _ _ z=>z)
variable{s_:List QF}
def A4(ta tb:CT):CT:=λρ S=>(ta ρ S).bind λp=>if p.1=true then tb ρ p.2 else some (false,p.2)
def cOr(ta tb:CT):CT:=λρ S=>(ta ρ S).bind λp=>if p.1=true then some (true,p.2)else tb ρ p.2
def sS(ta:CT):CT:=λρ S=>(ta ρ S).bind λp=>some (!p.1,p.2)
def wb(h:QW X e ta):QT X e ta:=WW.pt h
def rm(ha:QT X a ta):QW X (.BoolOp .And [a] pos) ta:=BB ha
def pH(ha:QT X a ta):QW X (.BoolOp .Or [a] pos) ta:=Fz ha
theorem xE(ha:QT X a ta)(hb:QW X (.BoolOp .And (b::s_) pos) tb):QW X (.BoolOp .And (a::b::s_) pos) (A4 ta tb):=(FA ha hb).imp λσ H Q hz=>kY hz λm ρ S u S' sr lr hc post=>by
 let⟨⟨x,S1⟩,h1,h2⟩:=Q0.mp hc;refine⟨m,ρ,S,x,S1,sr,lr,h1,λm1 H1 e1 sr1=>?_⟩;cases x with
 |true=>exact HZ ⟨m1,ρ,S1,u,S',sr1,lr.mono e1,h2,post.mono e1⟩
 |false=>cases h2;exact Ia (post m1 H1 e1 sr1)
theorem Bq(ha:QT X a ta)(hb:QW X (.BoolOp .Or (b::s_) pos) tb):QW X (.BoolOp .Or (a::b::s_) pos) (cOr ta tb):=(Je ha hb).imp λσ H Q hz=>kY hz λm ρ S u S' sr lr hc post=>by
 let⟨⟨x,S1⟩,h1,h2⟩:=Q0.mp hc;refine⟨m,ρ,S,x,S1,sr,lr,h1,λm1 H1 e1 sr1=>?_⟩;cases x with
 |true=>cases h2;exact HZ (post m1 H1 e1 sr1)
 |false=>exact Ia ⟨m1,ρ,S1,u,S',sr1,lr.mono e1,h2,post.mono e1⟩
theorem lH(ha:QT X a ta):QT X (.UnaryOp .Not a pos) (sS ta):=(FD ha).imp λσ H Q hz=>kY hz λm ρ S u S' sr lr hc post=>by
 let⟨⟨x,S1⟩,h1,h2⟩:=Q0.mp hc;cases h2;exact⟨m,ρ,S,x,_,sr,lr,h1,λm1 H1 e1 sr1=>post m1 H1 e1 sr1⟩
def Mu(ca cb:CE):CE:=λρ S=>(ca ρ S).bind λp=>match p.1 with
 |.bl false=>cb ρ p.2
 |.bl true=>some (.bl true,p.2)
 |_=>none
def NM{op}(h:QE X a ca):QE X (.BoolOp op [a] pos) ca:=FJ h
theorem NL(ha:QE X a ca)(hb:QE X (.BoolOp .Or (b::s_) pos) cb):QE X (.BoolOp .Or (a::b::s_) pos) (Mu ca cb):=(Jh ha hb).imp λσ H Q hz=>kY hz λm ρ S u S' sr lr hc post=>by
 let⟨⟨x,S1⟩,h1,h2⟩:=Q0.mp hc;refine⟨m,ρ,S,x,S1,sr,lr,h1,λm1 v1 H1 e1 sr1 i1=>?_⟩;cases x with
 |bl k=>
  refine⟨k,i1.of_bl,?_⟩;cases k with
  |false=>exact Ia ⟨m1,ρ,S1,u,S',sr1,lr.mono e1,h2,post.mono e1⟩
  |true=>cases h2;exact HZ (post m1 _ H1 e1 sr1 .bl_)
 |_=>simp at h2
variable{cr:CA}
def aE:CA:=λ_ S=>some ([],S)
def ag(ca:CE)(cr:CA):CA:=λρ S=>(ca ρ S).bind λp=>(cr ρ p.2).bind λq=>some (p.1::q.1,q.2)
theorem ay:QA X [] aE:=⟨kG.imp λσ H Q hz=>kY hz λm ρ S u S' sr lr hc post=>by cases hc;exact post m [] H .refl sr .nil_,λρ S us S' h=>by cases h;rfl⟩
theorem ae(ha:QE X e ca)(hr:QA X es cr)(hs:Q6 (e::es) X.env=(false,eval e X.env)::Q6 es X.env:=by rfl):QA X (e::es) (ag ca cr):=⟨(dj ha hr.h hs).imp λσ H Q hz=>kY hz λm ρ S u S' sr lr hc post=>by
 let⟨⟨x,S1⟩,h1,h⟩:=Q0.mp hc;let⟨⟨y,S2⟩,h2,h3⟩:=Q0.mp h;cases h3;exact⟨m,ρ,S,x,S1,sr,lr,h1,λm1 v1 H1 e1 sr1 i1=>⟨m1,ρ,S1,y,S2,sr1,lr.mono e1,h2,λm2 v2 H2 e2 sr2 i2=>post m2 _ H2 (e1.trans e2) sr2 (.cons_ (i1.mono e2) i2)⟩⟩,
 λρ S us S' h=>by
 let⟨⟨x,S1⟩,h1,h⟩:=Q0.mp h;let⟨⟨y,S2⟩,h2,h3⟩:=Q0.mp h;cases h3;simp[hr.len ρ S1 y S2 h2]⟩
def jh(cr:CA):CE:=λρ S=>(cr ρ S).bind λp=>some (.tup p.1,p.2)
def jn(cr:CA):CE:=λρ S=>(cr ρ S).bind λp=>some (.ref p.2.length,p.2++[.lst p.1])
def ed{m:List Addr}{S:Sto}{q:Addr}(h:m.length=S.length):(m++[q])[S.length]?=some q:=by rw[Zk ⋯];simp[h]
theorem pJ{K:Q1}{m:List Addr}{H:Hp}{S:Sto}{us:List U}{xs:List V}{Q:VK}{p:Addr}(sr:Sr K m S H)(i:IsL K m H xs us)(post:ll K m H Q (.tup us) S)(hp:H p=none):Q (.ref p) (upd H p (.tup xs)):=
 post m _ _ (.of (bO hp _)) (sr.same (fQ hp _)) (.tup_ (SqT.of aF) (i.mono (.of (bO hp _))))
theorem dC{K:Q1}{m:List Addr}{H:Hp}{S:Sto}{us:List U}{xs:List V}{Q:VK}{p:Addr}(sr:Sr K m S H)(i:IsL K m H xs us)(post:ll K m H Q (.ref S.length) (S++[.lst us]))(hp:H p=none):Q (.ref p) (upd H p (.lst xs)):=
 post (m++[p]) _ _ (.new (bO hp _)) (sr.new hp ⟨xs,aF,i.mono (.new (bO hp _))⟩) (.ref_ (ed sr.len))
theorem cZ{x1}(h:QA X es cr)(hl:es.length<=1000:=by exact ZG rfl):QE X (.Tuple es x1 pos) (jh cr):=(yH h.h).imp λσ H Q hz=>kY hz λm ρ S u S' sr lr hc post=>by
 let⟨⟨us,S1⟩,h1,h2⟩:=Q0.mp hc;cases h2;refine⟨m,ρ,S,us,_,sr,lr,h1,λm1 v1 H1 e1 sr1 i1=>⟨qX ?_,λp hp=>pJ sr1 i1 (post.mono e1) hp⟩⟩;rw[i1.length,h.len _ _ _ _ h1];exact hl
theorem e9(h:QA X es cr)(hl:es.length<=1000:=by exact ZG rfl):QE X (.List es pos) (jn cr):=(FL h.h).imp λσ H Q hz=>kY hz λm ρ S u S' sr lr hc post=>by
 let⟨⟨us,S1⟩,h1,h2⟩:=Q0.mp hc;cases h2;refine⟨m,ρ,S,us,_,sr,lr,h1,λm1 v1 H1 e1 sr1 i1=>⟨qX ?_,λp hp=>dC sr1 i1 (post.mono e1) hp⟩⟩;rw[i1.length,h.len _ _ _ _ h1];exact hl
def cCB(f:List U->Sto->Option (U×Sto))(cr:CA):CE:=λρ S=>(cr ρ S).bind λp=>f p.1 p.2
def lV(K:Q1)(r:List V->Hp->VK->Prop)(f:List U->Sto->Option (U×Sto)):Prop:=
 ∀m S H us vs u S' Q,Sr K m S H->IsL K m H vs us->f us S=some (u,S')->ll K m H Q u S'->r vs H Q
theorem E6{K:Q1}{r:List V->Hp->VK->Prop}{f:List U->Sto->Option (U×Sto)}(hp:lV K r f):∀σ H Q,tE K (cCB f cr) σ H Q->tCB r (tA K cr) σ H Q:=by
 rintro σ H Q ⟨m,ρ,S,u,S',sr,lr,hc,post⟩;let⟨⟨us,S1⟩,h1,h2⟩:=Q0.mp hc;exact⟨m,ρ,S,us,S1,sr,lr,h1,λm1 v1 H1 e1 sr1 i1=>hp m1 S1 H1 us v1 u S' Q sr1 i1 h2 (post.mono e1)⟩
theorem cL{id:String}{x:Str}{p:Pos}{r:List V->Hp->VK->Prop}{f:List U->Sto->Option (U×Sto)}(hc:ft X (.builtin id) r)(hp:lV X.K r f)(hg:Gl X x)(hm:X.mg x=none)(hv:ZS x=some (.builtin id))(ha:QA X (e::es) cr)(hn:x≠"__name__":=by decide)(hdb:(x == ("__debug__":Str))=false:=by decide)(he:Q6 (e::es) X.env=(false,eval e X.env)::Q6 es X.env:=by rfl)(hpl:(ZL pos (Q6 es X.env)).any (·.1)=false:=by rfl) :
  QE X (.Call (.Name x p) (e::es) [] pos) (cCB f cr):=(jV hc hg hm hv ha.h hn hdb he hpl).imp (E6 hp)
theorem fb{id:String}{x:Str}{p:Pos}{r:List V->Hp->VK->Prop}{f:List U->Sto->Option (U×Sto)}(hc:ft X (.type id) r)(hp:lV X.K r f)(hg:Gl X x)(hm:X.mg x=none)(hv:ZS x=some (.type id))(ha:QA X (e::es) cr)(hn:x≠"__name__":=by decide)(hdb:(x == ("__debug__":Str))=false:=by decide)(he:Q6 (e::es) X.env=(false,eval e X.env)::Q6 es X.env:=by rfl)(hpl:(ZL pos (Q6 es X.env)).any (·.1)=false:=by rfl) :
  QE X (.Call (.Name x p) (e::es) [] pos) (cCB f cr):=(xv hc hg hm hv ha.h hn hdb he hpl).imp (E6 hp)
end
def BV(K:Q1)(f:List U->Sto->Option (U×Sto)):Sp:=λvs H Q _=>∃m us S u S',IsL K m H vs us/\Sr K m S H/\f us S=some (u,S')/\ll K m H Q u S'
abbrev Fn:=List U->Sto->Option (U×Sto)
abbrev gG(P:Z7)(w:ZR)(K:Q1)(mg:Str->Option Q3)(base:Heap)(x:Str)(k:Nat)(ps:List Str)(f:Fn):Prop:=Has P w K mg base x k ps (BV K f)
def oz(n:Nat)(us:List U):Rho:=us.map some++QR (n-us.length) none
def fnU(n k:Nat)(c:CS):Fn:=λus S=>if us.length=k then(c (oz n us) S).bind λr=>match r.1 with
 |.rt u=>some (u,r.2.2)
 |.nx=>some (.non,r.2.2)
 |_=>none else none
section
variable{P:Z7}{w:ZR}{mg:Str->Option Q3}{base:Heap}{x:Str}{ps N:List Str}{k:Nat}{c:CS}{f:Fn}
theorem wD{m:List Addr}{H:Hp}{vs:List V}{us:List U}(i:IsL K m H vs us):Lr K m H (oz N.length us) (L2.jC N vs):=by
 have hl:=i.length;refine⟨by simp[oz,L2.jC,hl],λj u e=>?_⟩;unfold oz at e;unfold L2.jC;by_cases c:j<us.length;rw[Zy ‹c›,ZH]at e;rw[Zy (by simpa [hl] using c),ZH];rw[Q7 c]at e;simp at e;let⟨v,e1,e2⟩:=i.getD (Q7 c);rw[e1];subst e;exact⟨v,rfl,e2⟩
 ·rw[Zk ‹c›,X7]at e;split at e<;>cases e
theorem uN{X:Cx}{body:List ZC}{Q:VK}{E:XK}{vs:List V}{H:Hp}(hK:X.K=K)(h:BV K (fnU N.length ps.length c) vs H Q E):tS X.K c { nx:=λ_ H'=>Q .non H',rt:=Q } (L2.jC N vs) H:=by
 subst hK;let⟨m,us,S,u,S',i,sr,hf,post⟩:=h;unfold fnU at hf;split at hf;let⟨⟨o,ρ',S2⟩,h1,h2⟩:=Q0.mp hf;refine⟨m,_,S,o,ρ',S2,sr,wD i,h1,?_⟩;cases o with
 |rt v=>cases h2;exact post
 |nx=>cases h2;exact λm1 σ1 H1 e1 sr1 _=>post m1 _ H1 e1 sr1 .non_
 |bk=>simp at h2
 |ct=>simp at h2
 cases hf
theorem o7{vs:List V}{H:Hp}{Q:VK}{E:XK}{n k:Nat}(h:BV K (fnU n k c) vs H Q E):vs.length=k:=by
 let⟨m,us,S,u,S',i,sr,hf,post⟩:=h;unfold fnU at hf;split at hf;rename_i e;rw[i.length,e];cases hf
theorem _root_.OG.Def.pure(d:Def K mg x st ps)(S:aN N ps (ax st))
  (hb:∀(f:Addr) (cdv:Q3) (A:ZE) (outer:List Env) (s:Q4) (H:Hp) (E:XK),eN k (A.deeper (envOfC x (ax st) s.heap.objs.size f cdv))->
   WSs (sL CX0 P w K mg base N x (ax st) f cdv A outer s H E).nox (cM st) (tS K c)):gG P w K mg base x (k+1) ps (fnU N.length ps.length c):=
 d.has S (λvs H Q E h=>o7 h) λf cdv A outer s H vs Q E hr h=>⟨_,hb f cdv A outer s H E hr,uN (X:=(sL CX0 P w K mg base N x (ax st) f cdv A outer s H E).nox) (body:=[]) (ps:=ps) rfl h⟩
theorem a6{X:Cx}{e:QF}{es:List QF}{cr:CA}{p pos:Pos}(F:Has X.prog X.w X.K X.mg X.base x k ps (BV X.K f))(hr:eN k X.A)(hg:Gl X x)(ha:QA X (e::es) cr)
  (hdb:(x == ("__debug__":Str))=false:=by decide) (he:Q6 (e::es) X.env=(false,eval e X.env)::Q6 es X.env:=by rfl) (hpl:(ZL pos (Q6 es X.env)).any (·.1)=false:=by rfl) :
  QE X (.Call (.Name x p) (e::es) [] pos) (cCB f cr):=(Jk F hr hg ha.h hdb he hpl).imp λσ H Q hz=>kY hz λm ρ S u S' sr lr hc post=>by
 let⟨⟨us,S1⟩,h1,h2⟩:=Q0.mp hc;exact⟨m,ρ,S,us,S1,sr,lr,h1,λm1 v1 H1 e1 sr1 i1=>⟨m1,us,S1,u,S',by simpa using i1,sr1,h2,post.mono e1⟩⟩
end
variable{c1 c2:CS}
section
variable{a:QF}
def bI:CS:=λρ S=>some (.nx,ρ,S)
def aT(c1 c2:CS):CS:=λρ S=>(c1 ρ S).bind λr=>match r.1 with
 |.nx=>c2 r.2.1 r.2.2
 |o=>some (o,r.2.1,r.2.2)
theorem ba:QSs X [] bI:=BD.imp λD σ H hz=>xZ hz λm ρ S o ρ' S' sr lr hc post=>by cases hc;exact post m σ H .refl sr lr
theorem aw(h1:QS X st c1)(h2:QSs X sts c2):QSs X (st::sts) (aT c1 c2):=(mr h1 h2).imp λD σ H hz=>xZ hz λm ρ S o ρ' S' sr lr hc post=>by
 let⟨⟨o1,ρ1,S1⟩,h1,h2⟩:=Q0.mp hc;refine⟨m,ρ,S,o1,ρ1,S1,sr,lr,h1,?_⟩;cases o1 with
 |nx=>exact λm1 σ1 H1 e1 sr1 lr1=>⟨m1,ρ1,S1,o,ρ',S',sr1,lr1,h2,post.mono e1⟩
 |rt u=>cases h2;exact post
 |bk=>cases h2;exact post
 |ct=>cases h2;exact post
def aY(h1:QS X st c1):QSs X [st] c1:=BC h1
def oP:CS:=λ_ _=>none
def mf:QS X st oP:=yE.imp λD σ H hz=>xZ hz λm ρ S o ρ' S' sr lr hc post=>by cases hc
def gP(ca:CE):CS:=λρ S=>(ca ρ S).bind λp=>some (.nx,ρ,p.2)
theorem cm(he:QE X e ca)(hs:Zc e none pos.line X.env=pure false:=by rfl):QS X (.Expr e pos) (gP ca):=(vF he hs).imp λD σ H hz=>xZ hz λm ρ S o ρ' S' sr lr hc post=>by
 let⟨⟨u,S1⟩,h1,h2⟩:=Q0.mp hc;cases h2;exact⟨m,ρ,S,u,_,sr,lr,h1,λm1 v1 H1 e1 sr1 i1=>post m1 σ H1 e1 sr1 (lr.mono e1)⟩
def bV(ca:CE):CS:=λρ S=>(ca ρ S).bind λp=>some (.rt p.1,ρ,p.2)
theorem EA(he:QE X e ca):QS X (.Return (some e) pos) (bV ca):=(FE he).imp λD σ H hz=>xZ hz λm ρ S o ρ' S' sr lr hc post=>by
 let⟨⟨u,S1⟩,h1,h2⟩:=Q0.mp hc;cases h2;exact⟨m,ρ,S,u,_,sr,lr,h1,post⟩
def dh(t:CT)(c1 c2:CS):CS:=λρ S=>(t ρ S).bind λp=>if p.1=true then c1 ρ p.2 else c2 ρ p.2
theorem bB{t:CT}{s1 s2:List ZC}(hc:QT X c t)(h1:QSs X s1 c1)(h2:QSs X s2 c2):QS X (.If c s1 s2 pos) (dh t c1 c2):=(Em hc h1 h2).imp λD σ H hz=>xZ hz λm ρ S o ρ' S' sr lr hc post=>by
 let⟨⟨x,S1⟩,h1,h2⟩:=Q0.mp hc;refine⟨m,ρ,S,x,S1,sr,lr,h1,λm1 H1 e1 sr1=>?_⟩;cases x with
 |true=>exact HZ ⟨m1,ρ,S1,o,ρ',S',sr1,lr.mono e1,h2,post.mono e1⟩
 |false=>exact Ia ⟨m1,ρ,S1,o,ρ',S',sr1,lr.mono e1,h2,post.mono e1⟩
abbrev CG:=U->Rho->Sto->Option (Rho×Sto)
def tG(K:Q1)(g:CG):TG:=λv σ H Q=>∃m ρ S u ρ' S',Sr K m S H/\Lr K m H ρ σ/\Is K m H v u/\g u ρ S=some (ρ',S')/\iD K m H Q ρ' S'
abbrev QG(X:Cx)(e:QF)(g:CG):Prop:=WG X e (tG X.K g)
def gNm(i:Nat):CG:=λu ρ S=>some (ρ.set i (some u),S)
theorem cY{i:Nat}(h:WG X e (xY i)):QG X e (gNm i):=h.imp λv σ H Q hz=>PY hz λm ρ S u ρ' S' sr lr iu hc post=>by
 cases hc;exact post m _ H .refl sr (lr.set i iu)
def ig:List Nat->List U->Rho->Option Rho
 |[],[],ρ=>some ρ
 |i::is,u::us,ρ=>ig is us (ρ.set i (some u))
 |_,_,_=>none
def tGs(K:Q1)(is:List Nat):TGs:=λvs σ H Q=>∃m ρ S us ρ',Sr K m S H/\Lr K m H ρ σ/\IsL K m H vs us/\ig is us ρ=some ρ'/\iD K m H Q ρ' S
abbrev QGs(X:Cx)(es:List QF)(is:List Nat):Prop:=WGs X es (tGs X.K is)
theorem pF:QGs X [] []:=BI.imp λv σ H Q ⟨m,ρ,S,us,ρ',sr,lr,iu,hc,post⟩=>by
 cases us with
 |nil=>cases hc;exact⟨iu.of_nil,post m σ H .refl sr lr⟩
 |cons a r=>simp[ig]at hc
theorem fT{i:Nat}{is:List Nat}{es:List QF}(h:WG X e (xY i))(h2:QGs X es is)(hs:(assignEach (e::es) X.env).map (·.2)=assign e X.env::(assignEach es X.env).map (·.2):=by rfl):QGs X (e::es) (i::is):=(yG h h2 hs).imp λv σ H Q ⟨m,ρ,S,us,ρ',sr,lr,iu,hc,post⟩=>by
 cases us with
 |nil=>simp[ig]at hc
 |cons u r=>
  let⟨x,xr,rfl,i1,i2⟩:=iu.of_cons;exact⟨x,xr,rfl,m,ρ.set i (some u),S,r,ρ',sr,lr.set i i1,i2,hc,post⟩
def gTp(is:List Nat):CG:=λu ρ S=>match u with
 |.tup us=>(ig is us ρ).bind λρ'=>some (ρ',S)
 |_=>none
theorem oB:∀{is:List Nat} {us:List U} {ρ ρ':Rho},ig is us ρ=some ρ'->us.length=is.length
 |[],[],_,_,_=>rfl
 |[],_::_,_,_,h=>by simp[ig]at h
 |_::_,[],_,_,h=>by simp[ig]at h
 |i::is,u::us,ρ,ρ',h=>by
  have:=oB (is:=is) (us:=us) h;simp[this]
theorem wa{is:List Nat}{es:List QF}{k:Nat}(hc:X.calm=true)(h:QGs X es is)(hn:(assignEach es X.env).length=is.length:=by rfl)(hst:(assignEach es X.env).findIdx? (·.1)=none:=by rfl):QG X (.Tuple es k pos) (gTp is):=(FH hc h hn hst).imp λv σ H Q hz=>PY hz λm ρ S u ρ' S' sr lr iu hc post=>by
 cases u with
 |tup us=>
  let⟨ρ2,h1,h2⟩:=Q0.mp hc;cases h2;let⟨a,xs,rfl,sq,il⟩:=iu.of_tup;refine⟨a,xs,rfl,sq,?_,m,ρ,S,us,ρ',sr,lr,il,h1,post⟩;rw[il.length];exact oB h1
 |_=>simp[gTp]at hc
def HI(ca:CE)(g:CG):CS:=λρ S=>(ca ρ S).bind λp=>(g p.1 ρ p.2).bind λq=>some (.nx,q.1,q.2)
theorem HM{K:Q1}{g:CG}:∀D σ H,tS K (HI ca g) D σ H->JC (tE K ca) (tG K g) D σ H:=by
 rintro D σ H ⟨m,ρ,S,o,ρ',S',sr,lr,hc,post⟩;let⟨⟨u,S1⟩,h1,h2⟩:=Q0.mp hc;let⟨⟨ρ2,S2⟩,h3,h4⟩:=Q0.mp h2;cases h4;exact⟨m,ρ,S,u,S1,sr,lr,h1,λm1 v1 H1 e1 sr1 i1=>⟨m1,ρ,S1,u,_,_,sr1,lr.mono e1,i1,h3,iD.mono e1 post⟩⟩
theorem zi{tg:QF}{g:CG}(he:QE X e ca)(hg:QG X tg g)(hs:swapsWithSole [tg] e pos.line X.env=pure false:=by rfl)(hw:swappedStores [tg] e X.env=pure none:=by rfl)
  (h1:(assignEach [tg] X.env).map (·.2)=[assign tg X.env]:=by rfl):QS X (.Assign [tg] e pos) (HI ca g):=(yF he hg hs hw h1).imp HM
def cH(i:Nat)(ca:CE):CS:=λρ S=>(ca ρ S).bind λp=>some (.nx,ρ.set i (some p.1),p.2)
theorem JM{i:Nat}{x:Str}{g_:Pos}(hN:X.N.Nodup)(hi:X.N[i]?=some x)(hx:Loc X.env.scope x)(he:QE X e ca)(hs:Zc e (some (.Name x g_)) pos.line X.env=pure false:=by rfl)(hf:X.fn x=true\/X.env.scope.names.lookup x=some .local:=by first|exact .inl rfl|exact .inr rfl|assumption) :
  QS X (.Assign [.Name x g_] e pos) (cH i ca):=(yD hN hi hx he hs hf).imp λD σ H hz=>xZ hz λm ρ S o ρ' S' sr lr hc post=>by
 let⟨⟨u,S1⟩,h1,h2⟩:=Q0.mp hc;cases h2;exact⟨m,ρ,S,u,_,sr,lr,h1,λm1 v1 H1 e1 sr1 i1=>post m1 _ H1 e1 sr1 ((lr.mono e1).set i i1)⟩
abbrev CI:=Rho->Sto->Option (List U×(Sto->Prop)×Sto)
def Bu(K:Q1)(J:It)(m:List Addr)(H:Hp)(us:List U)(ok:Sto->Prop):Prop:=∀m2 S2 H2 i,Ext K m H m2 H2->Sr K m2 S2 H2->ok S2->
 (∀u,us[i]?=some u->J.go i H2/\∀x H3,J.yld i H2 x H3->Ext K m2 H2 m2 H3/\Sr K m2 S2 H3/\Is K m2 H3 x u)/\(us.length<=i->J.stop i H2)
def tI(K:Q1)(ci:CI):TI:=λσ H R=>∃m ρ S us ok S',Sr K m S H/\Lr K m H ρ σ/\ci ρ S=some (us,ok,S')/\∀m' H' J,Ext K m H m' H'->Sr K m' S' H'->Bu K J m' H' us ok->R J H'
abbrev QI(X:Cx)(tg iter:QF)(ci:CI):Prop:=WI X tg iter (tI X.K ci)
open Classical in
def dH(ok:Sto->Prop)(g:CG)(cb:CS):List U->CS
 |[]=>λρ S=>if ok S then some (.nx,ρ,S)else none
 |u::us=>λρ S=>if ok S then(g u ρ S).bind λp=>(cb p.1 p.2).bind λr=>match r.1 with
  |.nx=>dH ok g cb us r.2.1 r.2.2
  |.ct=>dH ok g cb us r.2.1 r.2.2
  |.bk=>some (.nx,r.2.1,r.2.2)
  |.rt v=>some (.rt v,r.2.1,r.2.2)else none
def oQ(ci:CI)(g:CG)(cb:CS):CS:=λρ S=>(ci ρ S).bind λp=>dH p.2.1 g cb p.1 ρ p.2.2
theorem nq{α:Type}{us:List α}{i:Nat}{u:α}(h:us[i]?=some u):us.drop i=u::us.drop (i+1):=by
 let⟨hl,e⟩:=Q8.mp h;rw[List.drop_eq_getElem_cons hl,e]
theorem pT{K:Q1}{g:CG}{cb:CS}{J:It}{us:List U}{ok:Sto->Prop}{D:yk}{m1:List Addr}{H1:Hp}{ρ ρ':Rho}{σ:L2.St}{S1 S':Sto}{o:Out}(sr1:Sr K m1 S1 H1)(lr1:Lr K m1 H1 ρ σ)(ito:Bu K J m1 H1 us ok)(h2:dH ok g cb us ρ S1=some (o,ρ',S'))(post:yi K m1 H1 D o ρ' S') :
  ∃W:Nat->Nat->L2.St->Hp->Prop,(∃n,W 0 n σ H1)/\∀i n σ H,W i n σ H->
   (J.stop i H/\D.nx σ H)\/(J.go i H/\∃N:L2.St->Hp->Prop,(∀σ' H',N σ' H'->∃n',n'<n/\W (i+1) n' σ' H')/\∀x H',J.yld i H x H'->tG K g x σ H' λσ2 H2=>tS K cb { D with nx:=N,ct:=N,bk:=D.nx } σ2 H2):=by
 let W:Nat->Nat->L2.St->Hp->Prop:=λi n σ2 H2=>n=us.length-i/\i<=us.length/\∃m2 ρ2 S2,Ext K m1 H1 m2 H2/\Sr K m2 S2 H2/\Lr K m2 H2 ρ2 σ2/\dH ok g cb (us.drop i) ρ2 S2=some (o,ρ',S')
 refine⟨W,⟨us.length,nofun,Zh _,m1,ρ,S1,.refl,sr1,lr1,by simpa using h2⟩,?_⟩;rintro i n σ2 H2 ⟨rfl,hi,m2,ρ2,S2,e2,sr2,lr2,hl⟩;by_cases hlt:i<us.length;have hu:=Q7 hlt;rw[nq hu]at hl;unfold dH at hl;split at hl;rename_i hok;let⟨⟨ρ3,S3⟩,h3,hl⟩:=Q0.mp hl;let⟨⟨o4,ρ4,S4⟩,h4,hl⟩:=Q0.mp hl;let⟨hgo,hy⟩:=(ito m2 S2 H2 i e2 sr2 hok).1 _ hu;refine .inr ⟨hgo,W (i+1) (us.length-(i+1)),λσ' H' w'=>⟨_,⋯,w'⟩,λx H3 y=>?_⟩;let⟨e3,sr3,ix⟩:=hy x H3 y;refine⟨m2,ρ2,S2,_,ρ3,S3,sr3,lr2.mono e3,ix,h3,λm4 σ4 H4 e4 sr4 lr4=>⟨m4,ρ3,S3,o4,ρ4,S4,sr4,lr4,h4,?_⟩⟩;have e14:=(e2.trans e3).trans e4;have nxt:dH ok g cb (us.drop (i+1)) ρ4 S4=some (o,ρ',S')->iD K m4 H4 (W (i+1) (us.length-(i+1))) ρ4 S4:=λhn m5 σ5 H5 e5 sr5 lr5=>⟨rfl,hlt,m5,ρ4,S4,e14.trans e5,sr5,lr5,hn⟩;cases o4 with
 |nx=>exact nxt hl
 |ct=>exact nxt hl
 |bk=>cases hl;exact iD.mono e14 post
 |rt v=>cases hl;exact ll.mono e14 post
 cases hl;have e:i=us.length:=by omega
 subst e;rw[List.drop_length]at hl;unfold dH at hl;split at hl;rename_i hok;cases hl;exact .inl ⟨(ito m2 _ H2 _ e2 sr2 hok).2 (QQ _),post m2 σ2 H2 e2 sr2 lr2⟩;cases hl
theorem Hw{K:Q1}{ci:CI}{g:CG}{cb:CS}:∀D σ H,tS K (oQ ci g cb) D σ H->Jx (tI K ci) (tG K g) (tS K cb) D σ H:=by
 rintro D σ H ⟨m,ρ,S,o,ρ',S',sr,lr,hc,post⟩;let⟨⟨us,ok,S1⟩,h1,h2⟩:=Q0.mp hc;exact⟨m,ρ,S,us,ok,S1,sr,lr,h1,λm1 H1 J e1 sr1 ito=>pT sr1 (lr.mono e1) ito h2 (yi.mono e1 post)⟩
theorem oE{tg iter:QF}{body:List ZC}{ci:CI}{g:CG}{cb:CS}(hp:PassesOwn (ZQ X.prog X.w) X.A X.env X.xe)(hc:X.calm=true)(hi:QI X tg iter ci)(hg:QG X tg g)(hb:QSs X body cb)(hs:∀x,foldedSetIterable iter X.env x=pure x:=by intro _;rfl):QS X (.For tg iter body [] pos) (oQ ci g cb):=(t6 hp hc hi hg hb hs).imp Hw
def iTp(ca:CE):CI:=λρ S=>(ca ρ S).bind λp=>match p.1 with
 |.tup us=>some (us,λ_=>True,p.2)
 |.ref l=>match p.2[l]? with
  |some (.lst us)=>some (us,λS=>S[l]?=some (.lst us),p.2)
  |_=>none
 |_=>none
theorem K9{K:Q1}{m:List Addr}{H:Hp}{us:List U}{a:Addr}{xs:List V}(sq:SqT K H a xs)(il:IsL K m H xs us):Bu K (Itt K a) m H us (λ_=>True):=by
 intro m2 S2 H2 i e2 sr2 _;have sq2:=e2.keep.t _ _ sq;have il2:=il.mono e2;refine⟨λu hu=>?_,λhi=>⟨xs,sq2,by rw[il2.length];exact hi⟩⟩;let⟨x,hx,ix⟩:=il2.getD hu;refine⟨⟨xs,x,sq2,hx⟩,λy H3 hy=>?_⟩;let⟨rfl,hy⟩:=hy;have:=hy xs sq2;rw[hx]at this;cases this;exact⟨.refl,sr2,ix⟩
theorem La{K:Q1}{m:List Addr}{H:Hp}{us:List U}{a:Addr}{l:Nat}(hl:m[l]?=some a):Bu K (Itl K a) m H us (λS=>S[l]?=some (.lst us)):=by
 intro m2 S2 H2 i e2 sr2 hok;let⟨a',ha',xs,hx,il⟩:=sr2.get hok;rw[e2.get hl]at ha';cases ha';refine⟨λu hu=>?_,λhi=>⟨xs,SqL.of hx,by rw[il.length];exact hi⟩⟩;let⟨x,hx',ix⟩:=il.getD hu;refine⟨⟨xs,x,SqL.of hx,hx'⟩,λy H3 hy=>?_⟩;let⟨rfl,hy⟩:=hy;have:=hy xs (SqL.of hx);rw[hx']at this;cases this;exact⟨.refl,sr2,ix⟩
theorem v8{tg:QF}(h:QE X e ca):QI X tg e (iTp ca):=((FG h).or (BH h)).imp λσ H R hz=>xZ hz λm ρ S us ok S' sr lr hc post=>by
 let⟨⟨u,S1⟩,h1,h2⟩:=Q0.mp hc;cases u with
 |tup ws=>
  cases h2;refine .inl ⟨m,ρ,S,.tup us,_,sr,lr,h1,λm1 v1 H1 e1 sr1 i1=>?_⟩;let⟨a,xs,rfl,sq,il⟩:=i1.of_tup;exact⟨a,rfl,⟨xs,sq⟩,post m1 H1 _ e1 sr1 (K9 sq il)⟩
 |ref l=>
  simp only at h2;split at h2;rename_i us' hS;cases h2;refine .inr ⟨m,ρ,S,.ref l,_,sr,lr,h1,λm1 v1 H1 e1 sr1 i1=>?_⟩;let⟨a,hl,rfl⟩:=i1.of_ref;let⟨a',ha',xs,hx,il⟩:=sr1.get hS;rw[hl]at ha';cases ha';exact⟨a,rfl,⟨xs,SqL.of hx⟩,post m1 H1 _ e1 sr1 (La hl)⟩;cases h2
 |_=>simp at h2
def jw(lo:Int)(n:Nat):List U:=(ZO n).map λi=>.int (lo+(i:Nat))
theorem Di{K:Q1}{m:List Addr}{H:Hp}{lo:Int}{n:Nat}:Bu K (Itr lo n) m H (jw lo n) (λ_=>True):=by
 intro m2 S2 H2 i e2 sr2 _;refine⟨λu hu=>?_,λhi=>by show n<=i;simpa [jw] using hi⟩;unfold jw at hu;rw[ZH]at hu;by_cases c:i<n;rw[List.getElem?_range c]at hu;simp at hu;subst hu;refine⟨c,λy H3 hy=>?_⟩;let⟨rfl,rfl⟩:=hy;exact⟨.refl,sr2,.int_⟩;rw[XB ‹c›]at hu;cases hu
def c6(cr:CA):CI:=λρ S=>(cr ρ S).bind λp=>match p.1 with
 |[.int j]=>if -(2^62)<=j/\j<2^62 then some (jw 0 j.toNat,λ_=>True,p.2)else none
 |_=>none
theorem iT{tg:QF}{cr:CA}{p:Pos}(hg:Gl X "range")(hm:X.mg "range"=none)(ha:QA X [a] cr)(hs:Q6 [a] X.env=[(false,eval a X.env)]:=by rfl):QI X tg (.Call (.Name "range" p) [a] [] pos) (c6 cr):=(xt hg hm ha.h hs).imp λσ H R hz=>xZ hz λm ρ S us ok S' sr lr hc post=>by
 let⟨⟨ws,S1⟩,h1,h2⟩:=Q0.mp hc;simp only at h2;split at h2;rename_i j;split at h2;rename_i hj;cases h2;refine⟨m,ρ,S,_,S',sr,lr,h1,λm1 v1 H1 e1 sr1 i1=>?_⟩;let⟨x,r,rfl,ix,ir⟩:=i1.of_cons;rw[ir.of_nil,ix.of_int];exact⟨j,rfl,hj.1,hj.2,post m1 H1 _ e1 sr1 Di⟩;cases h2;cases h2
end
def fI(g:Int->Int->Option U):U->U->Sto->Option (U×Sto)
 |.int i,.int j,S=>(g i j).bind λu=>some (u,S)
 |_,_,_=>none
section
theorem N8{C:Int->Int->Prop}{gV:Int->Int->V}{g:Int->Int->Option U}(h:∀i j u,g i j=some u->C i j/\∀m H,Is K m H (gV i j) u):OpP K (rI C gV) (fI g):=by
 intro m S H x y v w u S' Q sr ix iy hf post;cases x<;>cases y<;>simp only[fI]at hf<;>try cases hf
 rename_i i j;let⟨u1,h1,h2⟩:=Q0.mp hf;cases h2;let⟨hc,hi⟩:=h i j u h1;exact⟨i,j,ix.of_int,iy.of_int,hc,post m _ H .refl sr (hi m H)⟩
theorem Cz{gV:Int->Int->V}{g:Int->Int->Option U}(h:∀i j u,g i j=some u->∀m H,Is K m H (gV i j) u):OpP K (rI0 gV) (fI g):=by
 intro m S H x y v w u S' Q sr ix iy hf post;cases x<;>cases y<;>simp only[fI]at hf<;>try cases hf
 rename_i i j;let⟨u1,h1,h2⟩:=Q0.mp hf;cases h2;exact⟨i,j,ix.of_int,iy.of_int,post m _ H .refl sr (h i j u h1 m H)⟩
def B6(K:Q1):R2:=λx y H Q=>∃a b xs ys,x=.ref a/\y=.ref b/\SqT K H a xs/\SqT K H b ys/\xs.length+ys.length<=QU/\∀q H',D8 H H'->SqT K H' q (xs++ys)->Q (.ref q) H'
theorem G5:OpR X (binaryOp .Add) (B6 X.K):=by
 intro b_ s σ H x y v u Q I rx ry h;let⟨a,b,xs,ys,rfl,rfl,ha,hb,hz,q⟩:=h;by_cases e:xs=[];cases rx;cases ry;let⟨its,r1,p1,_⟩:=I.tuple ha;let⟨its2,r2,p2,_⟩:=I.tuple hb;refine DP p1 p2 (r1.nil_iff.mpr e) ⟨.ref b,H,I,rfl,q b H (.refl _) (by rw[e];exact hb)⟩;refine G4 b_ s σ H _ _ v u Q I rx ry ⟨a,b,xs,ys,rfl,rfl,ha,hb,e,hz,λz=>q a H (.refl _) (by rw[z,Zv];exact ha),λ_ p hp=>q p _ (fQ hp _) (SqT.of aF)⟩
def AD:U->U->Sto->Option (U×Sto)
 |.tup a,.tup b,S=>if a.length+b.length<=LIM then some (.tup (a++b),S)else none
 |_,_,_=>none
theorem Cw:OpP K (B6 K) AD:=by
 intro m S H x y v w u S' Q sr ix iy hf post;cases x<;>cases y<;>simp only[AD]at hf<;>try cases hf
 split at hf<;>try cases hf
 rename_i hl;let⟨a,xs,rfl,sa,la⟩:=ix.of_tup;let⟨b,ys,rfl,sb,lb⟩:=iy.of_tup;refine⟨a,b,xs,ys,rfl,rfl,sa,sb,lim (by rw[la.length,lb.length];exact hl),λq H' s sq=>?_⟩;exact post m _ H' (.of (cq s)) (sr.same s) (.tup_ sq ((la.append lb).mono (.of (cq s))))
def nh:U->U->Sto->Option (U×Sto)
 |.ref l,.ref k,S=>match S[l]?,S[k]? with
  |some (.lst a),some (.lst b)=>if a.length+b.length<=LIM then some (.ref S.length,S++[.lst (a++b)])else none
  |_,_=>none
 |_,_,_=>none
theorem CB:OpP K L6 nh:=by
 intro m S H x y v w u S' Q sr ix iy hf post;cases x<;>cases y<;>simp only[nh]at hf<;>try cases hf
 rename_i l k;split at hf<;>try cases hf
 rename_i a b h1 h2;split at hf<;>try cases hf
 rename_i hl;let⟨p,hp,rfl⟩:=ix.of_ref;let⟨q,hq,rfl⟩:=iy.of_ref;let⟨p',hp',xs,hx,il⟩:=sr.get h1;let⟨q',hq',ys,hy,il'⟩:=sr.get h2;rw[hp]at hp';cases hp';rw[hq]at hq';cases hq';exact⟨p,q,xs,ys,rfl,rfl,hx,hy,lim (by rw[il.length,il'.length];exact hl),λr hr=>dC sr (il.append il') post hr⟩
def AE:U->U->Sto->Option (U×Sto)
 |.str a,.str b,S=>if a.length+b.length<=LIM then some (.str (a++b),S)else none
 |_,_,_=>none
theorem Cy:OpP K (λx y H Q=>∃i j,x=.str i/\y=.str j/\i.length+j.length<=QU/\Q (.str (i++j)) H) AE:=by
 intro m S H x y v w u S' Q sr ix iy hf post;cases x<;>cases y<;>simp only[AE]at hf<;>try cases hf
 split at hf<;>try cases hf
 rename_i hl;exact⟨_,_,ix.of_str,iy.of_str,lim hl,post m _ H .refl sr .str_⟩
def sG:U->U->Sto->Option (U×Sto)
 |.int i,.int j,S=>some (.int (i+j),S)
 |.tup a,.tup b,S=>if a.length+b.length<=LIM then some (.tup (a++b),S)else none
 |.str a,.str b,S=>if a.length+b.length<=LIM then some (.str (a++b),S)else none
 |.ref l,.ref k,S=>nh (.ref l) (.ref k) S
 |_,_,_=>none
theorem mO:OpR X (binaryOp .Add) (λx y H Q=>rI0 (λi j=>.int (i+j)) x y H Q\/(L6 x y H Q\/(B6 X.K x y H Q\/∃i j,x=.str i/\y=.str j/\i.length+j.length<=QU/\Q (.str (i++j)) H))):=KD.or (KC.or (G5.or xK))
theorem mM:OpP K (λx y H Q=>rI0 (λi j=>.int (i+j)) x y H Q\/(L6 x y H Q\/(B6 K x y H Q\/∃i j,x=.str i/\y=.str j/\i.length+j.length<=QU/\Q (.str (i++j)) H))) sG:=by
 intro m S H x y v w u S' Q sr ix iy hf post;cases x<;>cases y<;>simp only[sG]at hf<;>try cases hf
 exact .inl ⟨_,_,ix.of_int,iy.of_int,post m _ H .refl sr .int_⟩;exact .inr (.inr (.inr (Cy m S H _ _ v w u S' Q sr ix iy hf post)));exact .inr (.inr (.inl (Cw m S H _ _ v w u S' Q sr ix iy hf post)));exact .inr (.inl (CB m S H _ _ v w u S' Q sr ix iy hf post))
instance {i j:Int}:Decidable (Bn i j):=by unfold Bn;exact inferInstance
def n9:=fI λi j=>if Bn i j then some (.int (i*j))else none
theorem rq:OpP K (rI Bn λi j=>.int (i*j)) n9:=N8 λi j u h=>by
 split at h;rename_i c;cases h;exact⟨c,λm H=>.int_⟩;cases h
instance {i j:Int}:Decidable (yl i j):=by unfold yl;exact inferInstance
def EX:=fI λi j=>if yl i j then some (.int (i / j))else none
theorem Kt:OpP K (rI yl λi j=>.int (i / j)) EX:=N8 λi j u h=>by
 split at h;rename_i c;cases h;exact⟨c,λm H=>.int_⟩;cases h
def uS:=fI λi j=>if 0<j then some (.int (i % j))else none
theorem zF:OpP K (rI (λ_ j=>0<j) λi j=>.int (i % j)) uS:=N8 λi j u h=>by
 split at h;rename_i c;cases h;exact⟨c,λm H=>.int_⟩;cases h
instance {i j:Int}:Decidable (Qa i j):=by unfold Qa;exact inferInstance
def fLt:=fI λi j=>some (.bl (decide (i<j)))
def fLe:=fI λi j=>some (.bl (decide (i<=j)))
def fGt:=fI λi j=>some (.bl (decide (j<i)))
def fGe:=fI λi j=>some (.bl (decide (j<=i)))
def L8:OpP K (rI0 λi j=>.bl (decide (i<j))) fLt:=Cz λi j u h m H=>by cases h;exact .bl_
def Qv:OpP K (rI0 λi j=>.bl (decide (i<=j))) fLe:=Cz λi j u h m H=>by cases h;exact .bl_
def HX:OpP K (rI0 λi j=>.bl (decide (j<i))) fGt:=Cz λi j u h m H=>by cases h;exact .bl_
def Oe:OpP K (rI0 λi j=>.bl (decide (j<=i))) fGe:=Cz λi j u h m H=>by cases h;exact .bl_
def eqS:U->U->Option Bool
 |.int i,.int j=>some (decide (i=j))
 |.bl i,.bl j=>some (decide (i=j))
 |.str i,.str j=>some (decide (i=j))
 |.non,.non=>some true
 |.non,.int _=>some false|.int _,.non=>some false
 |.non,.bl _=>some false|.bl _,.non=>some false
 |.non,.str _=>some false|.str _,.non=>some false
 |.int _,.str _=>some false|.str _,.int _=>some false
 |.bl _,.str _=>some false|.str _,.bl _=>some false
 |_,_=>none
def fEq:U->U->Sto->Option (U×Sto):=λx y S=>(eqS x y).bind λb=>some (.bl b,S)
def fNe:U->U->Sto->Option (U×Sto):=λx y S=>(eqS x y).bind λb=>some (.bl (!b),S)
theorem E1{m:List Addr}{H:Hp}{x y:U}{v w:V}{b:Bool}(ix:Is K m H v x)(iy:Is K m H w y)(h:eqS x y=some b):NC v w=true/\decide (v=w)=b:=by
 cases x<;>cases y<;>simp only[eqS]at h<;>(first|cases h|skip);all_goals
  (first|(have e1:=ix.of_int)|(have e1:=ix.of_bl)|(have e1:=ix.of_str)|(have e1:=ix.of_non))
  (first|(have e2:=iy.of_int)|(have e2:=iy.of_bl)|(have e2:=iy.of_str)|(have e2:=iy.of_non))
  subst e1 e2;exact⟨rfl,nofun⟩
theorem nT:OpP K rEq fEq:=by
 intro m S H x y v w u S' Q sr ix iy hf post;let⟨b,h1,h2⟩:=Q0.mp hf;cases h2;let⟨e1,e2⟩:=E1 ix iy h1;exact⟨e1,by rw[e2];exact post m _ H .refl sr .bl_⟩
theorem Kq:OpP K rNe fNe:=by
 intro m S H x y v w u S' Q sr ix iy hf post;let⟨b,h1,h2⟩:=Q0.mp hf;cases h2;let⟨e1,e2⟩:=E1 ix iy h1;exact⟨e1,by rw[e2];exact post m _ H .refl sr .bl_⟩
def rQ:U->Bool
 |.non=>true
 |_=>false
def Dz:U->U->Sto->Option (U×Sto)
 |x,.non,S=>some (.bl (rQ x),S)
 |_,_,_=>none
def uQ:U->U->Sto->Option (U×Sto)
 |x,.non,S=>some (.bl (!rQ x),S)
 |_,_,_=>none
theorem wM{m:List Addr}{H:Hp}{x:U}{v:V}(ix:Is K m H v x):decide (v=.non)=rQ x:=by
 cases x with
 |non=>rw[ix.of_non];rfl
 |bl b=>rw[ix.of_bl];rfl
 |int i=>rw[ix.of_int];rfl
 |str i=>rw[ix.of_str];rfl
 |tup us=>let⟨a,xs,rfl,_⟩:=ix.of_tup;rfl
 |ref l=>let⟨a,_,rfl⟩:=ix.of_ref;rfl
 |kl ns=>let⟨a,rfl,_⟩:=ix.of_kl;rfl
theorem CD:OpP K (λx y H Q=>y=.non/\Q (.bl (decide (x=.non))) H) Dz:=by
 intro m S H x y v w u S' Q sr ix iy hf post;cases y<;>simp only[Dz]at hf<;>cases hf;exact⟨iy.of_non,by rw[wM ix];exact post m _ H .refl sr .bl_⟩
theorem zE:OpP K (λx y H Q=>y=.non/\Q (.bl (!decide (x=.non))) H) uQ:=by
 intro m S H x y v w u S' Q sr ix iy hf post;cases y<;>simp only[uQ]at hf<;>cases hf;exact⟨iy.of_non,by rw[wM ix];exact post m _ H .refl sr .bl_⟩
section
variable{κ:Type}[DecidableEq κ]
def aZ{α:Type}(kvs:List (κ×α))(k:κ):Option α:=(kvs.find? λkv=>decide (kv.1=k)).map (·.2)
def dJ{α:Type}(kvs:List (κ×α))(k:κ)(v:α):List (κ×α):=
 if (kvs.any λkv=>decide (kv.1=k))=true then kvs.map (λkv=>if kv.1=k then(kv.1,v)else kv)else kvs++[(k,v)]
variable{m:List Addr}{H:Hp}{kvs:List (κ×V)}{kus:List (κ×U)}{k:κ}{v:V}{u:U}
theorem IsP.val(h:IsP K m H kvs kus):Rf K m H (jr kvs k) (aZ kus k):=by
 refine IsP.ind (P:=λkvs kus=>Rf K m H (jr kvs k) (aZ kus k)) trivial (λk' v u kvs kus i _ ih=>?_) h;by_cases e:k'=k;subst e;simp[jr,aZ,Zj,Rf,i];simp only[jr,aZ,Zj,Xq e]at ih ⊢;exact ih
theorem IsP.any_(h:IsP K m H kvs kus):(kvs.any λkv=>decide (kv.1=k))=(kus.any λkv=>decide (kv.1=k)):=
 IsP.ind (P:=λkvs kus=>(kvs.any λkv=>decide (kv.1=k))=(kus.any λkv=>decide (kv.1=k))) rfl (λk' v u kvs kus i _ ih=>by simp only[Zn,ih]) h
theorem IsP.append{R0:List (κ×V)}{O_:List (κ×U)}(h:IsP K m H kvs kus)(h':IsP K m H R0 O_):IsP K m H (kvs++R0) (kus++O_):=⟨by simp[h.1,h'.1],by simpa using h.2.append h'.2⟩
theorem IsP.put(h:IsP K m H kvs kus)(i:Is K m H v u):IsP K m H (nN kvs k v) (dJ kus k u):=by
 unfold nN dJ;rw[h.any_];split;refine IsP.ind (P:=λkvs kus=>IsP K m H (kvs.map λkv=>if kv.1=k then(kv.1,v)else kv) (kus.map λkv=>if kv.1=k then(kv.1,u)else kv)) .nil_ (λk' v' u' kvs kus i' _ ih=>?_) h;simp only[QL];by_cases e:k'=k;simp only[e,if_true];exact .cons_ i ih;simp only[e,if_false];exact .cons_ i' ih;exact h.append (.cons_ i .nil_)
end
def lJ:U->Option Key
 |.int i=>some (.inl i)
 |.str x=>some (.inr x)
 |_=>none
theorem iW{m:List Addr}{H:Hp}{x:U}{v:V}{k:Key}(ix:Is K m H v x)(h:lJ x=some k):v=kV k:=by
 cases x<;>simp only[lJ]at h<;>cases h;exact ix.of_int;exact ix.of_str
def lS:U->Bool
 |.non=>true|.bl _=>true|.int _=>true|.str _=>true|_=>false
def eqF:U->U->Bool
 |.non,.non=>true
 |.bl a,.bl b=>a == b
 |.bl a,.int b=>(if a then 1 else 0) == b
 |.int a,.bl b=>a == (if b then 1 else 0)
 |.int a,.int b=>a == b
 |.str a,.str b=>a == b
 |_,_=>false
def inU(x:U)(us:List U):Bool:=us.any λy=>eqF y x
theorem uO{m:List Addr}{H:Hp}{x:U}{v:V}(ix:Is K m H v x)(h:lS x=true):n8 v=true:=by
 cases x with
 |non=>rw[ix.of_non];rfl
 |bl b=>rw[ix.of_bl];rfl
 |int i=>rw[ix.of_int];rfl
 |str i=>rw[ix.of_str];rfl
 |tup us=>cases h
 |ref l=>cases h
 |kl l=>cases h
theorem Ln{m:List Addr}{H:Hp}{x y:U}{v w:V}(ix:Is K m H v x)(iy:Is K m H w y)(hx:lS x=true)(hy:lS y=true):eqV v w=eqF x y:=by
 cases x<;>(first|cases hx|skip)<;>cases y<;>(first|cases hy|skip);all_goals
  (first|(have e1:=ix.of_int)|(have e1:=ix.of_bl)|(have e1:=ix.of_str)|(have e1:=ix.of_non))
  (first|(have e2:=iy.of_int)|(have e2:=iy.of_bl)|(have e2:=iy.of_str)|(have e2:=iy.of_non))
  subst e1 e2;rfl
theorem qh{m:List Addr}{H:Hp}:∀{xs:List V} {us:List U},IsL K m H xs us->us.all lS=true->xs.all n8=true
 |xs,[],h,_=>by rw[h.of_nil];rfl
 |xs,u::us,h,k=>by
  let⟨x,r,rfl,i,t⟩:=h.of_cons;rw[List.all_cons,Zl]at k ⊢;exact⟨uO i k.1,qh t k.2⟩
theorem Av{m:List Addr}{H:Hp}{x:U}{v:V}(ix:Is K m H v x)(hx:lS x=true):∀{xs:List V} {us:List U},IsL K m H xs us->us.all lS=true->inV v xs=inU x us
 |xs,[],h,_=>by rw[h.of_nil];rfl
 |xs,u::us,h,k=>by
  let⟨y,r,rfl,i,t⟩:=h.of_cons;rw[List.all_cons,Zl]at k;have ih:=Av ix hx t k.2;unfold inV inU at ih ⊢;rw[Zn,Zn,ih,Ln i ix k.1 hx]
theorem _root_.L2.DGet.kz{H:Hp}{a:Addr}{ob:Obj}{kvs:List (Key×V)}{k:Key}(e:H a=some (.frz ob (.dK kvs))):DGet H a (kV k) (jr kvs k):=.inl ⟨kvs,k,.inr ⟨ob,e⟩,rfl,rfl⟩
def fIn(neg:Bool):U->U->Sto->Option (U×Sto):=λx y S=>match y with
 |.tup us=>if lS x=true/\us.all lS=true then some (.bl (if neg then !inU x us else inU x us),S)else none
 |.ref l=>match S[l]? with
  |some (.lst us)=>if lS x=true/\us.all lS=true then some (.bl (if neg then !inU x us else inU x us),S)else none
  |some (.dic kus)=>(lJ x).bind λk=>some (.bl (if neg then !(aZ kus k).isSome else(aZ kus k).isSome),S)
  |some (.fdc ep kus)=>(lJ x).bind λk=>some (.bl (if neg then !(aZ kus k).isSome else(aZ kus k).isSome),S)
  |_=>none
 |_=>none
theorem Rf.isSome{m:List Addr}{H:Hp}{v:Option V}{u:Option U}(h:Rf K m H v u):v.isSome=u.isSome:=by
 cases v<;>cases u<;>first|rfl|exact h.elim
theorem ER{ca cb:CE}{neg:Bool}(t2:TE->TE->TE)(h2:∀ta tb σ H Q,(ta σ H λy H1=>tb σ H1 λx H2=>∃a o,x=.ref a/\DGet H2 a y o/\Q (.bl (if neg then !o.isSome else o.isSome)) H2)->t2 ta tb σ H Q):∀σ H Q,tE K (cOp (fIn neg) ca cb) σ H Q->tOp (rIn K neg) (tE K ca) (tE K cb) σ H Q\/t2 (tE K ca) (tE K cb) σ H Q:=by
 rintro σ H Q ⟨m,ρ,S,u,S',sr,lr,hc,post⟩;let⟨⟨x,S1⟩,h1,h⟩:=Q0.mp hc;let⟨⟨y,S2⟩,h3,h4⟩:=Q0.mp h;cases y with
 |tup us=>
  simp only[fIn]at h4;split at h4<;>try cases h4
  rename_i hf;refine .inl ⟨m,ρ,S,x,S1,sr,lr,h1,λm1 v1 H1 e1 sr1 i1=>⟨m1,ρ,S1,.tup us,S',sr1,lr.mono e1,h3,λm2 v2 H2 e2 sr2 i2=>?_⟩⟩;let⟨a,xs,rfl,sa,la⟩:=i2.of_tup;refine⟨a,xs,rfl,.inr sa,uO (i1.mono e2) hf.1,qh la hf.2,?_⟩;rw[Av (i1.mono e2) hf.1 la hf.2];exact post m2 _ H2 (e1.trans e2) sr2 .bl_
 |ref l=>
  simp only[fIn]at h4;split at h4<;>try cases h4
  ·rename_i us hS;split at h4<;>try cases h4
   rename_i hf;refine .inl ⟨m,ρ,S,x,S1,sr,lr,h1,λm1 v1 H1 e1 sr1 i1=>⟨m1,ρ,S1,.ref l,S',sr1,lr.mono e1,h3,λm2 v2 H2 e2 sr2 i2=>?_⟩⟩;let⟨a,ha,rfl⟩:=i2.of_ref;let⟨a',ha',xs,hx,la⟩:=sr2.get hS;rw[ha]at ha';cases ha';refine⟨a,xs,rfl,.inl (SqL.of hx),uO (i1.mono e2) hf.1,qh la hf.2,?_⟩;rw[Av (i1.mono e2) hf.1 la hf.2];exact post m2 _ H2 (e1.trans e2) sr2 .bl_
  rename_i kus hS;let⟨k,hk,h5⟩:=Q0.mp h4;cases h5;refine .inr (h2 _ _ _ _ _ ⟨m,ρ,S,x,S1,sr,lr,h1,λm1 v1 H1 e1 sr1 i1=>⟨m1,ρ,S1,.ref l,S',sr1,lr.mono e1,h3,λm2 v2 H2 e2 sr2 i2=>?_⟩⟩);let⟨a,ha,rfl⟩:=i2.of_ref;let⟨a',ha',kvs,hx,ip⟩:=sr2.get hS;rw[ha]at ha';cases ha';have ek:=iW (i1.mono e2) hk;subst ek;refine⟨a,_,rfl,DGet.k hx,?_⟩;rw[(IsP.val ip).isSome];exact post m2 _ H2 (e1.trans e2) sr2 .bl_;rename_i ep kus hS;let⟨k,hk,h5⟩:=Q0.mp h4;cases h5;refine .inr (h2 _ _ _ _ _ ⟨m,ρ,S,x,S1,sr,lr,h1,λm1 v1 H1 e1 sr1 i1=>⟨m1,ρ,S1,.ref l,S',sr1,lr.mono e1,h3,λm2 v2 H2 e2 sr2 i2=>?_⟩⟩);let⟨a,ha,rfl⟩:=i2.of_ref;let⟨a',ha',ob,es,kvs,hx,hd,ip⟩:=sr2.get hS;rw[ha]at ha';cases ha';have ek:=iW (i1.mono e2) hk;subst ek;refine⟨a,_,rfl,DGet.kz hx,?_⟩;rw[(IsP.val ip).isSome];exact post m2 _ H2 (e1.trans e2) sr2 .bl_
 |_=>simp[fIn]at h4
variable{a:QF}
theorem xD(hu:X.A.units+1<cLine)(ha:QE X a ca)(hb:QE X b cb)(hm:behindInMarks .In b=false):QT X (.Compare a [.In] [b] pos) (aG (cOp (fIn false) ca cb)):=
 ((oU zI ha hb hm).or (yC (FP hu ha hb) hm)).imp (lZ (ER (neg:=false) NB λ_ _ _ _ _ h=>h))
theorem pG(hu:X.A.units+1<cLine)(ha:QE X a ca)(hb:QE X b cb)(hm:behindInMarks .NotIn b=false):QT X (.Compare a [.NotIn] [b] pos) (aG (cOp (fIn true) ca cb)):=
 ((oU rB ha hb hm).or (yC (xw hu ha hb) hm)).imp (lZ (ER (neg:=true) ue λ_ _ _ _ _ h=>h))
def fIx:U->U->Sto->Option (U×Sto):=λx y S=>match x with
 |.tup us=>match y with
  |.int i=>(atI us i).bind λu=>some (u,S)
  |_=>none
 |.ref l=>match S[l]? with
  |some (.lst us)=>(match y with
   |.int i=>(atI us i).bind λu=>some (u,S)
   |_=>none)
  |some (.dic kus)=>(lJ y).bind λk=>(aZ kus k).bind λu=>some (u,S)
  |some (.fdc ep kus)=>(lJ y).bind λk=>(aZ kus k).bind λu=>some (u,S)
  |_=>none
 |.kl ns=>match y with
  |.int i=>(atI (ns.map U.int) i).bind λu=>some (u,S)
  |_=>none
 |_=>none
theorem wN{K:Q1}{m:List Addr}{H:Hp}:∀ns:List Int,IsL K m H (ns.map V.int) (ns.map U.int)
 |[]=>.nil_
 |n::ns=>.cons_ .int_ (wN ns)
theorem A8{m:List Addr}{H:Hp}{xs:List V}{us:List U}{i:Int}{u:U}(l:IsL K m H xs us)(h:atI us i=some u):∃v,atI xs i=some v/\Is K m H v u:=by
 unfold atI at h ⊢;rw[l.length];let⟨j,e1,e2⟩:=Q0.mp h;rw[e1];let⟨v,e3,e4⟩:=l.getD e2;exact⟨v,e3,e4⟩
theorem Pp(hu:X.A.units+1<cLine)(ha:QE X a ca)(hb:QE X b cb)(hs:vm b)(hs2:LM b):QE X (.Subscript a b pos) (cOp fIx ca cb):=
 ((Jj (Ho.or K8) ha hb hs).or (BL hu ha hb hs2)).imp λσ H Q hz=>kY hz λm ρ S u S' sr lr hc post=>by
 let⟨⟨x,S1⟩,h1,h⟩:=Q0.mp hc;let⟨⟨y,S2⟩,h3,h4⟩:=Q0.mp h;cases x with
 |tup us=>
  simp only[fIx]at h4;split at h4<;>try cases h4
  rename_i i;let⟨w,hw,h5⟩:=Q0.mp h4;cases h5;refine .inl ⟨m,ρ,S,_,S1,sr,lr,h1,λm1 v1 H1 e1 sr1 i1=>⟨m1,ρ,S1,_,S',sr1,lr.mono e1,h3,λm2 v2 H2 e2 sr2 i2=>.inr ?_⟩⟩;let⟨a,xs,rfl,sa,la⟩:=(i1.mono e2).of_tup;let⟨z,ez,iz⟩:=A8 la hw;exact⟨a,xs,i,z,rfl,i2.of_int,sa,ez,post m2 _ H2 (e1.trans e2) sr2 iz⟩
 |ref l=>
  simp only[fIx]at h4;split at h4<;>try cases h4
  ·rename_i us hS;split at h4<;>try cases h4
   rename_i i;let⟨w,hw,h5⟩:=Q0.mp h4;cases h5;refine .inl ⟨m,ρ,S,_,S1,sr,lr,h1,λm1 v1 H1 e1 sr1 i1=>⟨m1,ρ,S1,_,S',sr1,lr.mono e1,h3,λm2 v2 H2 e2 sr2 i2=>.inl ?_⟩⟩;let⟨a,ha,rfl⟩:=(i1.mono e2).of_ref;let⟨a',ha',xs,hx,la⟩:=sr2.get hS;rw[ha]at ha';cases ha';let⟨z,ez,iz⟩:=A8 la hw;exact⟨a,xs,i,z,rfl,i2.of_int,SqL.of hx,ez,post m2 _ H2 (e1.trans e2) sr2 iz⟩
  rename_i kus hS;let⟨k,hk,h5⟩:=Q0.mp h4;let⟨w,hw,h6⟩:=Q0.mp h5;cases h6;refine .inr ⟨m,ρ,S,_,S1,sr,lr,h1,λm1 v1 H1 e1 sr1 i1=>⟨m1,ρ,S1,_,S',sr1,lr.mono e1,h3,λm2 v2 H2 e2 sr2 i2=>?_⟩⟩;let⟨a,ha,rfl⟩:=(i1.mono e2).of_ref;let⟨a',ha',kvs,hx,ip⟩:=sr2.get hS;rw[ha]at ha';cases ha';have ek:=iW i2 hk;subst ek;have rf:=IsP.val (k:=k) ip;rw[hw]at rf;cases hv:jr kvs k with
  |none=>rw[hv]at rf;exact rf.elim
  |some z=>
   rw[hv]at rf;exact⟨a,z,rfl,by have:=DGet.k (k:=k) hx;rw[hv]at this;exact this,post m2 _ H2 (e1.trans e2) sr2 rf⟩
  rename_i ep kus hS;let⟨k,hk,h5⟩:=Q0.mp h4;let⟨w,hw,h6⟩:=Q0.mp h5;cases h6;refine .inr ⟨m,ρ,S,_,S1,sr,lr,h1,λm1 v1 H1 e1 sr1 i1=>⟨m1,ρ,S1,_,S',sr1,lr.mono e1,h3,λm2 v2 H2 e2 sr2 i2=>?_⟩⟩;let⟨a,ha,rfl⟩:=(i1.mono e2).of_ref;let⟨a',ha',ob,es,kvs,hx,hd,ip⟩:=sr2.get hS;rw[ha]at ha';cases ha';have ek:=iW i2 hk;subst ek;have rf:=IsP.val (k:=k) ip;rw[hw]at rf;cases hv:jr kvs k with
  |none=>rw[hv]at rf;exact rf.elim
  |some z=>
   rw[hv]at rf;exact⟨a,z,rfl,by have:=DGet.kz (k:=k) hx;rw[hv]at this;exact this,post m2 _ H2 (e1.trans e2) sr2 rf⟩
 |kl ns=>
  simp only[fIx]at h4;split at h4<;>try cases h4
  rename_i i;let⟨w,hw,h5⟩:=Q0.mp h4;cases h5;refine .inl ⟨m,ρ,S,_,S1,sr,lr,h1,λm1 v1 H1 e1 sr1 i1=>⟨m1,ρ,S1,_,S',sr1,lr.mono e1,h3,λm2 v2 H2 e2 sr2 i2=>.inl ?_⟩⟩;let⟨a,rfl,ka⟩:=(i1.mono e2).of_kl;let⟨z,ez,iz⟩:=A8 (wN (K:=X.K) (m:=m2) (H:=H2) ns) hw;exact⟨a,_,i,z,rfl,i2.of_int,ka.sq,ez,post m2 _ H2 (e1.trans e2) sr2 iz⟩
 |_=>simp[fIx]at h4
def m8:U->U->U->Sto->Option Sto:=λo i v S=>match o with
 |.ref l=>match S[l]? with
  |some (.lst us)=>(match i with
   |.int k=>(ixN us.length k).bind λj=>some (S.set l (.lst (us.set j v)))
   |_=>none)
  |some (.dic kus)=>(lJ i).bind λk=>if kus.length<LIM then some (S.set l (.dic (dJ kus k v)))else none
  |_=>none
 |_=>none
def dM(co ci cv:CE):CS:=λρ S=>(cv ρ S).bind λp=>(co ρ p.2).bind λq=>(ci ρ q.2).bind λr=>(m8 q.1 r.1 p.1 r.2).bind λS'=>some (.nx,ρ,S')
theorem bN{o i:QF}{co ci cv:CE}{g_:Pos}(hu:X.A.units+1<cLine)(ho:QE X o co)(hi:QE X i ci)(hv:QE X e cv)
  (hs0:swapsWithSole [.Subscript o i g_] e pos.line X.env=pure false:=by rfl) (hw:swappedStores [.Subscript o i g_] e X.env=pure none:=by rfl)
  (h1:(assignEach [.Subscript o i g_] X.env).map (·.2)=[assign (.Subscript o i g_) X.env]:=by rfl)
  (hs:Zc e (some (.Subscript o i g_)) pos.line X.env=pure false:=by rfl)
  (ha:∀v,assign (.Subscript o i g_) X.env v=(do
   let ov <-holding [v] (eval o X.env)
   let iv <-holding [v,ov] (eval i X.env)
   standAt g_
   holding [v,ov,iv] (setItem ov iv v)
   release [v,ov,iv] []):=by intro _;rfl):QS X (.Assign [.Subscript o i g_] e pos) (dM co ci cv):=
 ((yF hv (FI ho hi BW ha) hs0 hw h1).or (BE hu ho hi hv hs)).imp λD σ H hz=>xZ hz λm ρ S o ρ' S' sr lr hc post=>by
 let⟨⟨v,S1⟩,h1,h⟩:=Q0.mp hc;let⟨⟨ou,S2⟩,h2,h⟩:=Q0.mp h;let⟨⟨iu,S3⟩,h3,h⟩:=Q0.mp h;let⟨S4,h4,h⟩:=Q0.mp h;cases h;cases ou with
 |ref l=>
  simp only[m8]at h4;split at h4<;>try cases h4
  ·rename_i us hS;split at h4<;>try cases h4
   rename_i k;let⟨j,hj,h5⟩:=Q0.mp h4;cases h5;refine .inl ⟨m,ρ,S,v,S1,sr,lr,h1,λm1 v1 H1 e1 sr1 i1=>⟨m1,ρ,S1,_,S2,sr1,lr.mono e1,h2,λm2 v2 H2 e2 sr2 i2=>⟨m2,ρ,S2,_,S3,sr2,lr.mono (e1.trans e2),h3,λm3 v3 H3 e3 sr3 i3=>?_⟩⟩⟩;let⟨a,ha,rfl⟩:=(i2.mono e3).of_ref;let⟨a',ha',xs,hx,la⟩:=sr3.get hS;rw[ha]at ha';cases ha';have e13:=(e1.trans e2).trans e3;have ek:Ext X.K m3 H3 m3 (upd H3 a (.lst (xs.set j v1))):=.of (sr3.keep ha _);refine⟨a,xs,k,j,rfl,i3.of_int,hx,by rw[la.length];exact hj,post m3 σ _ (e13.trans ek) (sr3.put ha ⟨_,aF,((la.set (i1.mono (e2.trans e3)))).mono ek⟩) (lr.mono (e13.trans ek))⟩
  ·rename_i kus hS;let⟨k,hk,h5⟩:=Q0.mp h4;split at h5<;>try cases h5
   have p_:kus.length<LIM:=by assumption
   refine .inr ⟨m,ρ,S,v,S1,sr,lr,h1,λm1 v1 H1 e1 sr1 i1=>⟨m1,ρ,S1,_,S2,sr1,lr.mono e1,h2,λm2 v2 H2 e2 sr2 i2=>⟨m2,ρ,S2,_,S3,sr2,lr.mono (e1.trans e2),h3,λm3 v3 H3 e3 sr3 i3=>?_⟩⟩⟩;let⟨a,ha,rfl⟩:=(i2.mono e3).of_ref;let⟨a',ha',kvs,hx,ip⟩:=sr3.get hS;rw[ha]at ha';cases ha';have ek:=iW i3 hk;subst ek;have e13:=(e1.trans e2).trans e3;have ee:Ext X.K m3 H3 m3 (upd H3 a (.dK (nN kvs k v1))):=.of (sr3.keep ha _);exact⟨a,_,rfl,LW.k hx (Ma (by rw[IsP.length ip];exact p_)),post m3 σ _ (e13.trans ee) (sr3.put ha ⟨_,aF,(IsP.put ip (i1.mono (e2.trans e3))).mono ee⟩) (lr.mono (e13.trans ee))⟩
 |_=>simp[m8]at h4
end
theorem kh{α:Type}[DecidableEq α]:∀{l l':List α},l.Nodup->(∀x∈l,x∈l')->l.length<=l'.length
 |[],_,_,_=>Zh _
 |x::r,l',nd,s=>by
  let⟨h1,h2⟩:=XQ.mp nd;have hx:=s x QH;have:=kh (l:=r) (l':=l'.erase x) h2 λy hy=>(List.mem_erase_of_ne (λz=>h1 (by rw[<-z];exact hy))).mpr (s y (QZ _ hy));rw[List.length_erase_of_mem hx]at this;have hp:=List.length_pos_of_mem hx;rw[QK];omega
theorem fH(f:Str)(v:V):∀fs:List (Str×V),(nS f v fs).map (·.1)=if f∈fs.map (·.1)then fs.map (·.1)else fs.map (·.1)++[f]
 |[]=>by simp[nS]
 |(g,x)::r=>by
  unfold nS;by_cases e:g=f
  ·simp[e]
  ·have ih:=fH f v r;rw[XS e,QL,QL,ih];by_cases c:f∈r.map (·.1);rw[XO c,XO (QZ _ c)];rw[XS c,XS (λz=>by rcases Z8.mp z with z|z;exact e z.symm;exact c z)];rfl
variable{fus:List (Option U)}{i:Nat}
section
variable{c:Cl}{fs:List (Str×V)}
theorem InF.room(h:InF K m H c fs fus):fs.length<1000:=by
 have:=kh h.knd h.sub;rw[QX]at this;have:=h.few;omega
theorem mR{f:Str}:∀{fs:List (Str×V)},f∉fs.map (·.1)->fs.lookup f=none
 |[],_=>rfl
 |(g,x)::r,h=>by
  rw[Zs];have h1:(f == g)=false:=by
   apply beq_eq_false_iff_ne.mpr;intro z;exact h (by rw[z];exact QH)
  rw[h1];exact mR λz=>h (QZ _ z)
def InF.none_{f:Str}(h:InF K m H c fs fus)(hf:f∉c.ns):fs.lookup f=none:=mR λz=>hf (h.sub f z)
theorem InF.put{f:Str}{i:Nat}{v:V}{u:U}(h:InF K m H c fs fus)(hi:c.ns[i]?=some f)(hv:Is K m H v u):InF K m H c (nS f v fs) (fus.set i (some u)):=by
 have hfm:f∈c.ns:=List.mem_of_getElem? hi;refine⟨h.nd,h.few,?_,λx hx=>?_,by simp[h.len],λj x hj=>?_⟩;rw[fH];split;exact h.knd;rename_i hn;rw[List.nodup_append];exact⟨h.knd,nofun,λa ha b hb z=>by simp at hb;subst hb;subst z;exact hn ha⟩;rw[fH]at hx;split at hx;exact h.sub x hx;rcases ZF.mp hx with z|z;exact h.sub x z;simp at z;subst z;exact hfm;rw[jI];by_cases e:i=j;subst e;rw[hi]at hj;cases hj;rw[XO rfl];have:i<fus.length:=by rw[h.len];exact(Q8.mp hi).1
 rw[XX this];exact hv;have ne:x≠f:=λz=>by
  subst z;let⟨p1,e1⟩:=Q8.mp hi;let⟨p2,e2⟩:=Q8.mp hj;exact e ((List.getElem_inj h.nd).mp (e1.trans e2.symm))
 rw[XS ne,ZK e];exact h.at_ j x hj
theorem InF.new(nd:c.ns.Nodup)(few:c.ns.length<1000):InF K m H c [] (QR c.ns.length none):=by
 refine⟨nd,few,nofun,λx hx=>by simp at hx,nofun,λi x hi=>?_⟩;rw[X7];split<;>exact trivial
open Classical in
def Ll(c:Cl)(i:Nat)(x:U)(S:Sto):Option (U×Sto):=match x with
 |.ref l=>match S[l]? with
  |some (.ins c' fus)=>if c'=c then(fus[i]?).join.bind λu=>some (u,S)else none
  |_=>none
 |_=>none
def bD(c:Cl)(i:Nat)(ca:CE):CE:=λρ S=>(ca ρ S).bind λp=>Ll c i p.1 p.2
open Classical in
def AF(c:Cl)(i:Nat)(x v:U)(S:Sto):Option Sto:=match x with
 |.ref l=>match S[l]? with
  |some (.ins c' fus)=>if c'=c then some (S.set l (.ins c (fus.set i (some v))))else none
  |_=>none
 |_=>none
def gO(c:Cl)(i:Nat)(ca cv:CE):CS:=λρ S=>(cv ρ S).bind λp=>(ca ρ p.2).bind λq=>(AF c i q.1 p.1 q.2).bind λS'=>some (.nx,ρ,S')
variable{cv:CE}{f:Str}
theorem Gs(hcl:Cls X.K c.C)(hna:jA X.K c.C f)(hi:c.ns[i]?=some f)(h:QE X e ca)(hb:attributeBase e f X.env (eval e X.env)=eval e X.env:=by rfl):QE X (.Attribute e f pos) (bD c i ca):=(FO h hb).imp λσ H Q hz=>kY hz λm ρ S u S' sr lr hc post=>by
 let⟨⟨x,S1⟩,h1,h2⟩:=Q0.mp hc;refine⟨m,ρ,S,x,S1,sr,lr,h1,λm1 v1 H1 e1 sr1 i1=>?_⟩;cases x with
 |ref l=>
  simp only[Ll]at h2;split at h2<;>try cases h2
  rename_i c' fus hS;split at h2<;>try cases h2
  rename_i hc';subst hc';let⟨w,hw,h3⟩:=Q0.mp h2;cases h3;let⟨a,ha,rfl⟩:=i1.of_ref;let⟨a',ha',dx,fs,hx,inf⟩:=sr1.get hS;rw[ha]at ha';cases ha';have rf:=inf.at_ i f hi;rw[hw]at rf;cases hv:fs.lookup f with
  |none=>rw[hv]at rf;exact rf.elim
  |some z=>
   rw[hv]at rf;exact⟨a,_,dx,fs,z,rfl,hx,hcl,hna,hv,post m1 _ H1 e1 sr1 rf⟩
 |_=>simp[Ll]at h2
theorem Gp{o:QF}{co:CE}{g_:Pos}(hcl:Cls X.K c.C)(hna:jA X.K c.C f)(hi:c.ns[i]?=some f)(ho:QE X o co)(hv:QE X e cv)(hs:Zc e (some (.Attribute o f g_)) pos.line X.env=pure false:=by rfl):QS X (.Assign [.Attribute o f g_] e pos) (gO c i co cv):=(FF ho hv hs).imp λD σ H hz=>xZ hz λm ρ S o ρ' S' sr lr hc post=>by
 let⟨⟨v,S1⟩,h1,h⟩:=Q0.mp hc;let⟨⟨x,S2⟩,h2,h⟩:=Q0.mp h;let⟨S3,h3,h⟩:=Q0.mp h;cases h;refine⟨m,ρ,S,v,S1,sr,lr,h1,λm1 v1 H1 e1 sr1 i1=>⟨m1,ρ,S1,x,S2,sr1,lr.mono e1,h2,λm2 v2 H2 e2 sr2 i2=>?_⟩⟩;cases x with
 |ref l=>
  simp only[AF]at h3;split at h3<;>try cases h3
  rename_i c' fus hS;split at h3<;>try cases h3
  have hc':c'=c:=by assumption
  subst hc';let⟨a,ha,rfl⟩:=i2.of_ref;let⟨a',ha',dx,fs,hx,inf⟩:=sr2.get hS;rw[ha]at ha';cases ha';have ee:Ext X.K m2 H2 m2 (upd H2 a (.ins c'.C dx (nS f v1 fs))):=.of (sr2.keep ha _);have e12:=e1.trans e2;exact⟨a,_,dx,fs,rfl,hx,hcl,hna,inf.room,post m2 σ _ (e12.trans ee) (sr2.put ha ⟨dx,_,aF,(inf.put hi (i1.mono e2)).mono ee⟩) (lr.mono (e12.trans ee))⟩
 |_=>simp[AF]at h3
structure dP(P:Z7)(w:ZR)(K:Q1)(mg:Str->Option Q3)(base:Heap)(c:Cl)(mn:Str)(k:Nat)(ps:List Str)(f:Fn):Prop where
 ex:∃fa fd,Ed K c.C mn fa/\kF P w K mg base CX0 k fa fd ps (BV K f)/\gR K fd ps []
theorem dP.mono{P:Z7}{w:ZR}{mg:Str->Option Q3}{base:Heap}{mn:Str}{j k:Nat}{ps:List Str}{f:Fn}(h:dP P w K mg base c mn j ps f)(l:j<=k):dP P w K mg base c mn k ps f:=by
 let⟨fa,fd,a,b,d⟩:=h.ex;exact⟨fa,fd,a,b.mono l,d⟩
open Classical in
def AG(c:Cl)(f:Fn)(x:U)(S:Sto)(args:Sto->Option (List U×Sto)):Option (U×Sto):=match x with
 |.ref l=>match S[l]? with
  |some (.ins c' _)=>if c'=c then(args S).bind λq=>f (.ref l::q.1) q.2 else none
  |_=>none
 |_=>none
def bA(c:Cl)(f:Fn)(ca:CE)(cr:CA):CE:=λρ S=>(ca ρ S).bind λp=>AG c f p.1 p.2 (cr ρ)
theorem wB{mn:Str}{g:Fn}{co:CE}{cr:CA}(hmn:mn∉c.ns):∀σ H Q,tE K (bA c g co cr) σ H Q->ud c.C mn (BV K g) [] E0 (tE K co) (tA K cr) σ H Q:=by
 rintro σ H Q ⟨m,ρ,S,u,S',sr,lr,hc,post⟩;let⟨⟨x,S1⟩,h1,h2⟩:=Q0.mp hc;refine⟨m,ρ,S,x,S1,sr,lr,h1,λm1 v1 H1 e1 sr1 i1=>?_⟩;cases x with
 |ref l=>
  simp only[AG]at h2;split at h2<;>try cases h2
  rename_i c' fus hS;split at h2<;>try cases h2
  rename_i hc';subst hc';let⟨⟨us,S2⟩,h3,h4⟩:=Q0.mp h2;let⟨a,ha,rfl⟩:=i1.of_ref;let⟨a',ha',dx,fs,hx,inf⟩:=sr1.get hS;rw[ha]at ha';cases ha';refine⟨a,dx,fs,rfl,hx,inf.none_ hmn,m1,ρ,S1,us,S2,sr1,lr.mono e1,h3,λm2 vs H2 e2 sr2 i2=>?_⟩;exact⟨m2,_,S2,u,S',.cons_ (i1.mono e2) ‹i2›,sr2,h4,post.mono (e1.trans e2)⟩
 |_=>simp[AG]at h2
theorem JO{mn:Str}{g:Fn}{k:Nat}{ps:List Str}{o:QF}{es:List QF}{co:CE}{cr:CA}{i_:Pos}{pl:Sem Bool}(hcl:Cls X.K c.C)(F:dP X.prog X.w X.K X.mg X.base c mn k ps g)(hr:eN k X.A)(hmn:mn∉c.ns)(ho:QE X o co)(ha:QA X (e::es) cr)
  (hst:Q6 (e::es) X.env=(false,eval e X.env)::Q6 es X.env:=by rfl) (hpl:(ZL pos (Q6 es X.env)).any (·.1)=false:=by rfl) (ht:eval (.Call (.Attribute o mn i_) (e::es) [] pos) X.env=(do
   let ov <-eval o X.env
   standAt i_.atName
   let (f,first) <-holding [ov] (getMethod ov mn pl)
   callWith pos f first (ZL pos (Q6 (e::es) X.env)) (backToKw pos (keywordEach [] X.env))):=by rfl):QE X (.Call (.Attribute o mn i_) (e::es) [] pos) (bA c g co cr):=by
 let⟨fa,fd,hm,F,hb⟩:=F.ex;exact(vG ho hcl hm F hr hb .nil Cu ha.h hst hpl ht).imp (wB hmn)
theorem zr{mn:Str}{g:Fn}{k:Nat}{ps:List Str}{o:QF}{co:CE}{i_:Pos}{pl:Sem Bool}(hcl:Cls X.K c.C)(F:dP X.prog X.w X.K X.mg X.base c mn k ps g)(hr:eN k X.A)(hmn:mn∉c.ns)(ho:QE X o co)
  (ht:eval (.Call (.Attribute o mn i_) [] [] pos) X.env=(do
   let ov <-eval o X.env
   standAt i_.atName
   let (f,first) <-holding [ov] (getMethod ov mn pl)
   callWith pos f first (ZL pos (Q6 [] X.env)) (backToKw pos (keywordEach [] X.env))):=by rfl):QE X (.Call (.Attribute o mn i_) [] [] pos) (bA c g co aE):=by
 let⟨fa,fd,hm,F,hb⟩:=F.ex;refine(yJ ho hcl hm F hr hb .nil Cu ht).imp λσ H Q h=>?_;let⟨m,ρ,S,u,S',sr,lr,hc,k⟩:=wB hmn σ H Q h;refine⟨m,ρ,S,u,S',sr,lr,hc,λm1 v1 H1 e1 sr1 i1=>?_⟩;let⟨a,dx,fs,h1,h2,h3,m2,ρ2,S2,us,S3,sr2,lr2,h4,h5⟩:=k m1 v1 H1 e1 sr1 i1;cases h4;exact⟨a,dx,fs,h1,h2,h3,h5 m2 [] H1 .refl sr2 .nil_⟩
structure CMk(P:Z7)(w:ZR)(K:Q1)(mg:Str->Option Q3)(base:Heap)(c:Cl)(x:Str)(k:Nat)(ps:List Str)(f:Fn):Prop where
 ex:∃fa fd,Mk K c.C fa/\kF P w K mg base CX0 k fa fd ps (BV K f)/\gR K fd ps []/\mg x=some (.ref c.C)
 nd:c.ns.Nodup
 few:c.ns.length<1000
theorem CMk.mono{P:Z7}{w:ZR}{mg:Str->Option Q3}{base:Heap}{x:Str}{j k:Nat}{ps:List Str}{f:Fn}(h:CMk P w K mg base c x j ps f)(l:j<=k):CMk P w K mg base c x k ps f:=by
 let⟨fa,fd,a,b,d⟩:=h.ex;exact⟨⟨fa,fd,a,b.mono l,d⟩,h.nd,h.few⟩
def qj(c:Cl)(f:Fn):Fn:=λus S=>(f (.ref S.length::us) (S++[.ins c (QR c.ns.length none)])).bind λp=>match p.1 with
 |.non=>some (.ref S.length,p.2)
 |_=>none
theorem C4{g:Fn}{cr:CA}(nd:c.ns.Nodup)(few:c.ns.length<1000):∀σ H Q,tE K (cCB (qj c g) cr) σ H Q->FZ c.C (BV K g) [] E0 (tA K cr) σ H Q:=by
 rintro σ H Q ⟨m,ρ,S,u,S',sr,lr,hc,post⟩;let⟨⟨us,S1⟩,h1,h2⟩:=Q0.mp hc;let⟨⟨w,S2⟩,h3,h4⟩:=Q0.mp h2;refine⟨m,ρ,S,us,S1,sr,lr,h1,λm1 vs H1 e1 sr1 i1 x dx hx hdx ne=>?_⟩;cases w with
 |non=>
  cases h4;have s1:D8 H1 (upd H1 dx (.own x)):=fQ hdx _;have hx2:(upd H1 dx (.own x)) x=none:=by rw[aH (Ne.symm ne)];exact hx
  have ee:Ext K m1 H1 (m1++[x]) (upd (upd H1 dx (.own x)) x (.ins c.C dx [])):=.new ⟨λb xs q=>(bO hx2 _).t b xs ((cq s1).t b xs q),λb xs q=>(bO hx2 _).l b xs ((cq s1).l b xs q),λb xs q=>(bO (K:=K) hx2 _).c b xs ((cq (K:=K) s1).c b xs q)⟩;refine⟨m1++[x],.ref S1.length::us,S1++[.ins c (QR c.ns.length none)],.non,S2,.cons_ (.ref_ (ed sr1.len)) ‹i1.mono ee›,(sr1.same s1).new (o:=.ins c (QR c.ns.length none)) hx2 ⟨dx,[],aF,InF.new nd few⟩,h3,λm2 v2 H2 e2 sr2 i2=>⟨i2.of_non,?_⟩⟩;exact post m2 _ H2 ((e1.trans ee).trans e2) sr2 (.ref_ (e2.get (ed sr1.len)))
 |_=>simp at h4
theorem EC{x:Str}{g:Fn}{k:Nat}{ps:List Str}{es:List QF}{cr:CA}{p:Pos}(M:CMk X.prog X.w X.K X.mg X.base c x k ps g)(hr:eN (k+1) X.A)(hg:Gl X x)(ha:QA X (e::es) cr)
  (hdb:(x == ("__debug__":Str))=false:=by decide) (he:Q6 (e::es) X.env=(false,eval e X.env)::Q6 es X.env:=by rfl) (hpl:(ZL pos (Q6 es X.env)).any (·.1)=false:=by rfl):QE X (.Call (.Name x p) (e::es) [] pos) (cCB (qj c g) cr):=by
 let⟨fa,fd,hm,F,hb,hx⟩:=M.ex;exact(BJ hm F hr hg hx hb .nil Cu ha.h hdb he hpl).imp (C4 M.nd M.few)
def oo:CE:=λ_ S=>some (.ref S.length,S++[.dic []])
theorem mG:QE X (.Dict [] [] pos) oo:=yL.imp λσ H Q hz=>kY hz λm ρ S u S' sr lr hc post=>by
 cases hc;exact λp hp=>post (m++[p]) _ _ (.new (bO hp _)) (sr.new hp ⟨[],aF,.nil_⟩) (.ref_ (ed sr.len))
def yg(cd ck cx:CE):CE:=λρ S=>(cd ρ S).bind λp=>match p.1 with
 |.ref l=>match p.2[l]? with
  |some (.dic _)=>(ck ρ p.2).bind λq=>(cx ρ q.2).bind λr=>match r.2[l]? with
   |some (.dic kus)=>(lJ q.1).bind λk=>some ((aZ kus k).getD r.1,r.2)
   |_=>none
  |_=>none
 |_=>none
theorem EF{o e f:QF}{cd ck cx:CE}{i_:Pos}(hu:X.A.units+1<cLine)(ho:QE X o cd)(he:QE X e ck)(hf:QE X f cx)(hm:M2 X o "get" i_ e f pos):QE X (.Call (.Attribute o "get" i_) [e,f] [] pos) (yg cd ck cx):=(yM hu ho he hf hm).imp λσ H Q hz=>kY hz λm ρ S u S' sr lr hc post=>by
 let⟨⟨x,S1⟩,h1,h⟩:=Q0.mp hc;refine⟨m,ρ,S,x,S1,sr,lr,h1,λm1 v1 H1 e1 sr1 i1=>?_⟩;cases x with
 |ref l=>
  simp only at h;split at h<;>try cases h
  rename_i kus0 hS;let⟨⟨ku,S2⟩,h2,h⟩:=Q0.mp h;let⟨⟨xu,S3⟩,h3,h⟩:=Q0.mp h;simp only at h;split at h<;>try cases h
  rename_i kus hS3;let⟨k,hk,h⟩:=Q0.mp h;cases h;let⟨a,ha,rfl⟩:=i1.of_ref;let⟨a',ha',kvs0,hx0,_⟩:=sr1.get hS;rw[ha]at ha';cases ha';refine⟨a,rfl,.inl ⟨kvs0,.inl hx0⟩,m1,ρ,S1,ku,S2,sr1,lr.mono e1,h2,λm2 v2 H2 e2 sr2 i2=>⟨m2,ρ,S2,xu,_,sr2,lr.mono (e1.trans e2),h3,λm3 v3 H3 e3 sr3 i3=>?_⟩⟩;let⟨a',ha',kvs,hx,ip⟩:=sr3.get hS3;rw[(e2.trans e3).get ha]at ha';cases ha';have ek:=iW (i2.mono e3) hk;subst ek;have rf:=IsP.val (k:=k) ip;refine⟨_,DGet.k hx,post m3 _ H3 ((e1.trans e2).trans e3) sr3 ?_⟩;cases hv:jr kvs k with
  |none=>
   cases hw:aZ kus k with
   |none=>exact i3
   |some w=>rw[hv,hw]at rf;exact rf.elim
  |some v=>
   cases hw:aZ kus k with
   |none=>rw[hv,hw]at rf;exact rf.elim
   |some w=>rw[hv,hw]at rf;exact rf
 |_=>simp at h
end
def uh(n:Nat)(caps:List Nat)(ρ:Rho):Rho:=QR n none++caps.map λi=>(ρ[i]?).getD none
open Classical in
def gN(ok:Sto->Prop)(g:CG)(ce:CE)(l:Nat):List U->Rho->Sto->Option Sto
 |[],_,S=>if ok S then some S else none
 |u::us,ρ,S=>if ok S then(g u ρ S).bind λp=>(ce p.1 p.2).bind λr=>match r.2[l]? with
  |some (.lst ys)=>if ys.length<LIM then gN ok g ce l us p.1 (r.2.set l (.lst (ys++[r.1])))else none
  |_=>none else none
def ji(ci:CI)(g:CG)(ce:CE)(n:Nat)(caps:List Nat):CE:=λρ S=>(ci ρ S).bind λp=>(gN p.2.1 g ce p.2.2.length p.1 (uh n caps ρ) (p.2.2++[.lst []])).bind λS'=>some (.ref p.2.2.length,S')
section
theorem zZ{m:List Addr}{H:Hp}{ρ:Rho}{σ:L2.St}{n:Nat}{caps:List Nat}(lr:Lr K m H ρ σ):Lr K m H (uh n caps ρ) (OG.stC n caps σ):=by
 refine⟨by simp[uh,OG.stC],λj u e=>?_⟩;unfold uh at e;unfold OG.stC;by_cases c:j<n
 ·rw[Zy ‹c›,X7]at e;split at e<;>cases e
 rw[Zk (by simp;omega),ZH]at e ⊢;simp only[YU]at e ⊢;cases q:caps[j-n]? with
 |none=>rw[q]at e;simp at e
 |some i=>
  rw[q]at e;simp only[Zi,Option.some.injEq]at e ⊢;have e2:ρ[i]?=some (some u):=by
   cases z:ρ[i]? with
   |none=>rw[z]at e;simp at e
   |some y=>rw[z]at e;simp at e;rw[e]
  let⟨v,h1,h2⟩:=lr.at_ i u e2;exact⟨v,by rw[h1];rfl,h2⟩
theorem sP{g:CG}{ce:CE}{n:Nat}{caps:List Nat}{J:It}{us:List U}{ok:Sto->Prop}{Q:VK}{m1:List Addr}{H1:Hp}{S1 S':Sto}{ρ:Rho}{σ:L2.St}{l:Addr}(sr1:Sr K m1 S1 H1)(lr:Lr K m1 H1 ρ σ)(ito:Bu K J m1 H1 us ok)(hl:H1 l=none)(h2:gN ok g ce S1.length us (uh n caps ρ) (S1++[.lst []])=some S')
  (post:∀m2 H2,Ext K (m1++[l]) (upd H1 l (.lst [])) m2 H2->Sr K m2 S' H2->Q (.ref l) H2) :
  ∃W:Nat->Nat->L2.St->Hp->Prop,(∃m,W 0 m (OG.stC n caps σ) (upd H1 l (.lst [])))/\
 ∀i m σ' H2,W i m σ' H2->(J.stop i H2/\Q (.ref l) H2)\/(J.go i H2/\∃N:L2.St->Hp->Prop,(∀σ'' H',N σ'' H'->∃m',m'<m/\W (i+1) m' σ'' H')/\
  ∀x H3,J.yld i H2 x H3->tG K g x σ' H3 λσ2 H4=>tE K ce σ2 H4 λv H5=>∃ys,H5 l=some (.lst ys)/\ys.length<QU/\N σ2 (upd H5 l (.lst (ys++[v])))):=by
 have ee:Ext K m1 H1 (m1++[l]) (upd H1 l (.lst [])):=.new (bO hl _);let W:Nat->Nat->L2.St->Hp->Prop:=λi k σ2 H2=>k=us.length-i/\i<=us.length/\∃m2 ρ2 S2,Ext K (m1++[l]) (upd H1 l (.lst [])) m2 H2/\Sr K m2 S2 H2/\Lr K m2 H2 ρ2 σ2/\gN ok g ce S1.length (us.drop i) ρ2 S2=some S'
 refine⟨W,⟨us.length,nofun,Zh _,m1++[l],uh n caps ρ,S1++[.lst []],.refl,sr1.new (o:=.lst []) hl ⟨[],aF,.nil_⟩,zZ (lr.mono ee),by simpa using h2⟩,?_⟩;rintro i k σ2 H2 ⟨rfl,hi,m2,ρ2,S2,e2,sr2,lr2,hl2⟩;by_cases hlt:i<us.length
 ·have hu:=Q7 hlt;rw[nq hu]at hl2;unfold gN at hl2;split at hl2
  ·rename_i hok;let⟨⟨ρ3,S3⟩,h3,hl2⟩:=Q0.mp hl2;let⟨⟨u4,S4⟩,h4,hl2⟩:=Q0.mp hl2;simp only at hl2;split at hl2<;>try cases hl2
   rename_i ys hys;split at hl2<;>try cases hl2
   rename_i p_;let⟨hgo,hy⟩:=(ito m2 S2 H2 i (ee.trans e2) sr2 hok).1 _ hu;refine .inr ⟨hgo,W (i+1) (us.length-(i+1)),λσ' H' w'=>⟨_,⋯,w'⟩,λx H3 y=>?_⟩;let⟨e3,sr3,ix⟩:=hy x H3 y;refine⟨m2,ρ2,S2,_,ρ3,S3,sr3,lr2.mono e3,ix,h3,λm4 σ4 H4 e4 sr4 lr4=>⟨m4,ρ3,S3,u4,S4,sr4,lr4,h4,λm5 v5 H5 e5 sr5 i5=>?_⟩⟩;let⟨a',ha',xs,hx,il⟩:=sr5.get hys;have ha:m5[S1.length]?=some l:=(((e2.trans e3).trans e4).trans e5).get (ed sr1.len);rw[ha]at ha';cases ha';have eu:Ext K m5 H5 m5 (upd H5 l (.lst (xs++[v5]))):=.of (sr5.keep ha _);refine⟨xs,hx,Ma (by rw[il.length];exact p_),rfl,hlt,m5,ρ3,_,((((e2.trans e3).trans e4).trans e5).trans eu),sr5.put (o:=.lst (ys++[u4])) ha ⟨_,aF,(il.append (.cons_ i5 .nil_)).mono eu⟩,(lr4.mono (e5.trans eu)),hl2⟩
  cases hl2
 have e:i=us.length:=by omega
 subst e;rw[List.drop_length]at hl2;unfold gN at hl2;split at hl2;rename_i hok;cases hl2;exact .inl ⟨(ito m2 _ H2 _ (ee.trans e2) sr2 hok).2 (QQ _),post m2 H2 e2 sr2⟩;cases hl2
theorem DN{ci:CI}{g:CG}{ce:CE}{n:Nat}{caps:List Nat}:∀σ H Q,tE K (ji ci g ce n caps) σ H Q->F1 (tI K ci) (tG K g) (tE K ce) n caps σ H Q:=by
 rintro σ H Q ⟨m,ρ,S,u,S',sr,lr,hc,post⟩;let⟨⟨us,ok,S1⟩,h1,h2⟩:=Q0.mp hc;let⟨S2,h2,h3⟩:=Q0.mp h2;cases h3;refine⟨m,ρ,S,us,ok,S1,sr,lr,h1,λm1 H1 J e1 sr1 ito l hl=>?_⟩;have ee:Ext K m1 H1 (m1++[l]) (upd H1 l (.lst [])):=.new (bO hl _);exact sP sr1 (lr.mono e1) ito hl h2 λm2 H2 e2 sr2=>post m2 _ H2 ((e1.trans ee).trans e2) sr2 (.ref_ (e2.get (ed sr1.len)))
theorem zu{Nc capN tn:List Str}{scope:XR}{cl:List (Str×Addr)}{n:Nat}{caps:List Nat}{tg iter elt:QF}{pos:Pos}{ci:CI}{g:CG}{ce:CE}
  (hc:X.calm=true) (hi:QI X tg iter ci) (hg:∀s3 H3 fp,WG (cxC X Nc scope cl s3 H3 fp) tg (tG X.K g)) (he:∀s3 H3 fp,WE (cxC X Nc scope cl s3 H3 fp) elt (tE X.K ce))
  (G_:closureFor scope X.env=pure cl) (r_:scope.kind=.function) (hnl:∀x∈scope.names,x.2=.local->scope.names.lookup x.1=some .local) (x_:∀x∈scope.names,x.2≠.cell)
  (hcl:yt X.env cl) (H_:((relabel scope X.env).names.all λp=>!(p.2 == .cell||p.2 == .free)||(cl.lookup p.1).isSome)=true)
  (F_:Paired (Cap X scope cl) caps capN) (hN:Nc=tn++capN) (hn:tn.length=n)
  (hs:∀x,foldedSetIterable iter X.env x=pure x:=by intro _;rfl) :
  QE X (.ListComp elt [⟨tg,iter,[],0⟩] scope pos) (ji ci g ce n caps):=(vH hc hi hg he G_ r_ hnl x_ hcl H_ F_ hN hn hs).imp DN
def sF:Fn
 |[.tup us],S=>some (.int us.length,S)
 |[.ref l],S=>match S[l]? with
  |some (.lst us)=>some (.int us.length,S)
  |some (.dic us)=>some (.int us.length,S)
  |_=>none
 |[.kl ns],S=>some (.int ns.length,S)
 |_,_=>none
abbrev Pk(K:Q1):List V->Hp->VK->Prop:=λxs H Q=>(∃p ys,xs=[.ref p]/\(SqL K H p ys\/SqT K H p ys)/\Q (.int ys.length) H)\/∃a kvs,xs=[V.ref a]/\H a=some (.dK kvs)/\Q (.int kvs.length) H
def rD:ft X (.builtin "len") (Pk X.K):=sR.or A1
theorem IsL.one{m:List Addr}{H:Hp}{vs:List V}{u:U}(h:IsL K m H vs [u]):∃v,vs=[v]/\Is K m H v u:=by
 let⟨x,r,rfl,i,t⟩:=h.of_cons;rw[t.of_nil];exact⟨x,rfl,i⟩
theorem IsL.two{m:List Addr}{H:Hp}{vs:List V}{u w:U}(h:IsL K m H vs [u,w]):∃v x,vs=[v,x]/\Is K m H v u/\Is K m H x w:=by
 let⟨x,r,rfl,i,t⟩:=h.of_cons;let⟨y,rfl,j⟩:=t.one;exact⟨x,y,rfl,i,j⟩
theorem rA:lV K (Pk K) sF:=by
 intro m S H us vs u S' Q sr i hf post;match us,hf with
 |[.tup ws],hf=>
  cases hf;let⟨v,rfl,iv⟩:=i.one;let⟨a,xs,rfl,sa,la⟩:=iv.of_tup;exact .inl ⟨a,xs,rfl,.inr sa,by rw[la.length];exact post m _ H .refl sr .int_⟩
 |[.ref l],hf=>
  let⟨v,rfl,iv⟩:=i.one;let⟨a,ha,rfl⟩:=iv.of_ref;simp only[sF]at hf;split at hf<;>try cases hf
  rename_i ws hS;let⟨a',ha',xs,hx,la⟩:=sr.get hS;rw[ha]at ha';cases ha';exact .inl ⟨a,xs,rfl,.inl (SqL.of hx),by rw[la.length];exact post m _ H .refl sr .int_⟩;rename_i ws hS;let⟨a',ha',xs,hx,la⟩:=sr.get hS;rw[ha]at ha';cases ha';exact .inr ⟨a,xs,rfl,hx,by rw[IsP.length la];exact post m _ H .refl sr .int_⟩
 |[.kl ns],hf=>
  cases hf;let⟨v,rfl,iv⟩:=i.one;let⟨a,rfl,ka⟩:=iv.of_kl;exact .inl ⟨a,_,rfl,.inl ka.sq,by rw[QX];exact post m _ H .refl sr .int_⟩
def sE:Fn
 |[.tup us],S=>some (.ref S.length,S++[.lst us])
 |[.ref l],S=>match S[l]? with
  |some (.lst us)=>some (.ref S.length,S++[.lst us])
  |_=>none
 |_,_=>none
theorem zG:lV K (λxs H Q=>∃p ys,xs=[.ref p]/\(SqL K H p ys\/SqT K H p ys)/\∀l,H l=none->Q (.ref l) (upd H l (.lst ys))) sE:=by
 intro m S H us vs u S' Q sr i hf post;match us,hf with
 |[.tup ws],hf=>
  cases hf;let⟨v,rfl,iv⟩:=i.one;let⟨a,xs,rfl,sa,la⟩:=iv.of_tup;exact⟨a,xs,rfl,.inr sa,λl hl=>dC sr la post hl⟩
 |[.ref l],hf=>
  let⟨v,rfl,iv⟩:=i.one;let⟨a,ha,rfl⟩:=iv.of_ref;simp only[sE]at hf;split at hf<;>try cases hf
  rename_i ws hS;let⟨a',ha',xs,hx,la⟩:=sr.get hS;rw[ha]at ha';cases ha';exact⟨a,xs,rfl,.inl (SqL.of hx),λl hl=>dC sr la post hl⟩
def kx:Fn
 |[.tup us],S=>some (.tup us,S)
 |[.ref l],S=>match S[l]? with
  |some (.lst us)=>some (.tup us,S)
  |_=>none
 |_,_=>none
theorem uj:lV K (λxs H Q=>∃p ys,xs=[.ref p]/\((SqL K H p ys/\∀l,H l=none->Q (.ref l) (upd H l (.tup ys)))\/(SqT K H p ys/\Q (.ref p) H))) kx:=by
 intro m S H us vs u S' Q sr i hf post;match us,hf with
 |[.tup ws],hf=>
  cases hf;let⟨v,rfl,iv⟩:=i.one;let⟨a,xs,rfl,sa,la⟩:=iv.of_tup;exact⟨a,xs,rfl,.inr ⟨sa,post m _ H .refl sr iv⟩⟩
 |[.ref l],hf=>
  let⟨v,rfl,iv⟩:=i.one;let⟨a,ha,rfl⟩:=iv.of_ref;simp only[kx]at hf;split at hf<;>try cases hf
  rename_i ws hS;let⟨a',ha',xs,hx,la⟩:=sr.get hS;rw[ha]at ha';cases ha';exact⟨a,xs,rfl,.inl ⟨SqL.of hx,λl hl=>pJ sr la post hl⟩⟩
def Lk:Fn
 |[.int i],S=>some (.int i,S)
 |[.bl b],S=>some (.int (if b then 1 else 0),S)
 |_,_=>none
theorem GX:lV K (λxs H Q=>(∃i,xs=[.int i]/\Q (.int i) H)\/∃k,xs=[.bl k]/\Q (.int (if k then 1 else 0)) H) Lk:=by
 intro m S H us vs u S' Q sr i hf post;match us,hf with
 |[.int j],hf=>
  cases hf;let⟨v,rfl,iv⟩:=i.one;exact .inl ⟨j,by rw[iv.of_int],post m _ H .refl sr .int_⟩
 |[.bl j],hf=>
  cases hf;let⟨v,rfl,iv⟩:=i.one;exact .inr ⟨j,by rw[iv.of_bl],post m _ H .refl sr .int_⟩
def Li:Fn
 |[.int i,.int j],S=>some (.int (if j<i then j else i),S)
 |_,_=>none
theorem N9:lV K (λxs H Q=>∃i j,xs=[.int i,.int j]/\Q (.int (if j<i then j else i)) H) Li:=by
 intro m S H us vs u S' Q sr i hf post;match us,hf with
 |[.int j,.int k],hf=>
  cases hf;let⟨v,w,rfl,iv,iw⟩:=i.two;exact⟨j,k,by rw[iv.of_int,iw.of_int],post m _ H .refl sr .int_⟩
def Lj:Fn
 |[.int i,.int j],S=>some (.int (if j>i then j else i),S)
 |_,_=>none
theorem Oa:lV K (λxs H Q=>∃i j,xs=[.int i,.int j]/\Q (.int (if j>i then j else i)) H) Lj:=by
 intro m S H us vs u S' Q sr i hf post;match us,hf with
 |[.int j,.int k],hf=>
  cases hf;let⟨v,w,rfl,iv,iw⟩:=i.two;exact⟨j,k,by rw[iv.of_int,iw.of_int],post m _ H .refl sr .int_⟩
def uF:List U->Option (List Int)
 |[]=>some []
 |.int i::r=>(uF r).map (i::·)
 |_=>none
def Bs:List U->Option (List Bool)
 |[]=>some []
 |.bl i::r=>(Bs r).map (i::·)
 |_=>none
theorem p6:∀{us:List U} {ns:List Int},uF us=some ns->us=ns.map U.int
 |[],ns,h=>by cases h;rfl
 |u::r,ns,h=>by
  cases u<;>simp only[uF]at h<;>try cases h
  let⟨ms,e,h⟩:=Zq.mp h;subst h;rw[p6 e];rfl
theorem rS:∀(ns:List Int),uF (ns.map U.int)=some ns
 |[]=>rfl
 |n::r=>by simp[uF,rS r]
theorem A6:∀{us:List U} {ns:List Bool},Bs us=some ns->us=ns.map U.bl
 |[],ns,h=>by cases h;rfl
 |u::r,ns,h=>by
  cases u<;>simp only[Bs]at h<;>try cases h
  let⟨ms,e,h⟩:=Zq.mp h;subst h;rw[A6 e];rfl
theorem xj:∀(ns:List Bool),Bs (ns.map U.bl)=some ns
 |[]=>rfl
 |n::r=>by simp[Bs,xj r]
theorem IsL.ints{m:List Addr}{H:Hp}:∀{xs:List V} {ns:List Int},IsL K m H xs (ns.map U.int)->xs=ns.map V.int
 |xs,[],h=>h.of_nil
 |xs,n::ns,h=>by
  let⟨x,r,rfl,i,t⟩:=h.of_cons;rw[IsL.ints t,i.of_int];rfl
theorem IsL.bls{m:List Addr}{H:Hp}:∀{xs:List V} {ns:List Bool},IsL K m H xs (ns.map U.bl)->xs=ns.map V.bl
 |xs,[],h=>h.of_nil
 |xs,n::ns,h=>by
  let⟨x,r,rfl,i,t⟩:=h.of_cons;rw[IsL.bls t,i.of_bl];rfl
theorem jl{m:List Addr}{H:Hp}:∀(ns:List Int),IsL K m H (ns.map V.int) (ns.map U.int)
 |[]=>.nil_
 |n::ns=>.cons_ .int_ (jl ns)
def cBM(f:U->List U->Sto->Option (U×Sto))(co:CE)(cr:CA):CE:=λρ S=>(co ρ S).bind λp=>match p.1 with
 |.ref l=>match p.2[l]? with
  |some (.lst _)=>(cr ρ p.2).bind λq=>f p.1 q.1 q.2
  |_=>none
 |_=>none
def MtP(K:Q1)(r:V->List V->Hp->VK->Prop)(f:U->List U->Sto->Option (U×Sto)):Prop:=
 ∀m S H x v us vs u S' Q,Sr K m S H->Is K m H v x->IsL K m H vs us->f x us S=some (u,S')->ll K m H Q u S'->r v vs H Q
theorem xi{r:V->List V->Hp->VK->Prop}{f:U->List U->Sto->Option (U×Sto)}{co:CE}{cr:CA}(hp:MtP K r f):∀σ H Q,tE K (cBM f co cr) σ H Q->tBM K "list" r (tE K co) (tA K cr) σ H Q:=by
 rintro σ H Q ⟨m,ρ,S,u,S',sr,lr,hc,post⟩;let⟨⟨x,S1⟩,h1,h2⟩:=Q0.mp hc;refine⟨m,ρ,S,x,S1,sr,lr,h1,λm1 v1 H1 e1 sr1 i1=>?_⟩;cases x with
 |ref l=>
  simp only at h2;split at h2<;>try cases h2
  rename_i ws hS;let⟨⟨us,S2⟩,h3,h4⟩:=Q0.mp h2;let⟨a,ha,rfl⟩:=id i1.of_ref;let⟨a',ha',xs,hx,la⟩:=sr1.get hS;rw[ha]at ha';cases ha';exact⟨.inl ⟨rfl,xs,SqL.of hx⟩,m1,ρ,S1,us,S2,sr1,lr.mono e1,h3,λm2 vs H2 e2 sr2 i2=>hp m2 S2 H2 _ _ us vs u S' Q sr2 (i1.mono e2) i2 h4 (post.mono (e1.trans e2))⟩
 |_=>simp at h2
def c7:U->List U->Sto->Option (U×Sto)
 |.ref l,[u],S=>match S[l]? with
  |some (.lst us)=>if us.length<LIM then some (.non,S.set l (.lst (us++[u])))else none
  |_=>none
 |_,_,_=>none
theorem CF:MtP K zg c7:=by
 intro m S H x v us vs u S' Q sr ix i hf post;match x,us,hf with
 |.ref l,[w],hf=>
  simp only[c7]at hf;split at hf<;>try cases hf
  rename_i ws hS;split at hf<;>try cases hf
  rename_i hl;let⟨a,ha,rfl⟩:=ix.of_ref;let⟨a',ha',xs,hx,la⟩:=sr.get hS;rw[ha]at ha';cases ha';let⟨y,rfl,iy⟩:=i.one;have eu:Ext K m H m (upd H a (.lst (xs++[y]))):=.of (sr.keep ha _);exact⟨a,xs,y,rfl,rfl,hx,Ma (by rw[la.length];exact hl),post m _ _ eu (sr.put ha ⟨_,aF,(la.append (.cons_ iy .nil_)).mono eu⟩) .non_⟩
variable{co:CE}{cr:CA}{o:QF}{i_ j_:Pos}
theorem d9 (ho : QE X o co) (ha : QA X (e :: es) cr) (K_ : attributeBase o "append" X.env (eval o X.env) = eval o X.env := by rfl) (R8 : ((ZL j_ (Q6 (e :: es) X.env)).all (λx => !x.1) && (backToKw j_ (keywordEach [] X.env)).all (λx => x.1.isSome)
   && decide ((e::es).length+([]:List Keyword).length+(if ([]:List Keyword).isEmpty then 0 else 1)<30))=true:=by rfl) (J_:(i_.endLine == j_.line)=true:=by rfl) (hs:Q6 (e::es) X.env=(false,eval e X.env)::Q6 es X.env:=by rfl) (E_:(ZL j_ (Q6 es X.env)).any (·.1)=false:=by rfl) :
  QE X (.Call (.Attribute o "append" i_) (e::es) [] j_) (cBM c7 co cr):=(vI YJ PySem.F.slot_list_append PySem.F.type_list_append mP ho ha.h K_ R8 J_ hs E_).imp (xi CF)
end
structure TC(K:Q1)(c:Cl)(NS:List Str):Prop where
 cl:Cls K c.C
 ns:c.ns=NS
 nas:∀f∈NS,jA K c.C f
section
variable{c:Cl}{NS:List Str}
def TC.ix(T:TC K c NS){i:Nat}{f:Str}(h:NS[i]?=some f):c.ns[i]?=some f:=by rw[T.ns];exact h
def TC.na(T:TC K c NS)(i:Nat){f:Str}(h:NS[i]?=some f):jA K c.C f:=T.nas f (List.mem_of_getElem? h)
def TC.nm(T:TC K c NS){f:Str}(h:f∉NS):f∉c.ns:=by rw[T.ns];exact h
end
theorem _root_.L2.Fun.pure{P:Z7}{w:ZR}{K:Q1}{mg:Str->Option Q3}{base:Heap}{x qual:Str}{st:ZC}{f:Addr}{fd:Zo}{N ps:List Str}{k:Nat}{c:CS}(F:Fun K x qual st f fd)(S:aN N ps (ax st))
  (hb:∀(cdv:Q3) (A:ZE) (outer:List Env) (s:Q4) (H:Hp) (E:XK),eN k (A.deeper (envOfC qual (ax st) s.heap.objs.size f cdv))->
   WSs (sL CX0 P w K mg base N qual (ax st) f cdv A outer s H E).nox (cM st) (tS K c)):kF P w K mg base CX0 (k+1) f fd ps (BV K (fnU N.length ps.length c)):=
 Fun.okW F S (λvs H Q E h=>o7 h) λcdv A outer s H vs Q E hr h=>⟨_,hb cdv A outer s H E hr,uN (X:=(sL CX0 P w K mg base N qual (ax st) f cdv A outer s H E).nox) (body:=[]) (ps:=ps) rfl h⟩
section
variable{b_:List (Addr×Obj)}{s:Q4}{h':Heap}
theorem _root_.L2.Inv.turnedL{t':Nat}{ch:List Addr}(I:Inv X b_ σ H s)(k:∀b o,b∉ch->s.heap.get? b=some o->h'.get? b=some o)(hf:∀b∈ch,yq X b_ H b):Inv X b_ σ H { s with heap:=h',toks:=t' }:=by
 have nit:∀b u,H b=some u->b∉ch:=λb u e z=>by rw[(hf b z).1]at e;cases e
 refine I.step (g':=s.gens) (d':=s.drawn) (ch:=ch) (λb hb=>⟨(hf b hb).2.2.2.1,(hf b hb).2.1,(hf b hb).2.2.2.2.1,(hf b hb).2.2.2.2.2⟩) (λb o _ _ hc e _=>k b o hc e) (λb o _ _ hc e _=>⟨o.slots,k b o hc e⟩) (λ_ _ _ _ n=>n)
  (λb o hc e=>⟨o,k b o hc e⟩) (λ_ _ e=>e) (λ_ _ _ e=>e) (λb ps e=>⟨#[],by rw[e];simp⟩) (λm hm=>?_) (λb u e=>?_) I.bare
 let⟨o,es,ep,ho,r⟩:=hm;exact⟨o,es,ep,k _ o (λz=>(hf _ z).2.1 rfl) ho,r⟩;refine(I.hok b u e).stay (λc v hc q=>k c v ?_ q) (λ_ q=>q) λ_ _ q=>q;rcases hc with z|z;rw[z];exact nit b u e;exact nit c _ z
end
theorem Cd{h:Heap}{ob o:Obj}{e:Addr}(q:(h.push ob).get? e=some o)(ne:e≠h.objs.size):h.get? e=some o:=(Heap.get?_push_ne h e ob ne).symm.trans q
theorem Cv{P:Z7}{w:ZR}{H:Hp}{h:Heap}{a:Addr}{x y:V}{u v:Q3}(e:h.get? a=some { cls:=.type "tuple",data:=.seq #[u,v] })(rx:bS x u)(ry:bS y v):cU P w H h a (.tup [x,y]):=
 ⟨by show 2<=QU;decide,[u,v],.cons rx (.cons ry .nil),⟨_,e,⟨rfl,rfl⟩,_,rfl⟩⟩
def A5:ZS "enumerate"=some (.type "enumerate"):=rfl
def uW(us:List U):List U:=us.zipIdx.map λp=>.tup [.int p.2,p.1]
def ke:List (CE×CE)->Rho->Sto->Option (List (Key×U)×Sto)
 |[],_,S=>some ([],S)
 |(ck,cv)::r,ρ,S=>(ck ρ S).bind λp=>(cv ρ p.2).bind λq=>(lJ p.1).bind λk=>(ke r ρ q.2).bind λz=>some ((k,q.1)::z.1,z.2)
def zS(kus:List (Key×U))(au:List (Key×U)):List (Key×U):=kus.foldl (λacc kv=>dJ acc kv.1 kv.2) au
def oH(kus:List (Key×U)):List (Key×U):=zS kus []
def yf(prs:List (CE×CE)):CE:=λρ S=>(ke prs ρ (S++[.dic []])).bind λq=>match q.2[S.length]? with
 |some (.dic [])=>some (.ref S.length,q.2.set S.length (.dic (oH q.1)))
 |_=>none
def QP(X:Cx)(pos:Pos)(q_:List (Option QF))(u_:List QF)(prs:List (CE×CE)):Prop:=PPs X pos q_ u_ (prs.map λp=>(tE X.K p.1,tE X.K p.2))
def EB:QP X pos [] [] []:=GD
theorem fE{k v:QF}{ks:List (Option QF)}{vs:List QF}{ck cv:CE}{prs:List (CE×CE)}(hk:QE X k ck)(hv:QE X v cv)(hr:QP X pos ks vs prs):QP X pos (some k::ks) (v::vs) ((ck,cv)::prs):=Cj hk.h hv.h hr
theorem rp{K:Q1}{ρ:Rho}{σ:L2.St}:∀{prs:List (CE×CE)} {m:List Addr} {S S':Sto} {H:Hp} {kus:List (Key×U)} {R:List (V×V)->Hp->Prop},Sr K m S H->Lr K m H ρ σ->ke prs ρ S=some (kus,S')->
  (∀m' kvs H',Ext K m H m' H'->Sr K m' S' H'->IsP K m' H' kvs kus->R (kvs.map λkv=>(kV kv.1,kv.2)) H')->vP (prs.map λp=>(tE K p.1,tE K p.2)) σ H R
 |[],m,S,S',H,kus,R,sr,lr,hc,k=>by cases hc;exact k m [] H .refl sr .nil_
 |(ck,cv)::r,m,S,S',H,kus,R,sr,lr,hc,k=>by
  let⟨⟨x,S1⟩,h1,h⟩:=Q0.mp hc;let⟨⟨y,S2⟩,h2,h⟩:=Q0.mp h;let⟨kk,h3,h⟩:=Q0.mp h;let⟨⟨zs,S3⟩,h4,h⟩:=Q0.mp h;cases h;refine⟨m,ρ,S,x,S1,sr,lr,h1,λm1 v1 H1 e1 sr1 i1=>⟨m1,ρ,S1,y,S2,sr1,lr.mono e1,h2,λm2 v2 H2 e2 sr2 i2=>?_⟩⟩;refine rp (prs:=r) sr2 (lr.mono (e1.trans e2)) h4 λm3 kvs H3 e3 sr3 ip=>?_;have ek:=iW i1 h3;subst ek;exact k m3 ((kk,v2)::kvs) H3 ((e1.trans e2).trans e3) sr3 (.cons_ (i2.mono e3) ip)
theorem oG:∀{prs:List (CE×CE)} {ρ:Rho} {S S':Sto} {kus:List (Key×U)},ke prs ρ S=some (kus,S')->kus.length=prs.length
 |[],_,_,_,_,h=>by cases h;rfl
 |(ck,cv)::r,ρ,S,S',kus,hc=>by
  let⟨⟨x,S1⟩,h1,h⟩:=Q0.mp hc;let⟨⟨y,S2⟩,h2,h⟩:=Q0.mp h;let⟨kk,h3,h⟩:=Q0.mp h;let⟨⟨zs,S3⟩,h4,h⟩:=Q0.mp h;cases h;simp[oG h4]
theorem IsP.merge{K:Q1}{m:List Addr}{H:Hp}{kvs:List (Key×V)}{kus:List (Key×U)}(h:IsP K m H kvs kus):∀(av:List (Key×V)) (au:List (Key×U)),IsP K m H av au->IsP K m H (lI av kvs) (zS kus au):=
 IsP.ind (P:=λkvs kus=>∀(av:List (Key×V)) (au:List (Key×U)),IsP K m H av au->IsP K m H (lI av kvs) (zS kus au)) (λ_ _ h=>h) (λk v u kvs kus i _ ih av au ha=>ih _ _ (ha.put (k:=k) i)) h
theorem EE{q_:List (Option QF)}{u_:List QF}{prs:List (CE×CE)}(h:QP X pos q_ u_ prs)(RA:q_.all (·.isSome)=true)(hl:q_.length=u_.length)(h0:q_≠[])(h15:q_.length<=15)(hp:prs.length<=15):QE X (.Dict q_ u_ pos) (yf prs):=
 (BK h RA hl h0 h15).imp λσ H Q hz=>kY hz λm ρ S u S' sr lr hc post=>by
 let⟨⟨kus,S1⟩,h1,h2⟩:=Q0.mp hc;simp only at h2;split at h2<;>try cases h2
 rename_i hS;intro p hp';have ee:Ext X.K m H (m++[p]) (upd H p (.dK [])):=.new (bO hp' _);refine rp (sr.new (o:=.dic []) hp' ⟨[],aF,.nil_⟩) (lr.mono ee) h1 λm1 kvs H1 e1 sr1 ip=>?_;have ha:m1[S.length]?=some p:=e1.get (ed sr.len);let⟨a',ha',kv0,hx,ip0⟩:=sr1.get hS;rw[ha]at ha';cases ha';have e0:kv0=[]:=by have:=IsP.length ip0;simpa using this
 subst e0;have eu:Ext X.K m1 H1 m1 (upd H1 p (.dK (lI [] kvs))):=.of (sr1.keep ha _);refine⟨hx,kvs,rfl,by rw[IsP.length ip,oG h1];exact hp,post m1 _ _ ((ee.trans e1).trans eu) (sr1.put (o:=.dic (oH kus)) ha ⟨_,aF,(IsP.merge ip _ _ .nil_).mono eu⟩) (.ref_ ha)⟩
theorem rR:∀{vs:List Q3} {ns:List Int},IntsAre vs ns->bE (ns.map V.int) vs
 |_,_,.nil=>.nil
 |_,_,.cons n t r=>.cons ⟨t,rfl⟩ (rR r)
theorem iF:∀{ns:List Int} {vs:List Q3},bE (ns.map V.int) vs->IntsAre vs ns
 |[],_,h=>by cases h;exact .nil
 |n::ns,_,.cons r t=>by
  let⟨k,rfl⟩:=r;exact .cons n k (iF t)
def zf(K:Q1):List V->Hp->VK->Prop:=λxs H Q=>∃(p:Addr) (ns:List Int),xs=[.ref p]/\(SqL K H p (ns.map V.int)\/∃kvs,H p=some (.dK kvs)/\kvs.map (·.1)=ns.map Sum.inl)/\ns.length<64/\
 ∀(l:Addr) (ms:List Int),H l=none->ms.Perm ns->ms.Pairwise (·<=·)->Q (.ref l) (upd H l (.lst (ms.map V.int)))
theorem uD{κ:Type}:∀{kvs:List (κ×V)} {vs:List (κ×Q3)},KV kvs vs->vs.map (·.1)=kvs.map (·.1)
 |_,_,.nil=>rfl
 |_,_,.cons r t=>by rw[QL,QL,uD t,r.1]
theorem zY{P:Z7}{w:ZR}{H:Hp}{h:Heap}{a:Addr}{ms:List Int}{out:Array Q3}{e:Nat}(g:h.get? a=some (seqObj "list" out e))(hI:IntsAre out.toList ms)(hl:ms.length<64):cU P w H h a (.lst (ms.map V.int)):=
 ⟨by rw[QX];exact YS (QN hl (by unfold QU;decide)),out.toList,e,rR hI,by rw[Array.toArray_toList];exact g⟩
theorem wA{X:Cx}(hc:X.calm=true):ft X (.builtin "sorted") (zf X.K):=by
 rintro b_ s σ H xs us Q I r ⟨p,ns,rfl,src,h64,q⟩;let⟨u,rfl,ru⟩:=lL r;cases ru;rcases src with hL|⟨kvs,hD,hk⟩;let⟨its,rv,pl,hz⟩:=I.list hL;have hI:=iF rv;have p_:=rv.length;rw[QX]at p_;refine sorted_ints pl.isList hI ⋯ λout ms a1 a2 a3=>?_;let⟨e,ge⟩:=sortedAll_at s.heap its out;have hf:=I.hok.fresh (Nat.le_succ s.heap.objs.size);exact⟨.ref (s.heap.objs.size+1),_,I.laid (t':=s.toks) (λb o e=>sortedAll_old e) (Nat.le_succ _) (zY ge a1 (by rw[a2.length_eq];exact h64)),rfl,q _ ms hf a2 a3⟩;let⟨z,hd,vs,rel,dd⟩:=qt I.hok hD;let⟨ep,da⟩:=dd.dictAt;have lkv:kvs.length=ns.length:=by have:=congrArg List.length hk;simpa using this
 have lv:vs.length=ns.length:=by rw[<-Paired.length rel];exact lkv
 have ks:vs.map (·.1)=ns.map Sum.inl:=by
  rw[<-hk];exact uD rel
 refine Calls.call_function_entry kind_sorted plain_sorted entry_sorted (args_sorted1 _) ?_;unfold Builtin.«sorted»;refine Q2 (m:=checkCount "sorted" 1 1 _) (QJ (Q2 (PySem.W.kdu_collect (PySem.W.kdl_dict (kvs:=vs) (ep:=ep) hd) (show X.A.in1.handled=none from I.ok.hd hc) da (by rw[lv,<-lkv];exact z) λh1 tk acc up hac=>?_)));have hla:acc.toList.length=ns.length:=by rw[ZY,hac.1,lv]
 have hI:IntsAre acc.toList ns:=by
  have key:∀(i:Nat) (v:Q3),acc.toList[i]?=some v->∃(n:Int) (t:Tok),ns[i]?=some n/\v=Value.int n t:=λi v e=>by
   let⟨k,x,e1,e2⟩:=hac.2 i v (by rw[<-XG];exact e);have e3:(vs.map (·.1))[i]?=some k:=by rw[ZH,e1];rfl
   rw[ks,ZH]at e3;let⟨n,e4,e5⟩:=Zq.mp e3;subst e5;rcases br (k:=Sum.inl n) e2 with⟨j,t,e6,e7⟩|⟨j,t,e6,e7⟩;cases e6;exact⟨n,t,e4,e7⟩;cases e6
  clear hac;generalize acc.toList=L at key hla;clear ks lv lkv h64 q hk;induction L generalizing ns with
  |nil=>cases ns with
   |nil=>exact .nil
   |cons a b=>simp at hla
  |cons a b ih=>cases ns with
   |nil=>simp at hla
   |cons c d=>
    let⟨n,t,e1,e2⟩:=key 0 a nofun;simp at e1;subst e1;subst e2;exact .cons _ t (ih _ (λi v e=>by have:=key (i+1) v ‹e›;simpa using this) ‹hla›)
 refine Q2 (wpAny_newList ?_ (by rw[hla,<-lkv];exact z));have gL:(h1.push { cls:=.type "list",data:=.seq acc.toList.toArray }).get? h1.objs.size=some (seqObj "list" acc.toList.toArray 0):=Z0 _ rfl;refine Q2 (wpAny_holding (wpAny_call_entry slot_list_sort ⟨_,gL,rfl⟩ entry_list_sort (list_sort_tree (s:={ s with heap:=h1.push { cls:=.type "list",data:=.seq acc.toList.toArray },toks:=tk }) gL hI ⋯ λout ms a1 a2 a3=>⟨_,rfl,?_⟩) (args_list_sort _)));let⟨e,ge⟩:=sortedHeap_at (out:=out) gL;have I1:Inv X b_ σ H { s with heap:=h1,toks:=tk }:=I.kept up;have hf:=I1.hok.fresh (QQ h1.objs.size);refine QJ ⟨_,rfl,.ref h1.objs.size,_,Inv.laid (s:={ s with heap:=h1,toks:=tk }) (h':=sortedHeap (h1.push { cls:=.type "list",data:=.seq acc.toList.toArray }) h1.objs.size acc.toList out) (t':=tk) I1 (λb o g1=>?_) (QQ _) (zY ge a1 (by rw[a2.length_eq];exact h64)),rfl,q _ ms hf a2 a3⟩;have g1:h1.get? b=some o:=g1;have lt1:=QY g1;rw[sortedHeap_old (ZZ lt1) (by rw[XN];exact Nat.lt_succ_of_lt lt1)];exact Q5 _ g1
def cg(ns:List Int):List Int:=ns.mergeSort (λa b=>decide (a<=b))
def jk(ns:List Int):(cg ns).Perm ns:=List.mergeSort_perm ..
theorem qW(ns:List Int):(cg ns).Pairwise (·<=·):=by
 have:=List.pairwise_mergeSort (le:=λ(a b:Int)=>decide (a<=b)) (λa b c h1 h2=>by simp at h1 h2 ⊢;omega) (λa b=>by simp;omega) ns;exact this.imp λh=>by simpa using h
theorem vW{ns ms:List Int}(p:ms.Perm ns)(s:ms.Pairwise (·<=·)):ms=cg ns:=PySem.W.lks_uniq (p.trans (jk ns).symm) s (qW ns)
def pY:List (Key×U)->Option (List Int)
 |[]=>some []
 |(.inl n,_)::r=>(pY r).map (n::·)
 |_=>none
theorem pX:∀{kus:List (Key×U)} {ns:List Int},pY kus=some ns->kus.map (·.1)=ns.map Sum.inl
 |[],ns,h=>by cases h;rfl
 |(k,u)::r,ns,h=>by
  cases k<;>simp only[pY]at h<;>try cases h
  let⟨ms,e,h⟩:=Zq.mp h;subst h;simp[pX e]
def iX:Fn
 |[.ref l],S=>match S[l]? with
  |some (.lst us)=>(uF us).bind λns=>if ns.length<64 then some (.ref S.length,S++[.lst ((cg ns).map U.int)])else none
  |some (.dic kus)=>(pY kus).bind λns=>if ns.length<64 then some (.ref S.length,S++[.lst ((cg ns).map U.int)])else none
  |_=>none
 |_,_=>none
theorem wk{K:Q1}:lV K (zf K) iX:=by
 intro m S H us vs u S' Q sr i hf post;match us,hf with
 |[.ref l],hf=>
  let⟨v,rfl,iv⟩:=i.one;let⟨a,ha,rfl⟩:=iv.of_ref;simp only[iX]at hf;split at hf<;>try cases hf
  ·rename_i ws hS;let⟨ns,hn,h⟩:=Q0.mp hf;split at h<;>try cases h
   have hc:ns.length<64:=by assumption
   let⟨a',ha',xs,hx,la⟩:=sr.get hS;rw[ha]at ha';cases ha';rw[p6 hn]at la;rw[la.ints]at hx;refine⟨a,ns,rfl,.inl (SqL.of hx),hc,λp ms hp pm sm=>?_⟩;rw[vW pm sm];exact dC sr (jl _) post hp
  ·rename_i ws hS;let⟨ns,hn,h⟩:=Q0.mp hf;split at h<;>try cases h
   have hc:ns.length<64:=by assumption
   let⟨a',ha',kvs,hx,ip⟩:=sr.get hS;rw[ha]at ha';cases ha';refine⟨a,ns,rfl,.inr ⟨kvs,hx,by rw[ip.1,pX hn]⟩,hc,λp ms hp pm sm=>?_⟩;rw[vW pm sm];exact dC sr (jl _) post hp
variable{cc:CE}{x:U}
section
variable{t:CT}{cr:CA}{u y:U}{f g:U->U->Sto->Option (U×Sto)}{b:Bool}
def Pw(S:Sto):Option (Option U)->Option (U×Sto)
 |some (some u)=>some (u,S)
 |_=>none
def Fb:ah i ρ S=Pw S (ρ[i]?):=rfl
def yu:Pw S (some (some u))=some (u,S):=rfl
def x_c:cC u ρ S=some (u,S):=rfl
def Ot(f:U->U->Sto->Option (U×Sto))(x:U)(q:U×Sto):=f x q.1 q.2
def PF(f:U->U->Sto->Option (U×Sto))(cb:CE)(ρ:Rho)(p:U×Sto):=(cb ρ p.2).bind (Ot f p.1)
def MN:cOp f ca cb ρ S=(ca ρ S).bind (PF f cb ρ):=rfl
def Fe:PF f cb ρ (x,S)=(cb ρ S).bind (Ot f x):=rfl
def Fd:Ot f x (y,S)=f x y S:=rfl
def K3:U×Sto->Option (Bool×Sto)
 |(.bl b,S)=>some (b,S)
 |_=>none
theorem vz:aG ca ρ S=(ca ρ S).bind K3:=by
 unfold aG;congr 1;funext p;let⟨u,S⟩:=p;cases u<;>rfl
def tV:K3 (.bl b,S)=some (b,S):=rfl
def OC(tb:CT)(ρ:Rho)(p:Bool×Sto):=if p.1=true then tb ρ p.2 else some (false,p.2)
def kOr(tb:CT)(ρ:Rho)(p:Bool×Sto):=if p.1=true then some (true,p.2)else tb ρ p.2
def PH(p:Bool×Sto):Option (Bool×Sto):=some (!p.1,p.2)
def Nw:A4 ta tb ρ S=(ta ρ S).bind (OC tb ρ):=rfl
def Ja:OC tb ρ (true,S)=tb ρ S:=rfl
def I0:OC tb ρ (false,S)=some (false,S):=rfl
def O7:cOr ta tb ρ S=(ta ρ S).bind (kOr tb ρ):=rfl
def MM:kOr tb ρ (true,S)=some (true,S):=rfl
def ML:kOr tb ρ (false,S)=tb ρ S:=rfl
def MO:sS ta ρ S=(ta ρ S).bind PH:=rfl
def IH:PH (b,S)=some (!b,S):=rfl
def Oq(cb:CE)(ρ:Rho):U×Sto->Option (U×Sto)
 |(.bl false,S)=>cb ρ S
 |(.bl true,S)=>some (.bl true,S)
 |_=>none
theorem MK:Mu ca cb ρ S=(ca ρ S).bind (Oq cb ρ):=by
 unfold Mu;congr 1;funext p;let⟨u,S⟩:=p;cases u with
 |bl b=>cases b<;>rfl
 |_=>rfl
def IG:Oq cb ρ (.bl false,S)=cb ρ S:=rfl
def IF:Oq cb ρ (.bl true,S)=some (.bl true,S):=rfl
def Ao(u:U)(q:List U×Sto):Option (List U×Sto):=some (u::q.1,q.2)
def EL(cr:CA)(ρ:Rho)(p:U×Sto):=(cr ρ p.2).bind (Ao p.1)
def Ff:aE ρ S=some ([],S):=rfl
def vE:ag ca cr ρ S=(ca ρ S).bind (EL cr ρ):=rfl
def tY:EL cr ρ (u,S)=(cr ρ S).bind (Ao u):=rfl
def tW:Ao u (us,S)=some (u::us,S):=rfl
def Py(p:List U×Sto):Option (U×Sto):=some (.tup p.1,p.2)
def PJ(p:List U×Sto):Option (U×Sto):=some (.ref p.2.length,p.2++[.lst p.1])
def MB:jh cr ρ S=(cr ρ S).bind Py:=rfl
def Iu:Py (us,S)=some (.tup us,S):=rfl
def MT:jn cr ρ S=(cr ρ S).bind PJ:=rfl
def IJ:PJ (us,S)=some (.ref S.length,S++[.lst us]):=rfl
def kCB(f:Fn)(p:List U×Sto):=f p.1 p.2
def LY{f:Fn}:cCB f cr ρ S=(cr ρ S).bind (kCB f):=rfl
def Fv{f:Fn}:kCB f (us,S)=f us S:=rfl
def K4(c2:CS):Out×Rho×Sto->Option (Out×Rho×Sto)
 |(.nx,ρ,S)=>c2 ρ S
 |(o,ρ,S)=>some (o,ρ,S)
def Ef:bI ρ S=some (.nx,ρ,S):=rfl
theorem oS:aT c1 c2 ρ S=(c1 ρ S).bind (K4 c2):=by
 unfold aT;congr 1;funext p;let⟨o,ρ,S⟩:=p;cases o<;>rfl
def vA:K4 c2 (.nx,ρ,S)=c2 ρ S:=rfl
def IC:K4 c2 (.rt u,ρ,S)=some (.rt u,ρ,S):=rfl
def IB:K4 c2 (.bk,ρ,S)=some (.bk,ρ,S):=rfl
def IA:K4 c2 (.ct,ρ,S)=some (.ct,ρ,S):=rfl
def K7(ρ:Rho)(p:U×Sto):Option (Out×Rho×Sto):=some (.nx,ρ,p.2)
def PD(ρ:Rho)(p:U×Sto):Option (Out×Rho×Sto):=some (.rt p.1,ρ,p.2)
def IT:gP ca ρ S=(ca ρ S).bind (K7 ρ):=rfl
def Fq:K7 ρ (u,S)=some (.nx,ρ,S):=rfl
def IE:bV ca ρ S=(ca ρ S).bind (PD ρ):=rfl
def ID:PD ρ (u,S)=some (.rt u,ρ,S):=rfl
def Ou(c1 c2:CS)(ρ:Rho)(p:Bool×Sto):=if p.1=true then c1 ρ p.2 else c2 ρ p.2
def jT:dh t c1 c2 ρ S=(t ρ S).bind (Ou c1 c2 ρ):=rfl
def yB:Ou c1 c2 ρ (true,S)=c1 ρ S:=rfl
def yA:Ou c1 c2 ρ (false,S)=c2 ρ S:=rfl
def Pz(i:Nat)(ρ:Rho)(p:U×Sto):Option (Out×Rho×Sto):=some (.nx,ρ.set i (some p.1),p.2)
def Fc:cH i ca ρ S=(ca ρ S).bind (Pz i ρ):=rfl
def yv:Pz i ρ (u,S)=some (.nx,ρ.set i (some u),S):=rfl
def Hn(q:Rho×Sto):Option (Out×Rho×Sto):=some (.nx,q.1,q.2)
def PL(g:CG)(ρ:Rho)(p:U×Sto):=(g p.1 ρ p.2).bind Hn
def IZ{g:CG}:HI ca g ρ S=(ca ρ S).bind (PL g ρ):=rfl
def IY{g:CG}:PL g ρ (u,S)=(g u ρ S).bind Hn:=rfl
def IX:Hn (ρ,S)=some (.nx,ρ,S):=rfl
def M9:gNm i u ρ S=some (ρ.set i (some u),S):=rfl
def M8{is:List Nat}:gTp is (.tup us) ρ S=(ig is us ρ).bind λρ'=>some (ρ',S):=rfl
def Jc:ig [] [] ρ=some ρ:=rfl
def Jb{is:List Nat}:ig (i::is) (u::us) ρ=ig is us (ρ.set i (some u)):=rfl
def K5(ρ:Rho)(S':Sto):Option (Out×Rho×Sto):=some (.nx,ρ,S')
def Om(o v:U)(ρ:Rho)(r:U×Sto):=(m8 o r.1 v r.2).bind (K5 ρ)
def Oo(ci:CE)(v:U)(ρ:Rho)(q:U×Sto):=(ci ρ q.2).bind (Om q.1 v ρ)
def kSI(co ci:CE)(ρ:Rho)(p:U×Sto):=(co ρ p.2).bind (Oo ci p.1 ρ)
def Qb:dM ca cb cc ρ S=(cc ρ S).bind (kSI ca cb ρ):=rfl
def MG:kSI ca cb ρ (u,S)=(ca ρ S).bind (Oo cb u ρ):=rfl
def MF:Oo cb y ρ (u,S)=(cb ρ S).bind (Om u y ρ):=rfl
def ME:Om x y ρ (u,S)=(m8 x u y S).bind (K5 ρ):=rfl
def MD:K5 ρ S=some (.nx,ρ,S):=rfl
def kIx(y:U)(S:Sto):Option O->Option (U×Sto)
 | some (.lst us)=>(match y with
   |.int i=>(atI us i).bind λu=>some (u,S)
   |_=>none)
 |some (.dic kus)=>(lJ y).bind λk=>(aZ kus k).bind λu=>some (u,S)
 |some (.fdc _ kus)=>(lJ y).bind λk=>(aZ kus k).bind λu=>some (u,S)
 |_=>none
def MU{j:Int}:fIx (.tup us) (.int j) S=(atI us j).bind λu=>some (u,S):=rfl
theorem MV:fIx (.ref l) y S=kIx y S S[l]?:=by
 unfold fIx kIx;dsimp only<;>(generalize S[l]?=q;rcases q with _|o<;>first|rfl|(cases o<;>rfl))
def MW{j:Int}:kIx (.int j) S (some (.lst us))=(atI us j).bind λu=>some (u,S):=rfl
theorem Bx{ep:Nat}{kus:List (Key×U)}:kIx y S (some (.fdc ep kus))=(lJ y).bind λk=>(aZ kus k).bind λu=>some (u,S):=rfl
def MY{kus:List (Key×U)}:kIx y S (some (.dic kus))=(lJ y).bind λk=>(aZ kus k).bind λu=>some (u,S):=rfl
def Mb(l:Nat)(i v:U)(S:Sto):Option O->Option Sto
 | some (.lst us)=>(match i with
   |.int k=>(ixN us.length k).bind λj=>some (S.set l (.lst (us.set j v)))
   |_=>none)
 |some (.dic kus)=>(lJ i).bind λk=>if kus.length<LIM then some (S.set l (.dic (dJ kus k v)))else none
 |_=>none
theorem MC:m8 (.ref l) x y S=Mb l x y S S[l]?:=by
 unfold m8 Mb;dsimp only<;>(generalize S[l]?=q;rcases q with _|o<;>first|rfl|(cases o<;>rfl))
theorem Iw{j:Int}:Mb l (.int j) y S (some (.lst us))=(ixN us.length j).bind λj=>some (S.set l (.lst (us.set j y))):=rfl
theorem Iy{kus:List (Key×U)}:Mb l x y S (some (.dic kus))=(lJ x).bind λk=>if kus.length<LIM then some (S.set l (.dic (dJ kus k y)))else none:=rfl
def at0{α:Type}{a:α}{r:List α}:atI (a::r) 0=some a:=by show atI _ ((0:Nat):Int)=_;exact lh rfl
def at1{α:Type}{a b:α}{r:List α}:atI (a::b::r) 1=some b:=by show atI _ ((1:Nat):Int)=_;exact lh rfl
def at2{α:Type}{a b c:α}{r:List α}:atI (a::b::c::r) 2=some c:=by show atI _ ((2:Nat):Int)=_;exact lh rfl
def at3{α:Type}{a b c d:α}{r:List α}:atI (a::b::c::d::r) 3=some d:=by show atI _ ((3:Nat):Int)=_;exact lh rfl
def ix0{n:Nat}:ixN (n+1) 0=some 0:=by simp[ixN]
def ix1{n:Nat}:ixN (n+1+1) 1=some 1:=by simp[ixN];omega
def ix2{n:Nat}:ixN (n+1+1+1) 2=some 2:=by simp[ixN];omega
def Mf(S:Sto):Option O->Option (U×Sto)
 |some (.lst us)=>some (.int us.length,S)
 |some (.dic us)=>some (.int us.length,S)
 |_=>none
theorem IL:sF [.ref l] S=Mf S S[l]?:=by
 unfold sF Mf;dsimp only<;>(generalize S[l]?=q;rcases q with _|o<;>first|rfl|(cases o<;>rfl))
def IM:Mf S (some (.lst us))=some (.int us.length,S):=rfl
def IP{kus:List (Key×U)}:Mf S (some (.dic kus))=some (.int kus.length,S):=rfl
def IK:sF [.tup us] S=some (.int us.length,S):=rfl
variable{j k:Int}
def Fy:sG (.int j) (.int k) S=some (.int (j+k),S):=rfl
def qO(h:Bn j k):n9 (.int j) (.int k) S=some (.int (j*k),S):=by simp[n9,fI,h]
def IV(h:yl j k):EX (.int j) (.int k) S=some (.int (j / k),S):=by simp[EX,fI,h]
def yy(h:0<k):uS (.int j) (.int k) S=some (.int (j % k),S):=by simp[uS,fI,h]
def MS:fLt (.int j) (.int k) S=some (.bl (decide (j<k)),S):=rfl
def Qi:fLe (.int j) (.int k) S=some (.bl (decide (j<=k)),S):=rfl
def Qj:fGt (.int j) (.int k) S=some (.bl (decide (k<j)),S):=rfl
def Qk:fGe (.int j) (.int k) S=some (.bl (decide (k<=j)),S):=rfl
def Nh:fEq (.int j) (.int k) S=some (.bl (decide (j=k)),S):=rfl
def MQ:fNe (.int j) (.int k) S=some (.bl (!decide (j=k)),S):=rfl
def Ng{a c:Str}:fEq (.str a) (.str c) S=some (.bl (decide (a=c)),S):=rfl
def MP{a c:Str}:fNe (.str a) (.str c) S=some (.bl (!decide (a=c)),S):=rfl
def Ni{a c:Bool}:fEq (.bl a) (.bl c) S=some (.bl (decide (a=c)),S):=rfl
def MR{a c:Bool}:fNe (.bl a) (.bl c) S=some (.bl (!decide (a=c)),S):=rfl
def kFn:Out×Rho×Sto->Option (U×Sto)
 |(.rt u,_,S)=>some (u,S)
 |(.nx,_,S)=>some (.non,S)
 |_=>none
theorem tN{n k:Nat}(h:us.length=k):fnU n k c1 us S=(c1 (oz n us) S).bind kFn:=by
 unfold fnU;rw[XO h];congr 1;funext p;let⟨o,ρ,S⟩:=p;cases o<;>rfl
def uY{c:CS}{a0:U}{S:Sto}:fnU 1 1 c [a0] S=(c [some a0] S).bind kFn:=tN rfl
def uX{c:CS}{a0 a1:U}{S:Sto}:fnU 2 2 c [a0,a1] S=(c [some a0,some a1] S).bind kFn:=tN rfl
def OR{c:CS}{a0:U}{S:Sto}:fnU 3 1 c [a0] S=(c [some a0,none,none] S).bind kFn:=tN rfl
def x6{c:CS}{a0 a1:U}{S:Sto}:fnU 3 2 c [a0,a1] S=(c [some a0,some a1,none] S).bind kFn:=tN rfl
def AM{c:CS}{a0 a1 a2:U}{S:Sto}:fnU 3 3 c [a0,a1,a2] S=(c [some a0,some a1,some a2] S).bind kFn:=tN rfl
def kZ{c:CS}{a0 a1:U}{S:Sto}:fnU 4 2 c [a0,a1] S=(c [some a0,some a1,none,none] S).bind kFn:=tN rfl
def OO{c:CS}{a0 a1 a2:U}{S:Sto}:fnU 4 3 c [a0,a1,a2] S=(c [some a0,some a1,some a2,none] S).bind kFn:=tN rfl
theorem ON{c:CS}{a0 a1 a2 a3:U}{S:Sto}:fnU 4 4 c [a0,a1,a2,a3] S=(c [some a0,some a1,some a2,some a3] S).bind kFn:=tN rfl
def OM{c:CS}{a0:U}{S:Sto}:fnU 5 1 c [a0] S=(c [some a0,none,none,none,none] S).bind kFn:=tN rfl
def DG{c:CS}{a0 a1:U}{S:Sto}:fnU 5 2 c [a0,a1] S=(c [some a0,some a1,none,none,none] S).bind kFn:=tN rfl
def DD{c:CS}{a0 a1 a2:U}{S:Sto}:fnU 5 3 c [a0,a1,a2] S=(c [some a0,some a1,some a2,none,none] S).bind kFn:=tN rfl
theorem Ls{c:CS}{a0 a1 a2 a3:U}{S:Sto}:fnU 5 4 c [a0,a1,a2,a3] S=(c [some a0,some a1,some a2,some a3,none] S).bind kFn:=tN rfl
def OK{c:CS}{a0 a1:U}{S:Sto}:fnU 6 2 c [a0,a1] S=(c [some a0,some a1,none,none,none,none] S).bind kFn:=tN rfl
theorem OJ{c:CS}{a0 a1 a2:U}{S:Sto}:fnU 6 3 c [a0,a1,a2] S=(c [some a0,some a1,some a2,none,none,none] S).bind kFn:=tN rfl
theorem lT{c:CS}{a0 a1:U}{S:Sto}:fnU 8 2 c [a0,a1] S=(c [some a0,some a1,none,none,none,none,none,none] S).bind kFn:=tN rfl
theorem OI{c:CS}{a0 a1 a2 a3:U}{S:Sto}:fnU 9 4 c [a0,a1,a2,a3] S=(c [some a0,some a1,some a2,some a3,none,none,none,none,none] S).bind kFn:=tN rfl
def Nd:kFn (.rt u,ρ,S)=some (u,S):=rfl
def Na:kFn (.nx,ρ,S)=some (.non,S):=rfl
end
section
variable{cr:CA}{u:U}{b:Bool}{c:Cl}{g:Fn}
open Classical in
def Dh(c:Cl)(i:Nat)(S:Sto):Option O->Option (U×Sto)
 |some (.ins c' fus)=>if c'=c then(fus[i]?).join.bind λu=>some (u,S)else none
 |_=>none
def HY(c:Cl)(i:Nat)(p:U×Sto):=Ll c i p.1 p.2
def Nf:bD c i ca ρ S=(ca ρ S).bind (HY c i):=rfl
theorem Ej:HY c i (.ref l,S)=Dh c i S S[l]?:=by
 unfold HY Ll Dh;dsimp only<;>(generalize S[l]?=q;rcases q with _|o<;>first|rfl|(cases o<;>rfl))
theorem Ei:Dh c i S (some (.ins c fus))=((fus[i]?).join).bind λu=>some (u,S):=by
 unfold Dh;dsimp only;rw[XO rfl]
open Classical in
def Mc(c:Cl)(i l:Nat)(v:U)(S:Sto):Option O->Option Sto
 |some (.ins c' fus)=>if c'=c then some (S.set l (.ins c (fus.set i (some v))))else none
 |_=>none
def Md(c:Cl)(i:Nat)(v:U)(ρ:Rho)(q:U×Sto):=(AF c i q.1 v q.2).bind (K5 ρ)
def PB(c:Cl)(i:Nat)(ca:CE)(ρ:Rho)(p:U×Sto):=(ca ρ p.2).bind (Md c i p.1 ρ)
def Qc:gO c i ca cb ρ S=(cb ρ S).bind (PB c i ca ρ):=rfl
def MJ:PB c i ca ρ (u,S)=(ca ρ S).bind (Md c i u ρ):=rfl
theorem MI:Md c i u ρ (.ref l,S)=(Mc c i l u S S[l]?).bind (K5 ρ):=by
 unfold Md AF Mc;dsimp only<;>(generalize S[l]?=q;rcases q with _|o<;>first|rfl|(cases o<;>rfl))
theorem MH:Mc c i l u S (some (.ins c fus))=some (S.set l (.ins c (fus.set i (some u)))):=by
 unfold Mc;dsimp only;rw[XO rfl]
def An(g:Fn)(l:Nat)(q:List U×Sto):=g (.ref l::q.1) q.2
open Classical in
def wL(c:Cl)(g:Fn)(cr:CA)(ρ:Rho)(l:Nat)(S:Sto):Option O->Option (U×Sto)
 |some (.ins c' _)=>if c'=c then(cr ρ S).bind (An g l)else none
 |_=>none
def Hm(c:Cl)(g:Fn)(cr:CA)(ρ:Rho)(p:U×Sto):=AG c g p.1 p.2 (cr ρ)
def II:bA c g ca cr ρ S=(ca ρ S).bind (Hm c g cr ρ):=rfl
theorem Fi:Hm c g cr ρ (.ref l,S)=wL c g cr ρ l S S[l]?:=by
 unfold Hm AG wL;dsimp only<;>(generalize S[l]?=q;rcases q with _|o<;>first|rfl|(cases o<;>rfl))
theorem Fh:wL c g cr ρ l S (some (.ins c fus))=(cr ρ S).bind (An g l):=by
 unfold wL;dsimp only;rw[XO rfl]
def Fg:An g l (us,S)=g (.ref l::us) S:=rfl
def K6(n:Nat):U×Sto->Option (U×Sto)
 |(.non,S)=>some (.ref n,S)
 |_=>none
theorem Eg:qj c g us S=(g (.ref S.length::us) (S++[.ins c (QR c.ns.length none)])).bind (K6 S.length):=by
 unfold qj;congr 1;funext p;let⟨u,S⟩:=p;cases u<;>rfl
def Fj:K6 i (.non,S)=some (.ref i,S):=rfl
def kIn(neg:Bool)(x:U)(S:Sto):Option O->Option (U×Sto)
 |some (.lst us)=>if lS x=true/\us.all lS=true then some (.bl (if neg then !inU x us else inU x us),S)else none
 |some (.dic kus)=>(lJ x).bind λk=>some (.bl (if neg then !(aZ kus k).isSome else(aZ kus k).isSome),S)
 |some (.fdc _ kus)=>(lJ x).bind λk=>some (.bl (if neg then !(aZ kus k).isSome else(aZ kus k).isSome),S)
 |_=>none
theorem MZ{neg:Bool}:fIn neg x (.ref l) S=kIn neg x S S[l]?:=by
 unfold fIn kIn;dsimp only<;>(generalize S[l]?=q;rcases q with _|o<;>first|rfl|(cases o<;>rfl))
theorem M7{neg:Bool}{kus:List (Key×U)}:kIn neg x S (some (.dic kus))=(lJ x).bind λk=>some (.bl (if neg then !(aZ kus k).isSome else(aZ kus k).isSome),S):=rfl
def Bw{j:Int}:lJ (.int j)=some (.inl j):=rfl
def IQ{z:Str}:lJ (.str z)=some (.inr z):=rfl
def OA(f:U->List U->Sto->Option (U×Sto))(x:U)(q:List U×Sto):=f x q.1 q.2
def OB(f:U->List U->Sto->Option (U×Sto))(cr:CA)(ρ:Rho)(x:U)(S:Sto):Option O->Option (U×Sto)
 |some (.lst _)=>(cr ρ S).bind (OA f x)
 |_=>none
def kBM(f:U->List U->Sto->Option (U×Sto))(cr:CA)(ρ:Rho):U×Sto->Option (U×Sto)
 |(.ref l,S)=>OB f cr ρ (.ref l) S S[l]?
 |_=>none
variable{fm:U->List U->Sto->Option (U×Sto)}
theorem Qm:cBM fm ca cr ρ S=(ca ρ S).bind (kBM fm cr ρ):=by
 unfold cBM;congr 1;funext p;let⟨u,S⟩:=p;cases u<;>try rfl
def Nu:kBM fm cr ρ (.ref l,S)=OB fm cr ρ (.ref l) S S[l]?:=rfl
def Nt:OB fm cr ρ x S (some (.lst us))=(cr ρ S).bind (OA fm x):=rfl
def Nr:OA fm x (us,S)=fm x us S:=rfl
def Mg(l:Nat)(u:U)(S:Sto):Option O->Option (U×Sto)
 |some (.lst us)=>if us.length<LIM then some (.non,S.set l (.lst (us++[u])))else none
 |_=>none
theorem Nv:c7 (.ref l) [u] S=Mg l u S S[l]?:=by
 unfold c7 Mg;dsimp only<;>(generalize S[l]?=q;rcases q with _|o<;>first|rfl|(cases o<;>rfl))
theorem fA(h:us.length<LIM):Mg l u S (some (.lst us))=some (.non,S.set l (.lst (us++[u]))):=by
 unfold Mg;dsimp only;rw[XO h]
def Ov(ku xu:U)(S:Sto):Option O->Option (U×Sto)
 |some (.dic kus)=>(lJ ku).bind λk=>some ((aZ kus k).getD xu,S)
 |_=>none
def Ow(l:Nat)(ku:U)(r:U×Sto):=Ov ku r.1 r.2 r.2[l]?
def Ox(l:Nat)(cx:CE)(ρ:Rho)(q:U×Sto):=(cx ρ q.2).bind (Ow l q.1)
def Oy(l:Nat)(ck cx:CE)(ρ:Rho)(S:Sto):Option O->Option (U×Sto)
 |some (.dic _)=>(ck ρ S).bind (Ox l cx ρ)
 |_=>none
def kDG(ck cx:CE)(ρ:Rho):U×Sto->Option (U×Sto)
 |(.ref l,S)=>Oy l ck cx ρ S S[l]?
 |_=>none
theorem Ql:yg ca cb cc ρ S=(ca ρ S).bind (kDG cb cc ρ):=by
 unfold yg;congr 1;funext p;let⟨u,S⟩:=p;cases u<;>try rfl
def Nq:kDG cb cc ρ (.ref l,S)=Oy l cb cc ρ S S[l]?:=rfl
def Np{kus:List (Key×U)}:Oy l cb cc ρ S (some (.dic kus))=(cb ρ S).bind (Ox l cc ρ):=rfl
def Nl:Ox l cc ρ (u,S)=(cc ρ S).bind (Ow l u):=rfl
def Nk:Ow l u (x,S)=Ov u x S S[l]?:=rfl
def Nj{kus:List (Key×U)}:Ov u x S (some (.dic kus))=(lJ u).bind λk=>some ((aZ kus k).getD x,S):=rfl
def IU:oo ρ S=some (.ref S.length,S++[.dic []]):=rfl
def kP3(k:Key)(u:U)(z:List (Key×U)×Sto):Option (List (Key×U)×Sto):=some ((k,u)::z.1,z.2)
def kP2(r:List (CE×CE))(ρ:Rho)(x:U)(q:U×Sto):=(lJ x).bind λk=>(ke r ρ q.2).bind (kP3 k q.1)
def kP1(cv:CE)(r:List (CE×CE))(ρ:Rho)(p:U×Sto):=(cv ρ p.2).bind (kP2 r ρ p.1)
variable{pr:List (CE×CE)}
def Qh:ke [] ρ S=some ([],S):=rfl
def x_p:ke ((ca,cb)::pr) ρ S=(ca ρ S).bind (kP1 cb pr ρ):=rfl
def Qg:kP1 cb pr ρ (u,S)=(cb ρ S).bind (kP2 pr ρ u):=rfl
def Qe:kP2 pr ρ x (u,S)=(lJ x).bind λk=>(ke pr ρ S).bind (kP3 k u):=rfl
def Qd{k:Key}{z:List (Key×U)}:kP3 k u (z,S)=some ((k,u)::z,S):=rfl
def kD1(n:Nat)(kus:List (Key×U))(S:Sto):Option O->Option (U×Sto)
 |some (.dic [])=>some (.ref n,S.set n (.dic (oH kus)))
 |_=>none
def kD(n:Nat)(q:List (Key×U)×Sto):=kD1 n q.1 q.2 q.2[n]?
theorem IW:yf pr ρ S=(ke pr ρ (S++[.dic []])).bind (kD S.length):=by
 unfold yf;congr 1
def Fu{z:List (Key×U)}:kD i (z,S)=kD1 i z S S[i]?:=rfl
def Ft{z:List (Key×U)}:kD1 i z S (some (.dic []))=some (.ref i,S.set i (.dic (oH z))):=rfl
def Ip:kx [.tup us] S=some (.tup us,S):=rfl
def Ol(S:Sto):Option O->Option (U×Sto)
 |some (.lst us)=>some (.tup us,S)
 |_=>none
theorem Iq:kx [.ref l] S=Ol S S[l]?:=by
 unfold kx Ol;dsimp only<;>(generalize S[l]?=q;rcases q with _|o<;>first|rfl|(cases o<;>rfl))
def Ir:Ol S (some (.lst us))=some (.tup us,S):=rfl
def Fl:sE [.tup us] S=some (.ref S.length,S++[.lst us]):=rfl
def kLs(S:Sto):Option O->Option (U×Sto)
 |some (.lst us)=>some (.ref S.length,S++[.lst us])
 |_=>none
theorem Fo:sE [.ref l] S=kLs S S[l]?:=by
 unfold sE kLs;dsimp only<;>(generalize S[l]?=q;rcases q with _|o<;>first|rfl|(cases o<;>rfl))
def Fp:kLs S (some (.lst us))=some (.ref S.length,S++[.lst us]):=rfl
def IS:Lk [.bl b] S=some (.int (if b then 1 else 0),S):=rfl
def ga{X:Sto}{n:Nat}:(S++X)[S.length+n]?=X[n]?:=by rw[Zk (Nat.le_add_right _ _),Nat.add_sub_cancel_left]
def ga0{X:Sto}:(S++X)[S.length]?=X[0]?:=ga (n:=0)
theorem gs{X:Sto}{n:Nat}{o:O}:(S++X).set (S.length+n) o=S++X.set n o:=by rw[List.set_append_right _ _ (Nat.le_add_right _ _),Nat.add_sub_cancel_left]
def gs0{X:Sto}{o:O}:(S++X).set S.length o=S++X.set 0 o:=gs (n:=0)
section
variable{ok:Sto->Prop}{gg:CG}{cbd:CS}{ρ0 ρ1:Rho}{S0 S1:Sto}
def fe(h:ok S):dH ok gg cbd [] ρ S=some (.nx,ρ,S):=by unfold dH;rw[XO h]
theorem gy(h:ok S)(hg:gg u ρ S=some (ρ0,S0))(hb:cbd ρ0 S0=some (.nx,ρ1,S1)):dH ok gg cbd (u::us) ρ S=dH ok gg cbd us ρ1 S1:=by
 rw[dH];dsimp only;rw[XO h,hg,Q9];dsimp only;rw[hb,Q9]
theorem z7(h:ok S)(hg:gg u ρ S=some (ρ0,S0))(hb:cbd ρ0 S0=some (.rt x,ρ1,S1)):dH ok gg cbd (u::us) ρ S=some (.rt x,ρ1,S1):=by
 rw[dH];dsimp only;rw[XO h,hg,Q9];dsimp only;rw[hb,Q9]
theorem i4{ce:CE}{ys:List U}(h:ok S)(hg:gg u ρ S=some (ρ0,S0))(he:ce ρ0 S0=some (x,S1))(hl:S1[l]?=some (.lst ys))(hn:ys.length<LIM):gN ok gg ce l (u::us) ρ S=gN ok gg ce l us ρ0 (S1.set l (.lst (ys++[x]))):=by
 rw[gN,XO h,hg,Q9];dsimp only;rw[he,Q9];dsimp only;rw[hl];dsimp only;rw[XO hn]
def kB{ce:CE}(h:ok S):gN ok gg ce l [] ρ S=some S:=by rw[gN,XO h]
end
end
def Ih{p:List Q3->Prop}(h:p [])(us:List Q3)(e:us.length=0):p us:=by rw[Zp.mp e];exact h
theorem OY{n:Nat}{p:List Q3->Prop}(h:∀a us,us.length=n->p (a::us))(us:List Q3)(e:us.length=n+1):p us:=by
 cases us with
 |nil=>cases e
 |cons a us=>exact h a us (Nat.succ.inj e)
def Il(H:Hp)(a:Addr)(ep:Nat)(ks:List Key):Prop:=∃ob es kvs,H a=some (.frz ob (.dK kvs))/\ob.data=.dict es ep/\kvs.map (·.1)=ks
def Itd(a:Addr)(ep:Nat)(ks:List Key):It:=
 ⟨λi H=>i<ks.length/\Il H a ep ks,λi H x H'=>H'=H/\∃k,ks[i]?=some k/\x=kV k,λi H=>ks.length<=i/\Il H a ep ks⟩
theorem wV{P:Z7}{w:ZR}{H:Hp}{h:Heap}{a:Addr}{ob:Obj}{kvs:List (Key×V)}{es:Array DictEntry}{ep:Nat}(ok:HOk P w H h)(e:H a=some (.frz ob (.dK kvs)))(d:ob.data=.dict es ep):∃vs,KV kvs vs/\h.DictAt (bp P w) a vs ep:=by
 let⟨e1,_,_,vs,r,o,es',ep',e2,e3,e4,s_⟩:=(show cU P w H h a (.frz ob (.dK kvs))from ok a _ e);rw[e1]at e2;cases e2;rw[d]at e4;cases e4;exact⟨vs,r,ob,es,e1,e3,d,s_⟩
theorem Ag{κ:Type}:∀{kvs:List (κ×V)} {vs:List (κ×Q3)} {i:Nat} {k:κ} {v:V},KV kvs vs->kvs[i]?=some (k,v)->∃u,vs[i]?=some (k,u)
 |_,_,i,k,v,.nil,h=>by simp at h
 |_,_,0,k,v,.cons (b:=(k',u)) r t,h=>by
  simp at h;subst h;have:k=k':=r.1;subst this;exact⟨u,nofun⟩
 |_,_,i+1,k,v,.cons r t,h=>by
  let⟨u,e⟩:=Ag (i:=i) t ‹h›;exact⟨u,by simpa using e⟩
theorem Ai{k:Key}{u:Q3}(h:pZ k u=true):bS (kV k) u:=by
 rcases br h with⟨i,t,rfl,rfl⟩|⟨i,t,rfl,rfl⟩;exact⟨t,rfl⟩;exact⟨t,rfl⟩
theorem yR{P:Z7}{w:ZR}{K:Q1}{tg:QF}(a it:Addr){ks:List Key}{ep:Nat} :
  Ik P w K tg (Itd a ep ks) [it] it (λn h=>h.IsKeyIter it a n ks.length ep) where
 mem:=by simp
 obj:=λn h st c hc=>by
  simp only[Z8,XY,or_false]at hc;subst hc;let⟨o,e,_,q⟩:=st;exact⟨o,e,λv z=>by rw[q]at z;cases z⟩
 keep:=λn h h' st kp=>Heap.IsKeyIter.at st λo q=>kp it nofun o q
 item:=by
  intro X hP hw hK hc n b_ s σ H E Iv hf st hg;subst hP hw hK;let⟨hi,ob,es,kvs,hq,d,ek⟩:=hg;let⟨vs,rv,da⟩:=wV Iv.hok hq d;have hl:ks.length=vs.length:=by rw[<-ek,QX];exact Paired.length rv
  have hi':n<kvs.length:=by rw[<-ek,QX]at hi;exact hi
  have hx:kvs[n]?=some ((kvs[n]).1,(kvs[n]).2):=Q7 hi';let⟨u,hu⟩:=Ag rv hx;let⟨f0,f1,f2,f3⟩:=hf it nofun;have st':s.heap.IsKeyIter it a n vs.length ep:=by rw[<-hl];exact st
  refine wpAny_pyNext_dict_item st' da hu λkey h1 hk st1 sb=>⟨key,rfl,?_⟩;have I1:Inv X b_ σ H { s with heap:=h1 }:=Iv.turned (t':=s.toks) (λb o hb e=>(sb.2 b hb).trans e) f0 f1 f3.1 f3.2.1 f3.2.2;have st2:h1.IsKeyIter it a (n+1) ks.length ep:=by rw[hl];exact st1
  let⟨o,e,c,q⟩:=id st2;exact Dq (s:={ s with heap:=h1 }) e c q ∅ ⟨kV (kvs[n]).1,H,I1,Ai hk,⟨rfl,_,by rw[<-ek,ZH,hx];rfl,rfl⟩,st2,λb hb=>(hf b hb).1⟩
 done:=by
  intro X hP hw hK hc n b_ s σ H E Iv hf st hg;subst hP hw hK;let⟨hi,ob,es,kvs,hq,d,ek⟩:=hg;let⟨vs,rv,da⟩:=wV Iv.hok hq d;have hl:ks.length=vs.length:=by rw[<-ek,QX];exact Paired.length rv
  let⟨f0,f1,f2,f3⟩:=hf it nofun;have st':s.heap.IsKeyIter it a n vs.length ep:=by rw[<-hl];exact st
  exact wpAny_pyNext_dict_end (Iv.ok.hd hc) st' da (by rw[List.getElem?_eq_none_iff];omega) λh1 eb=>⟨rfl,Iv.turned (t':=s.toks) (λb o hb e=>eb b o hb e) f0 f1 f3.1 f3.2.1 f3.2.2⟩
 self:=λ_ _ _ _ _ st h=>wpAny_pyIter_keyiter st h
theorem p4{X:Cx}{b_:List (Addr×Obj)}{σ:L2.St}{H:Hp}{s:Q4}{a:Addr}{o u:HO}(I:Inv X b_ σ H s)(e:H a=some o)(nt:∀xs,o≠.tup xs)(no:∀x,o≠.own x)(nb:∀ps,o≠.tbl ps)
  (nf:∀ob u,X.H₀ a≠some (.frz ob u)) (new:cU X.prog X.w (upd H a u) s.heap a u):Inv X b_ σ (upd H a u) s:=by
 have nn:∀b,H b=none->upd H a u b=none:=λb q=>by rw[aH (Ne.symm (c9 e q))];exact q
 have ho:∀b x,H b=some (.own x)->upd H a u b=some (.own x):=λb x q=>by
  rw[aH];exact q;intro z;subst z;rw[e]at q;cases q;exact no _ rfl
 have ht:∀b xs,H b=some (.tup xs)->upd H a u b=some (.tup xs):=λb x q=>by
  rw[aH];exact q;intro z;subst z;rw[e]at q;cases q;exact nt _ rfl
 refine⟨I.ok,I.os,I.bare,⟨I.base.keep,I.base.slot,λb ob q1 q2 q3=>nn _ (I.base.free b ob q1 q2 q3),I.base.there,λb xs q=>ht _ _ (I.base.tups b xs q),λb ob v q=>?_,λb ps q=>?_⟩,I.loc,I.cell,nn _ I.free,λx c q=>nn _ (I.freeC x c q),λp hp=>?_,λb v q=>?_,I.len⟩;rw[aH];exact I.base.frzs b ob v q;intro z;subst z;exact nf _ _ q;let⟨y_,q'⟩:=I.base.tbls b ps q;refine⟨y_,?_⟩;rw[aH];exact q';intro z;subst z;rw[e]at q';cases q';exact nb _ rfl;let⟨p1,p2,p3⟩:=I.pin p hp;exact⟨p1,nn _ p2,p3⟩;by_cases hb:b=a;subst hb;rw[aF]at q;cases q;exact new;rw[aH hb]at q;exact(I.hok b v q).stay (λ_ _ _ g=>g) (λc g=>ho c b g) λc xs g=>ht c xs g
def yj(X:Cx)(a:Addr):Prop:=∀ob u,X.H₀ a≠some (.frz ob u)
def Ht(X:Cx)(tl:TE):TI:=λσ H R=>tl σ H λx H1=>∃a kvs,x=.ref a/\H1 a=some (.dK kvs)/\∀ob es ep,yj X a->ob.data=.dict es ep->R (Itd a ep (kvs.map (·.1))) (upd H1 a (.frz ob (.dK kvs)))
theorem t7{X:Cx}{tg l:QF}{tl:TE}(hl:WE X l tl):WI X tg l (Ht X tl):=by
 constructor;intro b_ s σ H R I h;refine thn (hl.h b_ s σ H _ I h) λv s1 hz=>?_;let⟨x,H1,I1,r1,q1⟩:=hz;let⟨a,kvs,rfl,hq,q⟩:=q1;cases r1;let⟨hz,hs,vs,rv,ob,es,ep,e1,e2,e3,s_⟩:=qt I1.hok hq;have da:s1.heap.DictAt (bp X.prog X.w) a vs ep:=⟨ob,es,e1,e2,e3,s_⟩;have hl:kvs.length=vs.length:=Paired.length rv;have nf:yj X a:=λob' u' z=>by have:=I1.base.frzs a ob' u' z;rw[hq]at this;cases this
 have I2:Inv X b_ σ (upd H1 a (.frz ob (.dK kvs))) s1:=p4 I1 hq nofun nofun nofun nf ⟨e1,hz,hs,vs,rv,ob,es,ep,e1,e2,e3,s_⟩;refine wpAny_pyIter_dict hs da ?_;refine⟨s1.heap.objs.size,[s1.heap.objs.size],_,_,_,rfl,I2.kept (t':=s1.toks) λb o g=>Q5 _ g,yR a _,⟨_,Z0 _ rfl,rfl,by rw[QX,hl];rfl⟩,λb hb=>?_,q ob es ep nf e3⟩;simp only[Z8,XY,or_false]at hb;subst hb;exact I2.fpOk (QQ _) (I2.hok.fresh (QQ _))
def HU(X:Cx)(D:yk):yk where
 nx:=λσ H=>∃a ob kvs,yj X a/\H a=some (.frz ob (.dK kvs))/\D.nx σ (upd H a (.dK kvs))
 rt:=λv H=>∃a ob kvs,yj X a/\H a=some (.frz ob (.dK kvs))/\D.rt v (upd H a (.dK kvs))
 bk:=λσ H=>∃a ob kvs,yj X a/\H a=some (.frz ob (.dK kvs))/\D.bk σ (upd H a (.dK kvs))
 ct:=λσ H=>∃a ob kvs,yj X a/\H a=some (.frz ob (.dK kvs))/\D.ct σ (upd H a (.dK kvs))
theorem km{X:Cx}{b_:List (Addr×Obj)}{σ:L2.St}{H:Hp}{s:Q4}{a:Addr}{ob:Obj}{kvs:List (Key×V)}(I:Inv X b_ σ H s)(nf:yj X a)(e:H a=some (.frz ob (.dK kvs))):Inv X b_ σ (upd H a (.dK kvs)) s:=
 p4 I e nofun nofun nofun nf (show cU X.prog X.w H s.heap a (.frz ob (.dK kvs))from I.hok a _ e).2
theorem tZ{X:Cx}{st:ZC}{t:TS}(h:WS X st t):WS X st (λD σ H=>t (HU X D) σ H):=by
 constructor;intro b_ s σ H D I k;refine thn (h.h b_ s σ H _ I k) λf s1 q=>?_;cases f with
 |next=>let⟨σ1,H1,I1,a,ob,kvs,nf,e,r⟩:=q;exact⟨σ1,_,km I1 nf e,r⟩
 |brk=>let⟨σ1,H1,I1,a,ob,kvs,nf,e,r⟩:=q;exact⟨σ1,_,km I1 nf e,r⟩
 |cont=>let⟨σ1,H1,I1,a,ob,kvs,nf,e,r⟩:=q;exact⟨σ1,_,km I1 nf e,r⟩
 |ret u=>let⟨v,σ1,H1,I1,rv,a,ob,kvs,nf,e,r⟩:=q;exact⟨v,σ1,_,km I1 nf e,rv,r⟩
def kU:Key->U
 |.inl i=>.int i
 |.inr x=>.str x
theorem EM{K:Q1}{m:List Addr}{H:Hp}(k:Key):Is K m H (kV k) (kU k):=by
 cases k with
 |inl i=>exact .int_
 |inr x=>exact .str_
open Classical in
def uni{α:Type}(F:Nat->Option α):Option α:=if h:∃r,∀n,F n=some r then some h.choose else none
theorem oy{α:Type}{F:Nat->Option α}{r:α}(h:∀n,F n=some r):uni F=some r:=by
 have hx:∃r,∀n,F n=some r:=⟨r,h⟩;unfold uni;rw[dif_pos hx];have:=hx.choose_spec 0;rw[h 0]at this;exact this.symm
theorem oZ{α:Type}{F:Nat->Option α}{r:α}(h:uni F=some r)(n:Nat):F n=some r:=by
 unfold uni at h;split at h;rename_i hx;cases h;exact hx.choose_spec n;cases h
def sT(ce:CE)(g:CG)(cb:CS):CS:=λρ S=>(ce ρ S).bind λp=>match p.1 with
 |.ref l=>match p.2[l]? with
  |some (.dic kus)=>uni λep=>(dH (λS'=>S'[l]?=some (.fdc ep kus)) g cb (kus.map λq=>kU q.1) ρ (p.2.set l (.fdc ep kus))).bind λr=>match r.2.2[l]? with
   |some (.fdc _ O_)=>some (r.1,r.2.1,r.2.2.set l (.dic O_))
   |_=>none
  |_=>none
 |_=>none
theorem Ar{K:Q1}{m:List Addr}{H:Hp}{a:Addr}{l ep:Nat}{kus:List (Key×U)}(ha:m[l]?=some a):Bu K (Itd a ep (kus.map (·.1))) m H (kus.map λq=>kU q.1) (λS'=>S'[l]?=some (.fdc ep kus)):=by
 intro m2 S2 H2 i e sr hok;let⟨a',ha',ob,es,kvs,hx,hd,ip⟩:=sr.get hok;have ha2:=e.get ha;rw[ha2]at ha';cases ha';have hz:Il H2 a ep (kus.map (·.1)):=⟨ob,es,kvs,hx,hd,ip.1⟩;refine⟨λu hu=>?_,λhu=>⟨by simpa using hu,hz⟩⟩;have hi:i<kus.length:=by have:=(Q8.mp hu).1;simpa using this
 refine⟨⟨by simpa using hi,hz⟩,?_⟩;rintro x H3 ⟨rfl,k,hk,rfl⟩;refine⟨.refl,sr,?_⟩;rw[ZH]at hk hu;rw[Q7 hi]at hk hu;cases hk;cases hu;exact EM _
theorem Dw{X:Cx}{ce:CE}{g:CG}{cb:CS}:∀D σ H,tS X.K (sT ce g cb) D σ H->Jx (Ht X (tE X.K ce)) (tG X.K g) (tS X.K cb) (HU X D) σ H:=by
 rintro D σ H ⟨m,ρ,S,o,ρ',S',sr,lr,hc,post⟩;let⟨⟨x,S1⟩,h1,h⟩:=Q0.mp hc;refine⟨m,ρ,S,x,S1,sr,lr,h1,λm1 v1 H1 e1 sr1 i1=>?_⟩;cases x with
 |ref l=>
  simp only at h;split at h<;>try cases h
  rename_i kus hS;let⟨a,ha,rfl⟩:=i1.of_ref;let⟨a',ha',kvs,hx,ip⟩:=sr1.get hS;rw[ha]at ha';cases ha';refine⟨a,kvs,rfl,hx,λob es ep nf hd=>?_⟩;let⟨⟨o1,ρ1,S2⟩,h2,h3⟩:=Q0.mp (oZ h ep);simp only at h3;split at h3<;>try cases h3
  rename_i ep' O_ hS2;have kp:yp X.K H1 (upd H1 a (.frz ob (.dK kvs))):=sr1.keep ha _;have ee:Ext X.K m1 H1 m1 (upd H1 a (.frz ob (.dK kvs))):=.of kp;have sr2:Sr X.K m1 (S1.set l (.fdc ep kus)) (upd H1 a (.frz ob (.dK kvs))):=sr1.put ha ⟨ob,es,kvs,aF,hd,ip.mono ee⟩;rw[ip.1];refine pT sr2 (lr.mono (e1.trans ee)) (Ar ha) h2 ?_;have back:∀m3 H3,Ext X.K m1 (upd H1 a (.frz ob (.dK kvs))) m3 H3->Sr X.K m3 S2 H3->∃ob' R0,H3 a=some (.frz ob' (.dK R0))/\Ext X.K m3 H3 m3 (upd H3 a (.dK R0))/\Sr X.K m3 (S2.set l (.dic O_)) (upd H3 a (.dK R0)):=λm3 H3 e3 sr3=>by
   let⟨a3,ha3,ob3,es3,kvs3,hx3,hd3,ip3⟩:=sr3.get hS2;rw[e3.get ha]at ha3;cases ha3;have e4:Ext X.K m3 H3 m3 (upd H3 a (.dK kvs3)):=.of (sr3.keep (e3.get ha) _);exact⟨ob3,kvs3,hx3,e4,sr3.put (e3.get ha) ⟨kvs3,aF,ip3.mono e4⟩⟩
  have nxt:∀(R:L2.St->Hp->Prop),iD X.K m H R ρ' (S2.set l (.dic O_))->iD X.K m1 (upd H1 a (.frz ob (.dK kvs))) (λσ H=>∃a ob kvs,yj X a/\H a=some (.frz ob (.dK kvs))/\R σ (upd H a (.dK kvs))) ρ' S2:=λR p m3 σ3 H3 e3 sr3 lr3=>by
   let⟨ob3,kvs3,hx3,e4,sr4⟩:=back m3 H3 e3 sr3;exact⟨a,ob3,kvs3,nf,hx3,p m3 σ3 _ (((e1.trans ee).trans e3).trans e4) sr4 (lr3.mono e4)⟩
  cases o with
  |nx=>exact nxt _ post
  |bk=>exact nxt _ post
  |ct=>exact nxt _ post
  | rt v=>
    intro m3 v3 H3 e3 sr3 i3;let⟨ob3,kvs3,hx3,e4,sr4⟩:=back m3 H3 e3 sr3;exact⟨a,ob3,kvs3,nf,hx3,post m3 v3 _ (((e1.trans ee).trans e3).trans e4) sr4 (i3.mono e4)⟩
 |_=>cases h
theorem zh{X:Cx}{tg iter:QF}{body:List ZC}{ce:CE}{g:CG}{cb:CS}{pos:Pos}(hp:PassesOwn (ZQ X.prog X.w) X.A X.env X.xe)(hc:X.calm=true)(hi:QE X iter ce)(hg:QG X tg g)(hb:QSs X body cb)(hs:∀x,foldedSetIterable iter X.env x=pure x:=by intro _;rfl):QS X (.For tg iter body [] pos) (sT ce g cb):=
 (tZ (t6 hp hc (t7 hi) hg hb hs)).imp Dw
end OP
namespace OG
open PySem PySem.Spec PyProof.Rows L2
def yU(wi:TI)(g:TG)(tt:TT)(te:TE)(n:Nat)(caps:List Nat):TE:=λσ H Q=>wi σ H λJ H1=>∀l,H1 l=none->∃W:Nat->Nat->L2.St->Hp->Prop,(∃m,W 0 m (stC n caps σ) (upd H1 l (.lst [])))/\
 ∀i m σ' H2,W i m σ' H2->(J.stop i H2/\Q (.ref l) H2)\/(J.go i H2/\∃N:L2.St->Hp->Prop,(∀σ'' H',N σ'' H'->∃m',m'<m/\W (i+1) m' σ'' H')/\
  ∀x H3,J.yld i H2 x H3->g x σ' H3 λσ2 H4=>tt σ2 H4 λb H5=>match b with
   |true=>te σ2 H5 λv H6=>∃ys,H6 l=some (.lst ys)/\ys.length<QU/\N σ2 (upd H6 l (.lst (ys++[v])))
   |false=>N σ2 H5)
theorem oj{prog:Z7}{w:ZR}{A:ZE}{R:Result->Q4->Prop}{s:Q4}{elt zz iter c:QF}{scope:XR}{pos:Pos}{it acc:Q3}{env:Env}(I:Nat->Q4->Prop)
  (Ru:∀n s,I n s->wpAny (ZQ prog w) A (pyNext it) (λr s₁=>match r with
   |none=>R (.ok .next) s₁
   |some v=>wpAny (ZQ prog w) A (letOwnedTupleGo zz it v) (λ_ s₁'=>wpAny (ZQ prog w) A (assign zz env v) (λ_ s₂=>wpAny (ZQ prog w) A (PySem.isTrue c env (eval c env)) (λb s₂'=>match b with
    |true=>wpAny (ZQ prog w) A (eval elt env) (λx s₃=>
     wpAny (ZQ prog w) A (call (.builtin "list.append") [acc,x]) (λ_ s₄=>∃m,m<n/\I m s₄) (λ_ _=>False) s₃)
     (λ_ _=>False) s₂'
    |false=>∃m,m<n/\I m s₂') (λ_ _=>False) s₂) (λ_ _=>False) s₁') (λ_ _=>False) s₁) (λ_ _=>False) s)
  (n:Nat) (h:I n s) :
  codeAny (ZQ prog w) A (.compLoop (.ListComp elt [⟨zz,iter,[c],0⟩] scope pos) 0 it acc env) R s:=by
 refine codeAny_loop rfl I (λn s hI=>?_) n h;show wpAny _ _ ((compTurn (.ListComp elt [⟨zz,iter,[c],0⟩] scope pos) 0 it acc env).onRaise (λx=>do noteFrame x env;theTreesLotGoes x)) _ _ s;refine wpAny_noted ?_;rw[compTurn_list];refine Q2 (wpAny_standAt (Q2 (ZN (Ru n s hI) (λr s₁ h₁=>?_) λ_ _ h'=>h'.elim)));cases r with
 |none=>exact QJ h₁
 |some v=>
  refine Q2 (ZN h₁ (λ_ s₁' h₁'=>?_) λ_ _ h'=>h'.elim);refine Q2 (ZN h₁' (λ_ s₂ h₂=>?_) λ_ _ h'=>h'.elim);dsimp only;simp only[List.forIn_cons,List.forIn_nil,if_true,bind_assoc,pure_bind];refine Q2 (ZN h₂ (λb s₂' h₂'=>?_) λ_ _ h'=>h'.elim);cases b with
  |true=>
   rw[XO rfl];exact Q2 (ZN h₂' (λx s₃ h₃=>Q2 (ZN h₃
    (λ_ s₄ h₄=>QJ ⟨rfl,h₄⟩) λ_ _ h'=>h'.elim)) λ_ _ h'=>h'.elim)
  |false=>
   rw[XS QV];exact QJ ⟨rfl,h₂'⟩
theorem yc{X:Cx}{Nc capN tn:List Str}{scope:XR}{cl:List (Str×Addr)}{n:Nat}{caps:List Nat}{tg iter elt:QF}{pos:Pos}{wi:TI}{g:TG}{te:TE}{tt:TT}{c:QF}
  (hc:X.calm=true) (hi:WI X tg iter wi) (hg:∀s3 H3 fp,WG (cxC X Nc scope cl s3 H3 fp) tg g) (he:∀s3 H3 fp,WE (cxC X Nc scope cl s3 H3 fp) elt te)
  (ht:∀s3 H3 fp,WT (cxC X Nc scope cl s3 H3 fp) c tt)
  (G_:closureFor scope X.env=pure cl) (r_:scope.kind=.function) (hnl:∀x∈scope.names,x.2=.local->scope.names.lookup x.1=some .local) (x_:∀x∈scope.names,x.2≠.cell)
  (hcl:yt X.env cl) (H_:((relabel scope X.env).names.all λp=>!(p.2 == .cell||p.2 == .free)||(cl.lookup p.1).isSome)=true)
  (F_:Paired (Cap X scope cl) caps capN) (hN:Nc=tn++capN) (hn:tn.length=n)
  {use:Option (Q3->Sem Unit)} {b_:List (Addr×Obj)} {σ:L2.St} {H:Hp} {s:Q4} {Q:VK} {Qf:Q3->Q4->Prop} (I:Inv X b_ σ H s) (h:yU wi g tt te n caps σ H Q)
  (RU:∀(D C:Addr) (s6:Q4) (H5:Hp) (m:Str->Option Q3),Inv X b_ σ H5 s6->s6.heap.Ns C m->H5 C=none->C≠X.env.locals->X.s₀.heap.objs.size<=C->(∀x c,X.env.cells.lookup x=some c->c≠C)->(∀p∈X.pn++b_,p.1≠C)->Q (.ref D) H5->compPost (ZQ X.prog X.w) X.A X.xe use Qf (.ref D) C (.ok .next) s6)
  (hs:∀x,foldedSetIterable iter X.env x=pure x) :
  wpAny (ZQ X.prog X.w) X.A (comprehension (.ListComp elt [⟨tg,iter,[c],0⟩] scope pos) scope X.env (firstIterPos [⟨tg,iter,[c],0⟩] pos) (newList []) (firstAsync [⟨tg,iter,[c],0⟩]) (firstIter [⟨tg,iter,[c],0⟩] X.env) use) Qf X.xe s:=by
 refine wpAny_comprehension_free (use:=use) (g:=⟨tg,iter,[c],0⟩) (gs:=[]) rfl hs G_ r_ hnl (thn (hi.h b_ s σ H _ I h) λv s1 h1=>thn h1 λitv s2 h2=>?_);let⟨it,fp,tnn,J,H2,rfl,I2,T,st2,f2,hW⟩:=h2;have hD:=I2.fresh;let⟨W,⟨m0,w0⟩,Ru⟩:=hW _ hD;refine wpAny_newObj_type (wpAny_newFunctionEnv x_ (by intro y hy;simp at hy) (λh₁ Rz Ry=>?_) r_);dsimp only at Rz Ry ⊢;have I3:Inv X b_ σ (upd H2 s2.heap.objs.size (.lst [])) { s2 with heap:=s2.heap.push { cls:=.type "list",dict:=none,data:=.seq ([]:List Q3).toArray },toks:=s2.toks }:=I2.lnew (its:=[]) .nil (Zh _);generalize hs3:({ s2 with heap:=s2.heap.push { cls:=.type "list",dict:=none,data:=.seq ([]:List Q3).toArray },toks:=s2.toks }:Q4)=s3 at I3;have es3:s3.heap=s2.heap.push { cls:=.type "list",dict:=none,data:=.seq ([]:List Q3).toArray }:=by rw[<-hs3]
 generalize hDD:s2.heap.objs.size=D at *;have kept:∀b o,s3.heap.get? b=some o->h₁.get? b=some o:=λb o e=>by
  have lt:=QY e;rw[es3]at lt e;exact Ry.extBut b o (ZZ lt) (Q5 _ e)
 have old:∀b o,s2.heap.get? b=some o->s3.heap.get? b=some o:=λb o e=>by rw[es3];exact Q5 _ e
 have ltD:∀b∈fp,b<D:=λb hb=>by
  let⟨o,e,_⟩:=T.obj 0 _ st2 b hb;rw[<-hDD];exact QY e
 have fo:∀b∈fp,b<s3.heap.objs.size:=λb hb=>by
  let⟨o,e,_⟩:=T.obj 0 _ st2 b hb;exact QY (old _ _ e)
 have f3:∀b∈fp,yq X b_ (upd H2 D (.lst [])) b:=λb hb=>by
  refine⟨?_,(f2 b hb).2⟩;rw[aH (ZZ (ltD b hb))];exact(f2 b hb).1
 rw[<-es3]at Rz Ry ⊢;have Ic:=λt'=>Inv.comp (h1:=h₁) (t':=t') (Nc:=Nc) (n:=n) I3 hc f3 fo r_ hcl H_ F_ tn hN hn Rz kept;have stat:∀{H':Hp},(∀b∈fp,H' b=none)->∀b∈fp,yq (cxC X Nc scope cl s3 (upd H2 D (.lst [])) fp) [] H' b:=λhn' b hb=>by
  refine⟨hn' b hb,ZZ (fo b hb),λz=>?_,.inl hb,λx c e=>(f2 b hb).2.2.2.2.1 x c (hcl.look e),λp hp=>by simp at hp⟩;rcases Z8.mp (I3.stkSub b z)with q|q;exact(f2 b hb).2.1 q;exact(f2 b hb).2.2.1 q
 have loop:∀s4:Q4,(∃t',s4={ s3 with heap:=h₁,toks:=t' })->codeAny (ZQ X.prog X.w) X.A (.compLoop (.ListComp elt [⟨tg,iter,[c],0⟩] scope pos) 0 (.ref it) (.ref D) (compEnvC scope cl s3.heap.objs.size X.env))
   (compPost (ZQ X.prog X.w) X.A X.xe use Qf (.ref D) s3.heap.objs.size) s4:=by
  rintro s4 ⟨t',rfl⟩;refine oj (λn' s'=>∃i σ' H',Inv (cxC X Nc scope cl s3 (upd H2 D (.lst [])) fp) [] σ' H' s'/\tnn i s'.heap/\(∀b∈fp,H' b=none)/\W i n' σ' H') ?_ m0
   ⟨0,_,_,Ic t',T.keep 0 _ _ st2 λb hb o e=>kept _ _ (old _ _ e),λb hb=>(f3 b hb).1,w0⟩
  rintro n' s5 ⟨i,σ5,H5,I5,st5,fr5,w5⟩;rcases Ru i n' σ5 H5 w5 with⟨stop,qn⟩|⟨go,N,hN',step⟩;refine thn (T.done (cxC X Nc scope cl s3 (upd H2 D (.lst [])) fp) rfl rfl rfl hc i [] s5 σ5 H5 (λ_ _=>False) I5 (stat fr5) st5 stop) λr s6 ⟨hr,I6⟩=>?_;subst hr;let⟨m,hm,_⟩:=I6.loc;have I7:Inv X b_ σ H5 s6:=Inv.call' (ch:=fp) I3 I6.os I6.base I6.hok I6.bare λb hb=>⟨(f2 b hb).2.2.2.1,(f2 b hb).2.1,(f2 b hb).2.2.2.2.1,(f2 b hb).2.2.2.2.2⟩;exact RU D _ s6 H5 m I7 hm I6.free (Ne.symm (ZZ I3.lt)) I3.sz (λx c e=>by
    let⟨v',o,ho,_⟩:=I3.cell x c e;exact ZZ (QY ho)) (λp hp=>ZZ (QY (I3.pin p hp).1)) qn
  refine thn (T.item (cxC X Nc scope cl s3 (upd H2 D (.lst [])) fp) rfl rfl rfl hc i [] s5 σ5 H5 (λ_ _=>False) I5 (stat fr5) st5 go) λr s6 ⟨u,hr,h6⟩=>?_;subst hr;refine thn h6 λ_ s7 hz=>?_;let⟨x,H7,I7,r7,y7,st7,fr7⟩:=hz;have I7':=I7.pinned (stat fr7) (T.obj _ _ st7);refine thn ((hg s3 (upd H2 D (.lst [])) fp).h _ s7 σ5 H7 x u _ I7' r7 (step x H7 y7)) λ_ s8 hz=>?_;let⟨σ8,H8,I8,q8⟩:=hz;have fin:∀{s10:Q4} {H10:Hp},Inv (cxC X Nc scope cl s3 (upd H2 D (.lst [])) fp) _ σ8 H10 s10->N σ8 H10->∃m',m'<n'/\∃i' σ' H',Inv (cxC X Nc scope cl s3 (upd H2 D (.lst [])) fp) [] σ' H' s10/\tnn i' s10.heap/\(∀b∈fp,H' b=none)/\W i' m' σ' H':=λ{s10 H10} I10 q10=>by
   let⟨m',hm,w10⟩:=hN' σ8 H10 q10;refine⟨m',hm,i+1,σ8,H10,Inv.unpinned I10,T.keep _ _ _ st7 λb hb o e=>(Inv.pin I10 (b,o) (Z9 _ (Z9 _ (fu hb e)))).1,λb hb=>?_,w10⟩;let⟨o,e,d⟩:=T.obj _ _ st7 b hb;exact(Inv.pin I10 (b,o) (Z9 _ (Z9 _ (fu hb e)))).2.1
  refine thn ((ht s3 (upd H2 D (.lst [])) fp).h _ s8 σ8 H8 _ I8 q8) λb9 s9' h9=>?_;let⟨H9',I9',q9'⟩:=h9;cases b9 with
  |false=>exact fin I9' q9'
  |true=>
   refine thn ((he s3 (upd H2 D (.lst [])) fp).h _ s9' σ8 H9' _ I9' q9') λv9 s9 hz=>?_;let⟨x9,H9,I9,r9,ys,hy,hlt,q9⟩:=hz;exact thn (mP (X:=cxC X Nc scope cl s3 (upd H2 D (.lst [])) fp) _ s9 σ8 H9 (.ref D) [x9] (.ref D) [v9] (λ_ H'=>N σ8 H') I9 rfl (.cons r9 .nil) ⟨D,ys,x9,rfl,rfl,hy,hlt,q9⟩) λ_ s10 ⟨_,H10,I10,_,q10⟩=>fin I10 q10
 have e4:∀t',({ s2 with heap:=h₁,toks:=t' }:Q4)={ s3 with heap:=h₁,toks:=t' }:=λt'=>by rw[<-hs3]
 refine codeAny_compStart_list (loop _ ⟨_,e4 _⟩) (T.self _ 0 _ _ _ (T.keep 0 _ _ st2 λb hb o e=>kept _ _ (old _ _ e)) (loop _ ⟨_,e4 _⟩))
end OG
namespace OP
open PySem PySem.Spec PyProof.Rows L2 OG
open Classical in
def cu(ok:Sto->Prop)(g:CG)(ct:CT)(ce:CE)(l:Nat):List U->Rho->Sto->Option Sto
 |[],_,S=>if ok S then some S else none
 |u::us,ρ,S=>if ok S then(g u ρ S).bind λp=>(ct p.1 p.2).bind λq=>if q.1=true then(ce p.1 q.2).bind λr=>match r.2[l]? with
  |some (.lst ys)=>if ys.length<LIM then cu ok g ct ce l us p.1 (r.2.set l (.lst (ys++[r.1])))else none
  |_=>none else cu ok g ct ce l us p.1 q.2 else none
section
variable{K:Q1}
theorem u7{g:CG}{ct:CT}{ce:CE}{n:Nat}{caps:List Nat}{J:It}{us:List U}{ok:Sto->Prop}{Q:VK}{m1:List Addr}{H1:Hp}{S1 S':Sto}{ρ:Rho}{σ:L2.St}{l:Addr}(sr1:Sr K m1 S1 H1)(lr:Lr K m1 H1 ρ σ)(ito:Bu K J m1 H1 us ok)(hl:H1 l=none)(h2:cu ok g ct ce S1.length us (uh n caps ρ) (S1++[.lst []])=some S')
  (post:∀m2 H2,Ext K (m1++[l]) (upd H1 l (.lst [])) m2 H2->Sr K m2 S' H2->Q (.ref l) H2) :
  ∃W:Nat->Nat->L2.St->Hp->Prop,(∃m,W 0 m (OG.stC n caps σ) (upd H1 l (.lst [])))/\
 ∀i m σ' H2,W i m σ' H2->(J.stop i H2/\Q (.ref l) H2)\/(J.go i H2/\∃N:L2.St->Hp->Prop,(∀σ'' H',N σ'' H'->∃m',m'<m/\W (i+1) m' σ'' H')/\
  ∀x H3,J.yld i H2 x H3->tG K g x σ' H3 λσ2 H4=>tT K ct σ2 H4 λb H5=>match b with
   |true=>tE K ce σ2 H5 λv H6=>∃ys,H6 l=some (.lst ys)/\ys.length<QU/\N σ2 (upd H6 l (.lst (ys++[v])))
   |false=>N σ2 H5):=by
 have ee:Ext K m1 H1 (m1++[l]) (upd H1 l (.lst [])):=.new (bO hl _);let W:Nat->Nat->L2.St->Hp->Prop:=λi k σ2 H2=>k=us.length-i/\i<=us.length/\∃m2 ρ2 S2,Ext K (m1++[l]) (upd H1 l (.lst [])) m2 H2/\Sr K m2 S2 H2/\Lr K m2 H2 ρ2 σ2/\cu ok g ct ce S1.length (us.drop i) ρ2 S2=some S'
 refine⟨W,⟨us.length,nofun,Zh _,m1++[l],uh n caps ρ,S1++[.lst []],.refl,sr1.new (o:=.lst []) hl ⟨[],aF,.nil_⟩,zZ (lr.mono ee),by simpa using h2⟩,?_⟩;rintro i k σ2 H2 ⟨rfl,hi,m2,ρ2,S2,e2,sr2,lr2,hl2⟩;by_cases hlt:i<us.length
 ·have hu:=Q7 hlt;rw[nq hu]at hl2;unfold cu at hl2;split at hl2
  ·rename_i hok;let⟨⟨ρ3,S3⟩,h3,hl2⟩:=Q0.mp hl2;let⟨⟨b4,S4⟩,h4,hl2⟩:=Q0.mp hl2;let⟨hgo,hy⟩:=(ito m2 S2 H2 i (ee.trans e2) sr2 hok).1 _ hu;refine .inr ⟨hgo,W (i+1) (us.length-(i+1)),λσ' H' w'=>⟨_,⋯,w'⟩,λx H3 y=>?_⟩;let⟨e3,sr3,ix⟩:=hy x H3 y;refine⟨m2,ρ2,S2,_,ρ3,S3,sr3,lr2.mono e3,ix,h3,λm4 σ4 H4 e4 sr4 lr4=>⟨m4,ρ3,S3,b4,S4,sr4,lr4,h4,λm4' H4' e4' RY=>?_⟩⟩;cases b4 with
   |false=>
    rw[XS QV]at hl2;exact⟨rfl,hlt,m4',ρ3,_,(((e2.trans e3).trans e4).trans e4'),RY,lr4.mono e4',hl2⟩
   |true=>
    rw[XO rfl]at hl2;let⟨⟨u5,S5⟩,h5,hl2⟩:=Q0.mp hl2;simp only at hl2;split at hl2<;>try cases hl2
    rename_i ys hys;split at hl2<;>try cases hl2
    rename_i p_;refine⟨m4',ρ3,S4,u5,S5,RY,lr4.mono e4',h5,λm5 v5 H5 e5 sr5 i5=>?_⟩;let⟨a',ha',xs,hx,il⟩:=sr5.get hys;have ha:m5[S1.length]?=some l:=((((e2.trans e3).trans e4).trans e4').trans e5).get (ed sr1.len);rw[ha]at ha';cases ha';have eu:Ext K m5 H5 m5 (upd H5 l (.lst (xs++[v5]))):=.of (sr5.keep ha _);exact⟨xs,hx,Ma (by rw[il.length];exact p_),rfl,hlt,m5,ρ3,_,(((((e2.trans e3).trans e4).trans e4').trans e5).trans eu),sr5.put (o:=.lst (ys++[u5])) ha ⟨_,aF,(il.append (.cons_ i5 .nil_)).mono eu⟩,(lr4.mono ((e4'.trans e5).trans eu)),hl2⟩
  cases hl2
 have e:i=us.length:=by omega
 subst e;rw[List.drop_length]at hl2;unfold cu at hl2;split at hl2;rename_i hok;cases hl2;exact .inl ⟨(ito m2 _ H2 _ (ee.trans e2) sr2 hok).2 (QQ _),post m2 H2 e2 sr2⟩;cases hl2
end
end OP
namespace OP
open PySem PySem.Spec PyProof PyProof.Rows L2 OG
mutual
inductive RdV(K:Q1)(H:Hp):V->PyData->Prop
 |non:RdV K H .non .none
 |bl (b:Bool):RdV K H (.bl b) (.bool b)
 |int (i:Int):RdV K H (.int i) (.int i)
 |str (x:Str):RdV K H (.str x) (.str x)
 |lst {a:Addr} {xs:List V} {ds:List PyData}:SqL K H a xs->Bi K H xs ds->RdV K H (.ref a) (.list ds)
 |tup {a:Addr} {xs:List V} {ds:List PyData}:SqT K H a xs->Bi K H xs ds->RdV K H (.ref a) (.tuple ds)
inductive Bi(K:Q1)(H:Hp):List V->List PyData->Prop
 |nil:Bi K H [] []
 |cons {x:V} {xs:List V} {d:PyData} {ds:List PyData}:RdV K H x d->Bi K H xs ds->Bi K H (x::xs) (d::ds)
end
mutual
inductive Dt(S:Sto):U->PyData->Prop
 |non:Dt S .non .none
 |bl (b:Bool):Dt S (.bl b) (.bool b)
 |int (i:Int):Dt S (.int i) (.int i)
 |str (x:Str):Dt S (.str x) (.str x)
 |lst {l:Nat} {us:List U} {ds:List PyData}:S[l]?=some (.lst us)->DtL S us ds->Dt S (.ref l) (.list ds)
 |tup {us:List U} {ds:List PyData}:DtL S us ds->Dt S (.tup us) (.tuple ds)
inductive DtL(S:Sto):List U->List PyData->Prop
 |nil:DtL S [] []
 |cons {x:U} {xs:List U} {d:PyData} {ds:List PyData}:Dt S x d->DtL S xs ds->DtL S (x::xs) (d::ds)
end
variable{X:Cx}{K:Q1}
section
variable{b_:List (Addr×Obj)}{σ:L2.St}{H:Hp}{s:Q4}
mutual
theorem RdV.reads(I:Inv X b_ σ H s):∀{x:V} {d:PyData} {v:Q3},RdV X.K H x d->bS x v->∃as,Reads s.heap v d as
 |_,_,_,.non,r=>by cases r;exact⟨_,.none⟩
 |_,_,_,.bl b,r=>by cases r;exact⟨_,.bool b⟩
 |_,_,_,.int i,r=>by let⟨t,rfl⟩:=r;exact⟨_,.int i t⟩
 |_,_,_,.str i,r=>by let⟨t,rfl⟩:=r;exact⟨_,.str i t⟩
 |_,_,_,.lst (a:=a) h t,r=>by
  cases r;let⟨its,rv,pl,_⟩:=I.list h;let⟨as,k⟩:=Bi.reads I t rv;let⟨o,h1,h2,n,h3⟩:=pl.isList;exact⟨_,.list h1 h2 h3 ‹k›⟩
 |_,_,_,.tup (a:=a) h t,r=>by
  cases r;let⟨its,rv,pl,_⟩:=I.tuple h;let⟨as,k⟩:=Bi.reads I t rv;let⟨o,h1,h2,n,h3⟩:=pl;exact⟨_,.tuple h1 h2 h3 ‹k›⟩
theorem Bi.reads(I:Inv X b_ σ H s):∀{xs:List V} {ds:List PyData} {vs:List Q3},Bi X.K H xs ds->bE xs vs->∃as,ReadsAll s.heap vs ds as
 |_,_,_,.nil,r=>by cases r;exact⟨_,.nil⟩
 |_,_,_,.cons h t,.cons r rs=>by
  let⟨as,a⟩:=RdV.reads I h r;let⟨bs,b⟩:=Bi.reads I t rs;exact⟨_,.cons a b⟩
end
mutual
theorem Dt.rd{m:List Addr}{S:Sto}(sr:Sr K m S H):∀{u:U} {d:PyData} {v:V},Dt S u d->Is K m H v u->RdV K H v d
 |_,_,_,.non,i=>by rw[i.of_non];exact .non
 |_,_,_,.bl b,i=>by rw[i.of_bl];exact .bl b
 |_,_,_,.int b,i=>by rw[i.of_int];exact .int b
 |_,_,_,.str b,i=>by rw[i.of_str];exact .str b
 |_,_,_,.lst h t,i=>by
  let⟨a,ha,rfl⟩:=i.of_ref;let⟨a',ha',xs,hx,il⟩:=sr.get h;rw[ha]at ha';cases ha';exact .lst (SqL.of hx) (DtL.rd sr t il)
 |_,_,_,.tup t,i=>by
  let⟨a,xs,rfl,sa,la⟩:=i.of_tup;exact .tup sa (DtL.rd sr t la)
theorem DtL.rd{m:List Addr}{S:Sto}(sr:Sr K m S H):∀{us:List U} {ds:List PyData} {vs:List V},DtL S us ds->IsL K m H vs us->Bi K H vs ds
 |_,_,_,.nil,i=>by rw[i.of_nil];exact .nil
 |_,_,_,.cons h t,i=>by
  let⟨x,r,rfl,i1,i2⟩:=i.of_cons;exact .cons (Dt.rd sr h i1) (DtL.rd sr t i2)
end
mutual
theorem Dt.uniq{S:Sto}:∀{u:U} {d e:PyData},Dt S u d->Dt S u e->d=e
 |_,_,_,.non,.non=>rfl
 |_,_,_,.bl _,.bl _=>rfl
 |_,_,_,.int _,.int _=>rfl
 |_,_,_,.str _,.str _=>rfl
 |_,_,_,.lst h t,.lst h' t'=>by
  rw[h]at h';cases h';rw[DtL.uniq t t']
 |_,_,_,.tup t,.tup t'=>by rw[DtL.uniq t t']
theorem DtL.uniq{S:Sto}:∀{us:List U} {ds es:List PyData},DtL S us ds->DtL S us es->ds=es
 |_,_,_,.nil,.nil=>rfl
 |_,_,_,.cons h t,.cons h' t'=>by rw[Dt.uniq h h',DtL.uniq t t']
end
def lU(d:PyData):Prop:=d.canLay0=true/\d.depth<=60
def NH(K:Q1)(neg:Bool):R2:=λx y H Q=>(∃dx dy,RdV K H x dx/\RdV K H y dy/\lU dx/\lU dy/\Q (.bl (if neg then !dx.eqv dy else dx.eqv dy)) H)\/
 ∃a b xs ys,x=.ref a/\y=.ref b/\SqL K H a xs/\SqL K H b ys/\xs.length≠ys.length/\Q (.bl neg) H
theorem zK(hu:X.A.units+64<cLine):OpR X (compareOp .Eq) (NH X.K false):=by
 rintro b_ s σ H x y v u Q I rx ry (⟨dx,dy,hx,hy,lx,ly,q⟩|⟨a,b,xs,ys,rfl,rfl,ha,hb,ne,q⟩);let⟨as,hx⟩:=hx.reads I rx;let⟨bs,hy⟩:=hy.reads I ry;exact SeqAt.compareEq_reads hx hy lx.1 ly.1 (by have:=lx.2;omega) ⟨.bl _,H,I,rfl,q⟩;cases rx;cases ry;let⟨i1,r1,p1,_⟩:=I.list ha;let⟨i2,r2,p2,_⟩:=I.list hb;have l1:=r1.length;have l2:=r2.length;exact SeqAt.RcAt.lists_lengths p1.isList p2.isList (by simp;omega) ⋯ X.prog X.w X.xe _ ⟨.bl false,H,I,rfl,q⟩
theorem wx(hu:X.A.units+64<cLine):OpR X (compareOp .NotEq) (NH X.K true):=by
 rintro b_ s σ H x y v u Q I rx ry (⟨dx,dy,hx,hy,lx,ly,q⟩|⟨a,b,xs,ys,rfl,rfl,ha,hb,ne,q⟩);let⟨as,hx⟩:=hx.reads I rx;let⟨bs,hy⟩:=hy.reads I ry;exact SeqAt.compareNe_reads hx hy lx.1 ly.1 (by have:=lx.2;omega) ⟨.bl _,H,I,rfl,q⟩;cases rx;cases ry;let⟨i1,r1,p1,_⟩:=I.list ha;let⟨i2,r2,p2,_⟩:=I.list hb;have l1:=r1.length;have l2:=r2.length;exact SeqAt.RcNeAt.lists_lengths p1.isList p2.isList (by simp;omega) ⋯ X.prog X.w X.xe _ ⟨.bl true,H,I,rfl,q⟩
def Bv(x y:U)(S:Sto)(b:Bool):Prop:=(∃dx dy,Dt S x dx/\Dt S y dy/\lU dx/\lU dy/\b=dx.eqv dy)\/∃l l' us vs,x=.ref l/\y=.ref l'/\S[l]?=some (.lst us)/\S[l']?=some (.lst vs)/\us.length≠vs.length/\b=false
theorem DtL.length{S:Sto}:∀{us:List U} {ds:List PyData},DtL S us ds->us.length=ds.length
 |_,_,.nil=>rfl
 |_,_,.cons _ t=>by rw[QK,QK,DtL.length t]
theorem Bv.mix{l l':Nat}{us vs:List U}{S:Sto}{dx dy:PyData}(h1:Dt S (.ref l) dx)(h2:Dt S (.ref l') dy)(k1:S[l]?=some (.lst us))(k2:S[l']?=some (.lst vs))(ne:us.length≠vs.length):dx.eqv dy=false:=by
 cases h1 with
 |lst a1 t1=>
  cases h2 with
  |lst a2 t2=>
   rw[k1]at a1;cases a1;rw[k2]at a2;cases a2;show PyData.eqvAll _ _=false;exact SeqAt.eqvAll_other_length (by rw[<-t1.length,<-t2.length];exact ne)
theorem Bv.uniq{x y:U}{S:Sto}{b c:Bool}(h:Bv x y S b)(k:Bv x y S c):b=c:=by
 rcases h with⟨dx,dy,h1,h2,_,_,rfl⟩|⟨l,l',us,vs,rfl,rfl,h1,h2,ne,rfl⟩;rcases k with⟨ex,ey,k1,k2,_,_,rfl⟩|⟨l,l',us,vs,rfl,rfl,k1,k2,ne,rfl⟩;rw[h1.uniq k1,h2.uniq k2];exact Bv.mix h1 h2 k1 k2 ne;rcases k with⟨ex,ey,k1,k2,_,_,rfl⟩|⟨_,_,_,_,_,_,_,_,_,rfl⟩;exact(Bv.mix k1 k2 h1 h2 ne).symm;rfl
open Classical in
def ql(neg:Bool):U->U->Sto->Option (U×Sto):=λx y S=>if h:∃b,Bv x y S b then some (.bl (if neg then !h.choose else h.choose),S)else none
theorem uU{x y:U}{S:Sto}{b:Bool}(neg:Bool)(h:Bv x y S b):ql neg x y S=some (.bl (if neg then !b else b),S):=by
 unfold ql;rw[dif_pos ⟨b,h⟩];have e:(⟨b,h⟩:∃b,Bv x y S b).choose=b:=(Exists.choose_spec (⟨b,h⟩:∃b,Bv x y S b)).uniq h;rw[e]
theorem um{neg:Bool}:OpP K (NH K neg) (ql neg):=by
 intro m S H x y v w u S' Q sr ix iy hf post;unfold ql at hf;split at hf<;>try cases hf
 rename_i h;have hb:=h.choose_spec;generalize h.choose=b at hb post;rcases hb with⟨dx,dy,h1,h2,l1,l2,rfl⟩|⟨l,l',us,vs,rfl,rfl,h1,h2,ne,rfl⟩;exact .inl ⟨dx,dy,h1.rd sr ix,h2.rd sr iy,l1,l2,post m _ H .refl sr .bl_⟩
 ·let⟨a,ha,rfl⟩:=ix.of_ref;let⟨a',ha',xs,hx,la⟩:=sr.get h1;rw[ha]at ha';cases ha';let⟨c,hc,rfl⟩:=iy.of_ref;let⟨c',hc',ys,hy,lc⟩:=sr.get h2;rw[hc]at hc';cases hc';refine .inr ⟨a,c,xs,ys,rfl,rfl,SqL.of hx,SqL.of hy,by rw[la.length,lc.length];exact ne,?_⟩;have e:(if neg=true then !false else false)=neg:=by cases neg<;>rfl
  have:=post m _ H .refl sr (Is.bl_ (b:=if neg=true then !false else false));rw[e]at this;exact this
def Pn(K:Q1)(neg:Bool):R2:=λx y H Q=>∃dx dys,RdV K H x dx/\(RdV K H y (.list dys)\/RdV K H y (.tuple dys))/\lU dx/\YW dys=true/\Q (.bl (if neg then !(dys.any λz=>z.eqv dx)else dys.any λz=>z.eqv dx)) H
theorem Kz(hu:X.A.units+64<cLine):OpR X (compareOp .In) (Pn X.K false):=by
 rintro b_ s σ H x y v u Q I rx ry ⟨dx,dys,hx,hy,lx,ly,q⟩;let⟨as,hx⟩:=hx.reads I rx;rcases hy with hy|hy;let⟨bs,hy⟩:=hy.reads I ry;exact SeqAt.in_list_reads hy hx ly lx.1 (by have:=lx.2;omega) ⟨.bl _,H,I,rfl,q⟩;let⟨bs,hy⟩:=hy.reads I ry;exact SeqAt.in_tuple_reads hy hx ly lx.1 (by have:=lx.2;omega) ⟨.bl _,H,I,rfl,q⟩
def HR(x y:U)(S:Sto)(b:Bool):Prop:=∃dx dys,Dt S x dx/\(Dt S y (.list dys)\/Dt S y (.tuple dys))/\lU dx/\YW dys=true/\b=dys.any λz=>z.eqv dx
theorem HR.uniq{x y:U}{S:Sto}{b c:Bool}(h:HR x y S b)(k:HR x y S c):b=c:=by
 let⟨dx,dy,h1,h2,_,_,rfl⟩:=h;let⟨ex,ey,k1,k2,_,_,rfl⟩:=k;rw[h1.uniq k1];rcases h2 with h2|h2<;>rcases k2 with k2|k2<;>cases h2.uniq k2<;>rfl
open Classical in
def EW(neg:Bool):U->U->Sto->Option (U×Sto):=λx y S=>if h:∃b,HR x y S b then some (.bl (if neg then !h.choose else h.choose),S)else none
theorem Hz{x y:U}{S:Sto}{b:Bool}(neg:Bool)(h:HR x y S b):EW neg x y S=some (.bl (if neg then !b else b),S):=by
 unfold EW;rw[dif_pos ⟨b,h⟩];have e:(⟨b,h⟩:∃b,HR x y S b).choose=b:=(Exists.choose_spec (⟨b,h⟩:∃b,HR x y S b)).uniq h;rw[e]
theorem Oc{neg:Bool}:OpP K (Pn K neg) (EW neg):=by
 intro m S H x y v w u S' Q sr ix iy hf post;unfold EW at hf;split at hf<;>try cases hf
 rename_i h;have hb:=h.choose_spec;generalize h.choose=b at hb post;let⟨dx,dy,h1,h2,l1,l2,rfl⟩:=hb;exact⟨dx,dy,h1.rd sr ix,h2.elim (λz=>.inl (z.rd sr iy)) (λz=>.inr (z.rd sr iy)),l1,l2,post m _ H .refl sr .bl_⟩
def DK(us:List U)(lo hi:Option Int):List U:=(us.drop (HT.sIx us.length 0 lo)).take (HT.sIx us.length us.length hi-HT.sIx us.length 0 lo)
theorem E3{m:List Addr}{xs:List V}{us:List U}{lo hi:Option Int}(i:IsL K m H xs us):IsL K m H (E4 xs lo hi) (DK us lo hi):=by
 unfold E4 DK;rw[i.length];exact(i.drop _).take _
def HH:Option CE->Rho->Sto->Option (Option Int×Sto)
 |none,_,S=>some (none,S)
 |some c,ρ,S=>(c ρ S).bind λp=>match p.1 with
  |.int i=>some (some i,p.2)
  |_=>none
def O1(K:Q1)(m:List Addr)(H:Hp)(Q:Option Int->Hp->Prop)(o:Option Int)(S':Sto):Prop:=∀m' H',Ext K m H m' H'->Sr K m' S' H'->Q o H'
def tO(K:Q1)(c:Option CE):TO:=λσ H Q=>∃m ρ S o S',Sr K m S H/\Lr K m H ρ σ/\HH c ρ S=some (o,S')/\O1 K m H Q o S'
abbrev QO(X:Cx)(e:Option QF)(c:Option CE):Prop:=WO X e (tO X.K c)
theorem zm:QO X none none:=⟨λb_ s σ H Q I hz=>kY hz λm ρ S o S' sr lr hc post=>BG.h b_ s σ H Q I (by cases hc;exact post m H .refl sr)⟩
theorem zj{e:QF}{ca:CE}(h:QE X e ca):QO X (some e) (some ca):=⟨λb_ s σ H Q I hz=>kY hz λm ρ S o S' sr lr hc post=>(BF h).h b_ s σ H Q I (by
 let⟨⟨x,S1⟩,h1,h2⟩:=Q0.mp hc;refine⟨m,ρ,S,x,S1,sr,lr,h1,λm1 v1 H1 e1 sr1 i1=>?_⟩;cases x<;>simp at h2;let⟨rfl,rfl⟩:=h2;exact⟨_,i1.of_int,post m1 H1 e1 sr1⟩)⟩
end
def Gm(K:Q1):R2:=λx y H Q=>∃a k xs,x=.ref a/\y=.int k/\SqT K H a xs/\xs≠[]/\1<=k/\xs.length*k.toNat<=1000/\∀q H',D8 H H'->SqT K H' q (QR k.toNat xs).flatten->Q (.ref q) H'
theorem G0:OpR X (binaryOp .Mult) (Gm X.K):=by
 intro b_ s σ H x y v u Q I rx ry h;let⟨a,k,xs,rfl,rfl,ha,hne,hk,hz,q⟩:=h;cases rx;let⟨t,rfl⟩:=ry;let⟨its,r1,p1,hzz⟩:=I.tuple ha;have p_:=r1.length;let⟨⟨cls,dd,data,sl⟩,ho,hc,n,hd⟩:=id p1;simp only at hc hd;subst hc hd;have hne':its≠[]:=λz=>hne (r1.nil_iff.mp z);refine wpAny_binaryOp_repeat_ref (T:="tuple") (U:="int") ∅ ⟨_,ho,rfl⟩ (λs'=>typeIs_int s' k t) lP F.fills_int_mul F.slot_int_rmul rh F.slot_int_index.lookup
  (call_meets F.slot_int_rmul (typeIs_int s k t) F.entry_int_rmul (F.args_int_rmul_2 _ _) (nV k t a its.toArray n dd sl) ⟨ho,rfl,⟨_,ho,rfl⟩,?_⟩)
 by_cases k1:k=1;subst k1;refine call_meets F.slot_tuple_mul ⟨_,ho,rfl⟩ F.entry_tuple_mul (F.args_tuple_mul_2 _ _) (uc a its.toArray n dd sl t) ⟨ho,⟨.ref a,H,I,rfl,q a H (.refl _) ?_⟩⟩;simpa using ha;have hfold:List.foldl (λx1 x2=>x1++x2) #[] (QR k.toNat its.toArray)=(QR k.toNat its).flatten.toArray:=by
  have:=mZ its k.toNat [];rw[Zw]at this;exact this
 have hfl:(QR k.toNat its).flatten.length<=1000:=by rw[uB,<-p_,Nat.mul_comm];exact hz
 have hlp:0<its.length:=Ya.mpr hne';have hk2:k.toNat<=1000:=ZP (Nat.le_mul_of_pos_left _ (by rw[p_];exact hlp)) hz;have hsz:(its.toArray.size:Int)*k<=1000:=by
  rw[QM,<-p_];have e:k=((k.toNat:Nat):Int):=by omega
  rw[e,<-Int.natCast_mul];omega
 refine call_meets F.slot_tuple_mul ⟨_,ho,rfl⟩ F.entry_tuple_mul (F.args_tuple_mul_2 _ _) (t9 a its.toArray n dd sl k t ?_ ?_ ?_ ?_ ?_ ?_) ⟨ho,?_⟩;simp;omega;simp[hne',k1];simp[hne'];omega;omega;unfold Builtin.Tuple.tupleTooMany;have:¬(its.toArray.size:Int)*k>(QU:Int):=by
  have:(1000:Nat)<=QU:=qX (QQ _);omega
 simpa using this;rw[hfold,QM];exact qX hfl;rw[hfold];refine⟨.ref s.heap.objs.size,_,I.laid (t':=s.toks) (o:=.tup (QR k.toNat xs).flatten) (λb ob q=>Q5 _ q) (QQ _) ?_,rfl,q _ _ (fQ (I.hok.fresh (QQ _)) _) (SqT.of aF)⟩;exact⟨qX (by rw[uB,Nat.mul_comm];exact hz),_,r1.rep k.toNat,Ee.new _ _⟩
def sD:U->U->Sto->Option (U×Sto)
 |.int i,.int j,S=>if Bn i j then some (.int (i*j),S)else none
 |.tup us,.int k,S=>if us≠[]/\1<=k/\us.length*k.toNat<=1000 then some (.tup (QR k.toNat us).flatten,S)else none
 |.ref l,.int k,S=>match S[l]? with
  |some (.lst us)=>if 0<=k/\k<=100000/\us.length*k.toNat<=LIM then some (.ref S.length,S++[.lst (QR k.toNat us).flatten])else none
  |_=>none
 |_,_,_=>none
theorem EI:OpR X (binaryOp .Mult) (λx y H Q=>rI Bn (λi j=>.int (i*j)) x y H Q\/(Gm X.K x y H Q\/NF x y H Q)):=kg.or (G0.or Ky)
instance {us:List U}:Decidable (us≠[]):=match us with
 |[]=>.isFalse λh=>h rfl
 |_::_=>.isTrue λh=>by cases h
theorem EH:OpP K (λx y H Q=>rI Bn (λi j=>.int (i*j)) x y H Q\/(Gm K x y H Q\/NF x y H Q)) sD:=by
 intro m S H x y v w u S' Q sr ix iy hf post;cases x<;>cases y<;>simp only[sD]at hf<;>try cases hf
 ·split at hf<;>try cases hf
  rename_i hc;exact .inl ⟨_,_,ix.of_int,iy.of_int,hc,post m _ H .refl sr .int_⟩
 ·rename_i us k;split at hf<;>try cases hf
  rename_i hc;let⟨a,xs,rfl,sa,la⟩:=ix.of_tup;refine .inr (.inl ⟨a,k,xs,rfl,iy.of_int,sa,λz=>hc.1 ?_,hc.2.1,by rw[la.length];exact hc.2.2,λq H' s sq=>?_⟩);subst z;have:=la.length;exact Zp.mp this.symm;exact post m _ H' (.of (cq s)) (sr.same s) (.tup_ sq ((la.rep k.toNat).mono (.of (cq s))))
 ·rename_i l k;split at hf<;>try cases hf
  rename_i us hS;split at hf<;>try cases hf
  rename_i hc;let⟨a,ha,rfl⟩:=ix.of_ref;let⟨a',ha',xs,hx,la⟩:=sr.get hS;rw[ha]at ha';cases ha';exact .inr (.inr ⟨a,k,xs,rfl,iy.of_int,hx,⋯,⋯,lim (by rw[la.length];exact hc.2.2),λp hp=>dC sr (la.rep k.toNat) post hp⟩)
end OP
namespace OG
open PySem PySem.Spec PyProof.Rows L2
theorem KH{C a:Addr}{m:Str->Option Q3}{h h':Heap}(n:h.Ns C m)(s:Heap.SameBut a h h')(ne:C≠a):h'.Ns C m:=by
 let⟨o,es,ep,e,r⟩:=n;exact⟨o,es,ep,(s.2 C ne).trans e,r⟩
theorem qP{X:Cx}{Nc capN tn:List Str}{scope:XR}{cl:List (Str×Addr)}{n:Nat}{caps:List Nat}{tg iter elt:QF}{pos:Pos}{wi:TI}{g:TG}{te:TE}{tt:TT}{c:QF}
  (hc:X.calm=true) (hi:WI X tg iter wi) (hg:∀s3 H3 fp,WG (cxC X Nc scope cl s3 H3 fp) tg g) (he:∀s3 H3 fp,WE (cxC X Nc scope cl s3 H3 fp) elt te)
  (ht:∀s3 H3 fp,WT (cxC X Nc scope cl s3 H3 fp) c tt)
  (G_:closureFor scope X.env=pure cl) (r_:scope.kind=.function) (hnl:∀x∈scope.names,x.2=.local->scope.names.lookup x.1=some .local) (x_:∀x∈scope.names,x.2≠.cell)
  (hcl:yt X.env cl) (H_:((relabel scope X.env).names.all λp=>!(p.2 == .cell||p.2 == .free)||(cl.lookup p.1).isSome)=true)
  (F_:Paired (Cap X scope cl) caps capN) (hN:Nc=tn++capN) (hn:tn.length=n)
  {i₀:Nat} {x₀:Str} {RC g_:Pos} (hN0:X.N.Nodup) (hi0:X.N[i₀]?=some x₀) (hx0:X.env.scope.names.lookup x₀=some .local)
  (hsw:Zc (.ListComp elt [⟨tg,iter,[c],0⟩] scope pos) (some (.Name x₀ g_)) RC.line X.env=pure true)
  (hs:∀x,foldedSetIterable iter X.env x=pure x:=by intro _;rfl) :
  WS X (.Assign [.Name x₀ g_] (.ListComp elt [⟨tg,iter,[c],0⟩] scope pos) RC) (λD σ H=>yU wi g tt te n caps σ H λv H'=>D.nx (σ.set i₀ (some v)) H'):=by
 constructor;intro b_ s σ H Dn I h;rw[exec_Assign_arm];refine Q2 (wpAny_standAt ?_);have hsw':swapsWithSole [.Name x₀ g_] (.ListComp elt [⟨tg,iter,[c],0⟩] scope pos) RC.line X.env=pure true:=hsw;rw[hsw'];refine Q2 (QJ ?_);rw[XO rfl,arm_evalThenUse_ListComp];refine Q2 (Q2 (yc (Qf:=λ_ s'=>wpAny (ZQ X.prog X.w) X.A (pure ()) (λ_ s'=>wpAny (ZQ X.prog X.w) X.A (pure Flow.next) (SP X b_ Dn) X.xe s') X.xe s') hc hi hg he ht G_ r_ hnl x_ hcl H_ F_ hN hn I h (λD C s6 H5 m I7 hm fr nl sz cn pn qn=>?_) hs));show wpAny _ _ (assign (.Name x₀ g_) X.env (.ref D)) _ _ s6;rw[arm_assign_Name];refine Q2 (wpAny_standAt (wpAny_bindName (qV (v:=.ref D) I7 hN0 hi0 (.inl hx0) rfl (λs7 I7' hsb=>?_) (.inr hx0))));let⟨a7,hsb,ha7⟩:=hsb;have cNe:C≠a7:=by
  rcases ha7 with z|z;rw[z];exact nl;exact Ne.symm (cn _ _ z)
 refine⟨m,KH hm hsb cNe,λh' hs'=>QJ (QJ ⟨_,H5,?_,qn⟩)⟩;exact I7'.turned (t':=s7.toks) (it:=C) (λb o hb e=>hs'.extBut b o hb e) fr nl (.inr sz) cn pn
end OG
namespace OP
open PySem PySem.Spec PyProof PyProof.Rows L2 OG
variable{X:Cx}{K:Q1}
section
def Mv(ca:CE):CE:=λρ S=>(ca ρ S).bind λp=>match p.1 with
 |.int i=>some (.int (-i),p.2)
 |_=>none
theorem Jn:UnR X (unaryOp .USub) (λx H Q=>∃i,x=.int i/\Q (.int (-i)) H):=by
 rintro b_ s σ H x v Q I rx ⟨i,rfl,q⟩;let⟨t,rfl⟩:=rx;exact PyProof.Rows.neg_int ⟨.int (-i),H,I.tok _,⟨_,rfl⟩,q⟩
theorem NO{a:QF}{ca:CE}{pos:Pos}(ha:QE X a ca):QE X (.UnaryOp .USub a pos) (Mv ca):=(Jf Jn ha).imp λσ H Q hz=>kY hz λm ρ S u S' sr lr hc post=>by
 let⟨⟨x,S1⟩,h1,h2⟩:=Q0.mp hc;refine⟨m,ρ,S,x,S1,sr,lr,h1,λm1 v1 H1 e1 sr1 i1=>?_⟩;cases x<;>simp at h2;let⟨rfl,rfl⟩:=h2;exact⟨_,i1.of_int,post m1 _ H1 e1 sr1 .int_⟩
def m9:U->List U->Sto->Option (U×Sto)
 |.ref l,[.int i],S=>match S[l]? with
  |some (.lst us)=>if 0<=i/\i<us.length/\us.length<=LIM then(us[i.toNat]?).bind λu=>some (u,S.set l (.lst (us.eraseIdx i.toNat)))else none
  |_=>none
 |_,_,_=>none
theorem GW:MtP K Ez m9:=by
 intro m S H x v us vs u S' Q sr ix i hf post;match x,us,hf with
 |.ref l,[.int k],hf=>
  simp only[m9]at hf;split at hf<;>try cases hf
  rename_i ws hS;split at hf<;>try cases hf
  rename_i hk;let⟨w,hw,h⟩:=Q0.mp hf;cases h;let⟨a,ha,rfl⟩:=ix.of_ref;let⟨a',ha',xs,hx,la⟩:=sr.get hS;rw[ha]at ha';cases ha';let⟨y,hy,iy⟩:=la.getD hw;let⟨z,rfl,iz⟩:=i.one;have eu:Ext K m H m (upd H a (.lst (xs.eraseIdx k.toNat))):=.of (sr.keep ha _);have hL:ws.length<=100000:=hk.2.2;exact⟨a,xs,k,k.toNat,y,rfl,by rw[iz.of_int],hx,⋯,⋯,seqIndex_of hk.1 (by rw[la.length];exact hk.2.1),hy,post m _ _ eu (sr.put ha ⟨_,aF,(la.erase _).mono eu⟩) (iy.mono eu)⟩
variable{e:QF}{es:List QF}{co:CE}{cr:CA}{o:QF}{i_ j_:Pos}
theorem zq (ho : QE X o co) (ha : QA X (e :: es) cr) (K_ : attributeBase o "pop" X.env (eval o X.env) = eval o X.env := by rfl) (R8 : ((ZL j_ (Q6 (e :: es) X.env)).all (λx => !x.1) && (backToKw j_ (keywordEach [] X.env)).all (λx => x.1.isSome)
   && decide ((e::es).length+([]:List Keyword).length+(if ([]:List Keyword).isEmpty then 0 else 1)<30))=true:=by rfl) (J_:(i_.endLine == j_.line)=true:=by rfl) (hs:Q6 (e::es) X.env=(false,eval e X.env)::Q6 es X.env:=by rfl) (E_:(ZL j_ (Q6 es X.env)).any (·.1)=false:=by rfl) :
  QE X (.Call (.Attribute o "pop" i_) (e::es) [] j_) (cBM m9 co cr):=(vI YJ PySem.F.slot_list_pop PySem.F.type_list_pop CN ho ha.h K_ R8 J_ hs E_).imp (xi GW)
theorem DW(bs:List Bool):(ZO bs.length).any (λi=>(bs[i]?).getD false)=bs.any id:=by
 rw[Zf,XW,XW];constructor;rintro⟨i,hi,h⟩;have hi':=X5.mp hi;rw[Q7 hi',Option.getD_some]at h;exact⟨_,YV hi',h⟩;rintro⟨b,hb,h⟩;let⟨i,hi,e⟩:=Yb.mp hb;refine⟨i,X5.mpr hi,?_⟩;rw[Q7 hi,Option.getD_some,e];exact h
theorem qz(hc:X.calm=true):ft X (.builtin "any") (λxs H Q=>∃(p:Addr) (bs:List Bool),xs=[.ref p]/\SqL X.K H p (bs.map V.bl)/\Q (.bl (bs.any id)) H):=by
 intro b_ s σ H xs us Q I r h;let⟨p,bs,rfl,hq,q⟩:=h;let⟨u,rfl,rx⟩:=lL r;cases rx;let⟨its,rv,pl,hz⟩:=I.list hq;have p_:=rv.length;rw[QX]at p_;refine call_any_walk (wpAny_pyIter_list pl.isList ?_);have lt:p<s.heap.objs.size:=by let⟨o,e,_⟩:=pl.isList;exact QY e
 refine⟨s.heap.objs.size,_,_,_,_,_,λi=>(bs[i]?).getD false,rfl,Walks.list (show X.A.in1.handled=none from I.ok.hd hc) s.heap.objs.size p (ZZ lt) its.toArray,⟨⟨_,Z0 _ rfl,rfl,rfl⟩,pl.isList.at λo e=>Q5 _ e⟩,?_,λh' tk hk=>?_⟩;intro i v s' Q' E' hP hQ;have hP':its.toArray[i]?=some v:=hP;let⟨b,e1,e2⟩:=yN rv ‹hP'›;subst e2;dsimp only at hQ;rw[e1,Option.getD_some]at hQ;exact wpAny_truthy_bool hQ;have e:(ZO its.toArray.size).any (λi=>(bs[i]?).getD false)=bs.any id:=by
  rw[QM,<-p_];exact DW bs
 rw[e];exact⟨.bl (bs.any id),H,I.kept λb o e=>hk b o (G7 e) (Q5 _ e),rfl,q⟩
def ym:Fn
 |[.ref l],S=>match S[l]? with
  |some (.lst us)=>(Bs us).bind λbs=>some (.bl (bs.any id),S)
  |_=>none
 |_,_=>none
theorem GY:lV K (λxs H Q=>∃(p:Addr) (bs:List Bool),xs=[.ref p]/\SqL K H p (bs.map V.bl)/\Q (.bl (bs.any id)) H) ym:=by
 intro m S H us vs u S' Q sr i hf post;match us,hf with
 |[.ref l],hf=>
  let⟨v,rfl,iv⟩:=i.one;let⟨a,ha,rfl⟩:=iv.of_ref;simp only[ym]at hf;split at hf<;>try cases hf
  rename_i ws hS;let⟨bs,hb,h⟩:=Q0.mp hf;cases h;let⟨a',ha',xs,hx,la⟩:=sr.get hS;rw[ha]at ha';cases ha';rw[A6 hb]at la;rw[la.bls]at hx;exact⟨a,bs,rfl,SqL.of hx,post m _ H .refl sr .bl_⟩
end
section
theorem FT{e:QF}{t:TE}(h:WE X e t):WE X e (λσ H Q=>t σ H λv H'=>∃a ob kvs,yj X a/\H' a=some (.frz ob (.dK kvs))/\Q v (upd H' a (.dK kvs))):=
 ⟨λb_ s σ H Q I k=>thn (h.h b_ s σ H _ I k) λu s1 ⟨v,H1,I1,r1,a,ob,kvs,nf,e,q⟩=>⟨v,_,km I1 nf e,r1,q⟩⟩
def oO(ce:CE)(f:(Sto->Prop)->Nat->List U->Rho->Sto->Option Sto)(n:Nat)(caps:List Nat):CE:=λρ S=>(ce ρ S).bind λp=>match p.1 with
 |.ref l=>match p.2[l]? with
  |some (.dic kus)=>uni λep=>(f (λS'=>S'[l]?=some (.fdc ep kus)) p.2.length (kus.map λq=>kU q.1) (uh n caps ρ) (p.2.set l (.fdc ep kus)++[.lst []])).bind λS'=>match S'[l]? with
   |some (.fdc _ O_)=>some (.ref p.2.length,S'.set l (.dic O_))
   |_=>none
  |_=>none
 |_=>none
def fK(ce:CE)(g:CG)(el:CE)(n:Nat)(caps:List Nat):CE:=oO ce (λok l=>gN ok g el l) n caps
def kC(ce:CE)(g:CG)(ct:CT)(el:CE)(n:Nat)(caps:List Nat):CE:=oO ce (λok l=>cu ok g ct el l) n caps
theorem qR{ce:CE}{f:(Sto->Prop)->Nat->List U->Rho->Sto->Option Sto}{n:Nat}{caps:List Nat}{G:It->Hp->L2.St->VK->Prop}
  (RL:∀{J:It} {us:List U} {ok:Sto->Prop} {Q:VK} {m1:List Addr} {H1:Hp} {S1 S':Sto} {ρ:Rho} {σ:L2.St},Sr X.K m1 S1 H1->Lr X.K m1 H1 ρ σ->Bu X.K J m1 H1 us ok->f ok S1.length us (uh n caps ρ) (S1++[.lst []])=some S'->
   (∀l,H1 l=none->∀m2 H2,Ext X.K (m1++[l]) (upd H1 l (.lst [])) m2 H2->Sr X.K m2 S' H2->Q (.ref l) H2)->G J H1 σ Q) :
  ∀σ H Q,tE X.K (oO ce f n caps) σ H Q->Ht X (tE X.K ce) σ H λJ H1=>G J H1 σ λv H'=>∃a ob kvs,yj X a/\H' a=some (.frz ob (.dK kvs))/\Q v (upd H' a (.dK kvs)):=by
 rintro σ H Q ⟨m,ρ,S,u,S',sr,lr,hc,post⟩;let⟨⟨x,S1⟩,h1,h⟩:=Q0.mp hc;refine⟨m,ρ,S,x,S1,sr,lr,h1,λm1 v1 H1 e1 sr1 i1=>?_⟩;cases x with
 |ref l=>
  simp only at h;split at h<;>try cases h
  rename_i kus hS;let⟨a,ha,rfl⟩:=i1.of_ref;let⟨a',ha',kvs,hx,ip⟩:=sr1.get hS;rw[ha]at ha';cases ha';refine⟨a,kvs,rfl,hx,λob es ep nf hd=>?_⟩;let⟨S2,h2,h3⟩:=Q0.mp (oZ h ep);try simp only at h3
  split at h3<;>try cases h3
  rename_i ep' O_ hS2;have kp:yp X.K H1 (upd H1 a (.frz ob (.dK kvs))):=sr1.keep ha _;have ee:Ext X.K m1 H1 m1 (upd H1 a (.frz ob (.dK kvs))):=.of kp;have sr2:Sr X.K m1 (S1.set l (.fdc ep kus)) (upd H1 a (.frz ob (.dK kvs))):=sr1.put ha ⟨ob,es,kvs,aF,hd,ip.mono ee⟩;rw[ip.1];have hln:(S1.set l (.fdc ep kus)).length=S1.length:=by simp
  refine RL sr2 (lr.mono (e1.trans ee)) (Ar ha) (by rw[hln];exact h2) λp hp m3 H3 e3 sr3=>?_;have en:Ext X.K m1 (upd H1 a (.frz ob (.dK kvs))) (m1++[p]) (upd (upd H1 a (.frz ob (.dK kvs))) p (.lst [])):=.new (bO hp _);have e03:=en.trans e3;let⟨a3,ha3,ob3,es3,kvs3,hx3,hd3,ip3⟩:=sr3.get hS2;rw[e03.get ha]at ha3;cases ha3;have e4:Ext X.K m3 H3 m3 (upd H3 a (.dK kvs3)):=.of (sr3.keep (e03.get ha) _);refine⟨a,ob3,kvs3,nf,hx3,post m3 _ _ (((e1.trans ee).trans e03).trans e4) (sr3.put (e03.get ha) ⟨kvs3,aF,ip3.mono e4⟩) ?_⟩;have lg:(m1++[p])[S1.length]?=some p:=ed sr1.len;exact .ref_ (e3.get lg)
 |_=>cases h
variable{Nc capN tn:List Str}{scope:XR}{cl:List (Str×Addr)}{n:Nat}{caps:List Nat}{tg iter elt:QF}{pos:Pos}{ci:CE}{g:CG}{ce:CE}
theorem ui(hc:X.calm=true)(hi:QE X iter ci)(hg:∀s3 H3 fp,WG (cxC X Nc scope cl s3 H3 fp) tg (tG X.K g))(he:∀s3 H3 fp,WE (cxC X Nc scope cl s3 H3 fp) elt (tE X.K ce))
  (G_:closureFor scope X.env=pure cl) (r_:scope.kind=.function) (hnl:∀x∈scope.names,x.2=.local->scope.names.lookup x.1=some .local) (x_:∀x∈scope.names,x.2≠.cell)
  (hcl:yt X.env cl) (H_:((relabel scope X.env).names.all λp=>!(p.2 == .cell||p.2 == .free)||(cl.lookup p.1).isSome)=true)
  (F_:Paired (Cap X scope cl) caps capN) (hN:Nc=tn++capN) (hn:tn.length=n)
  (hs:∀x,foldedSetIterable iter X.env x=pure x:=by intro _;rfl) :
  QE X (.ListComp elt [⟨tg,iter,[],0⟩] scope pos) (fK ci g ce n caps):=
 (FT (vH hc (t7 hi) hg he G_ r_ hnl x_ hcl H_ F_ hN hn hs)).imp (qR (G:=λJ H1 σ Q=>∀l,H1 l=none->∃W:Nat->Nat->L2.St->Hp->Prop,(∃m,W 0 m (OG.stC n caps σ) (upd H1 l (.lst [])))/\
  ∀i m σ' H2,W i m σ' H2->(J.stop i H2/\Q (.ref l) H2)\/(J.go i H2/\∃N:L2.St->Hp->Prop,(∀σ'' H',N σ'' H'->∃m',m'<m/\W (i+1) m' σ'' H')/\
  ∀x H3,J.yld i H2 x H3->tG X.K g x σ' H3 λσ2 H4=>tE X.K ce σ2 H4 λv H5=>∃ys,H5 l=some (.lst ys)/\ys.length<QU/\N σ2 (upd H5 l (.lst (ys++[v]))))) λsr lr ito h2 post l hl=>sP sr lr ito hl h2 (post l hl))
end
end OP
namespace OP
open PySem PySem.Spec PyProof PyProof.Rows L2 OG PySem.W
section
variable{cmp:Nat->Nat->(Bool->Q4->Prop)->Q4->Prop}{s:Q4}{n:Nat}{lt:Nat->Nat->Bool}
structure Bt(n:Nat)(lt:Nat->Nat->Bool):Prop where
 tr:∀{i j k},i<n->j<n->k<n->lt i j=true->lt j k=true->lt i k=true
 tot:∀{i j},i<n->j<n->i≠j->lt i j=false->lt j i=true
 asym:∀{i j},i<n->j<n->lt i j=true->lt j i=false
def xp(cmp:Nat->Nat->(Bool->Q4->Prop)->Q4->Prop)(n:Nat)(lt:Nat->Nat->Bool)(s:Q4):Prop:=∀i j C,i<n->j<n->C (lt i j) s->cmp i j C s
structure Pm(n:Nat)(p:Array Nat):Prop where
 sz:p.size=n
 bd:∀i,i<n->p.getD i 0<n
 ne:∀i j,i<j->j<n->p.getD i 0≠p.getD j 0
def Asc(lt:Nat->Nat->Bool)(p:Array Nat)(k:Nat):Prop:=∀i j,i<j->j<k->lt (p.getD i 0) (p.getD j 0)=true
def Dsc(lt:Nat->Nat->Bool)(p:Array Nat)(k:Nat):Prop:=∀i j,i<j->j<k->lt (p.getD j 0) (p.getD i 0)=true
variable{p:Array Nat}
theorem Pm.ne'(P:Pm n p){i j:Nat}(hi:i<n)(hj:j<n)(h:i≠j):p.getD i 0≠p.getD j 0:=by
 rcases Nat.lt_or_gt_of_ne h with z|z;exact P.ne i j z hj;exact Ne.symm (P.ne j i z hi)
theorem Asc.snoc(O:Bt n lt)(P:Pm n p){m:Nat}(h1:1<=m)(hm:m<n)(h:Asc lt p m)(h2:lt (p.getD (m-1) 0) (p.getD m 0)=true):Asc lt p (m+1):=λi j hij hj=>by
 by_cases e:j=m;subst e;by_cases e2:i=j-1;subst e2;exact h2;exact O.tr (P.bd _ ⋯) (P.bd _ ⋯) (P.bd _ ⋯) (h i (j-1) ⋯ ⋯) h2;exact h i j hij ⋯
theorem Dsc.snoc(O:Bt n lt)(P:Pm n p){m:Nat}(h1:1<=m)(hm:m<n)(h:Dsc lt p m)(h2:lt (p.getD m 0) (p.getD (m-1) 0)=true):Dsc lt p (m+1):=λi j hij hj=>by
 by_cases e:j=m;subst e;by_cases e2:i=j-1;subst e2;exact h2;exact O.tr (P.bd _ ⋯) (P.bd _ ⋯) (P.bd _ ⋯) h2 (h i (j-1) ⋯ ⋯);exact h i j hij ⋯
theorem Ba(O:Bt n lt)(A:xp cmp n lt s)(P:Pm n p):∀(f m:Nat) {Q:Nat->Q4->Prop},1<=m->m+f<=n->Asc lt p m->(∀m',m<=m'->m'<=m+f->Asc lt p m'->(m'=m+f\/lt (p.getD m' 0) (p.getD (m'-1) 0)=true)->Q m' s)->(kas_asc p f m).kasWp cmp Q s
 |0,m,Q,h1,h2,h3,q=>q m (QQ _) ⋯ h3 (.inl rfl)
 |f+1,m,Q,h1,h2,h3,q=>by
  refine A _ _ _ (P.bd _ ⋯) (P.bd _ ⋯) ?_;cases hc:lt (p.getD m 0) (p.getD (m-1) 0)with
  |true=>exact q m (QQ _) ⋯ h3 (.inr hc)
  |false=>
   have h4:=h3.snoc O P h1 ⋯ (O.tot (P.bd _ ⋯) (P.bd _ ⋯) (P.ne' ⋯ ⋯ ⋯) hc);exact Ba O A P f (m+1) ⋯ ⋯ h4 λm' a b c d=>q m' ⋯ ⋯ c (by rcases d with d|d;exact .inl ⋯;exact .inr d)
theorem AQ(O:Bt n lt)(A:xp cmp n lt s)(P:Pm n p):∀(f m:Nat) {Q:Array Nat×Nat×Nat->Q4->Prop},1<=m->m+f<=n->Dsc lt p m->(∀m',m<=m'->m'<=m+f->Dsc lt p m'->Q (p,m',0) s)->(kas_desc f p m 0).kasWp cmp Q s
 |0,m,Q,h1,h2,h3,q=>q m (QQ _) ⋯ h3
 |f+1,m,Q,h1,h2,h3,q=>by
  refine A _ _ _ (P.bd _ ⋯) (P.bd _ ⋯) ?_;cases hc:lt (p.getD m 0) (p.getD (m-1) 0)with
  |true=>exact AQ O A P f (m+1) ⋯ ⋯ (h3.snoc O P h1 ⋯ hc) λm' a b c=>q m' ⋯ ⋯ c
  |false=>
   refine A _ _ _ (P.bd _ ⋯) (P.bd _ ⋯) ?_;rw[O.tot (P.bd _ ⋯) (P.bd _ ⋯) (P.ne' ⋯ ⋯ ⋯) hc];exact q m (QQ _) ⋯ h3
theorem jM{p q:Array Nat}{i j:Nat}(h:p[i]?=q[j]?):p.getD i 0=q.getD j 0:=by
 rw[XJ,XJ,h]
theorem mE{m k:Nat}(hm:m<=p.size):(kas_rev p 0 m).getD k 0=if k<m then p.getD (m-1-k) 0 else p.getD k 0:=by
 unfold kas_rev;have h:=getElem?_mirror_all (i:=0) hm k;split;rename_i c;rw[XO ⟨Zh _,c⟩]at h;exact jM (by rw[h];congr 1;omega);rename_i c;rw[XS ⋯]at h;exact jM h
theorem Pm.rev(P:Pm n p){m:Nat}(hm:m<=n):Pm n (kas_rev p 0 m) where
 sz:=by rw[kas_rev_size];exact P.sz
 bd:=λi hi=>by
  rw[mE (by rw[P.sz];exact hm)];split<;>exact P.bd _ ⋯
 ne:=λi j hij hj=>by
  rw[mE (by rw[P.sz];exact hm),mE (by rw[P.sz];exact hm)];split<;>split<;>exact P.ne' ⋯ ⋯ ⋯
theorem Dsc.rev{m:Nat}(P:Pm n p)(hm:m<=n)(h:Dsc lt p m):Asc lt (kas_rev p 0 m) m:=λi j hij hj=>by
 rw[mE (by rw[P.sz];exact hm),mE (by rw[P.sz];exact hm),XO ⋯,XO hj];exact h _ _ ⋯ ⋯
theorem DL(O:Bt n lt)(A:xp cmp n lt s)(P:Pm n p){Q:Nat×Array Nat->Q4->Prop}(h1:1<=n)(q:∀m p',1<=m->m<=n->Pm n p'->Asc lt p' m->Q (m,p') s):(kas_count n p).kasWp cmp Q s:=by
 unfold kas_count;rw[KasT.kasWp_bind];refine Ba O A P (n-1) 1 (QQ _) ⋯ (λi j a b=>by omega) λm a b c d=>?_;by_cases e:m=n;rw[XO (by rw[e];exact beq_self_eq_true n)];exact q m p a ⋯ P c;rw[XS ‹e›];have d':lt (p.getD m 0) (p.getD (m-1) 0)=true:=by
  rcases d with d|d;omega;exact d
 by_cases g:m>1;rw[XO g];refine A _ _ _ (P.bd _ ⋯) (P.bd _ ⋯) ?_;rw[c 0 (m-1) ⋯ ⋯];exact q m p a ⋯ P c;rw[XS g];have m1:m=1:=by omega
 subst m1;unfold kas_descPart;rw[KasT.kasWp_bind];have d2:Dsc lt p 2:=λi j a b=>by
  have e1:i=0:=by omega
  have e2:j=1:=by omega
  subst e1;subst e2;exact d'
 refine AQ O A P (n-(1+1)) (1+1) ⋯ ⋯ d2 λm' a' b' c'=>?_;rw[XS nofun];unfold kas_tail3;rw[KasT.kasWp_bind];have hm':m'<=n:=by omega
 exact Ba O A (P.rev hm') (n-m') m' ⋯ ⋯ (c'.rev P hm') λm2 a2 b2 c2 _=>q m2 _ ⋯ ⋯ (P.rev hm') c2
theorem pL(O:Bt n lt)(A:xp cmp n lt s)(P:Pm n p){k:Nat}(hk:k<n)(hs:Asc lt p k):∀(f l r:Nat) {Q:Nat->Q4->Prop},l<=r->r<=k->r-l<=f->(∀i,i<l->lt (p.getD i 0) (p.getD k 0)=true)->(∀i,r<=i->i<k->lt (p.getD k 0) (p.getD i 0)=true)->
  (∀l',l'<=k->(∀i,i<l'->lt (p.getD i 0) (p.getD k 0)=true)->(∀i,l'<=i->i<k->lt (p.getD k 0) (p.getD i 0)=true)->Q l' s)->(kas_place p k f l r).kasWp cmp Q s
 |0,l,r,Q,h1,h2,h3,h4,h5,q=>q l ⋯ h4 λi a b=>h5 i ⋯ b
 |f+1,l,r,Q,h1,h2,h3,h4,h5,q=>by
  unfold kas_place;by_cases e:l≥r;rw[XO e];exact q l ⋯ h4 λi a b=>h5 i ⋯ b;rw[XS e];have hM:(l+r) / 2<k:=by omega
  refine A _ _ _ (P.bd _ hk) (P.bd _ ⋯) ?_;cases hc:lt (p.getD k 0) (p.getD ((l+r) / 2) 0)with
  |true=>
   refine pL O A P hk hs f l ((l+r) / 2) ⋯ ⋯ ⋯ h4 (λi a b=>?_) q;by_cases e2:i=(l+r) / 2;subst e2;exact hc;exact O.tr (P.bd _ hk) (P.bd _ ⋯) (P.bd _ ⋯) hc (hs _ i ⋯ b)
  |false=>
   have hc':=O.tot (P.bd _ hk) (P.bd _ (show(l+r) / 2<n by omega)) (P.ne' hk ⋯ ⋯) hc;refine pL O A P hk hs f ((l+r) / 2+1) r ⋯ ⋯ ⋯ (λi a=>?_) h5 q;by_cases e2:i=(l+r) / 2;subst e2;exact hc';exact O.tr (P.bd _ ⋯) (P.bd _ ⋯) (P.bd _ hk) (hs i ((l+r) / 2) ⋯ hM) hc'
theorem k8{k l i:Nat}(hk:k<p.size)(hl:l<=k):(bubble p k (k-l)).getD i 0=if i=l then p.getD k 0 else if l<i/\i<=k then p.getD (i-1) 0 else p.getD i 0:=by
 have h:=getElem?_bubble hk (k-l) ⋯ i;rw[show k-(k-l)=l by omega]at h;by_cases c:i=l;rw[XO c]at h ⊢;exact jM h;rw[XS c]at h ⊢;by_cases d:l<i/\i<=k;rw[XO d]at h ⊢;exact jM h;rw[XS d]at h ⊢;exact jM h
theorem Pm.bub(P:Pm n p){k l:Nat}(hk:k<n)(hl:l<=k):Pm n (bubble p k (k-l)) where
 sz:=by rw[bubble_size];exact P.sz
 bd:=λi hi=>by
  rw[k8 (by rw[P.sz];exact hk) hl];repeat' split
  all_goals exact P.bd _ ⋯
 ne:=λi j hij hj=>by
  rw[k8 (by rw[P.sz];exact hk) hl,k8 (by rw[P.sz];exact hk) hl];repeat' split
  all_goals first|(exfalso;omega)|exact P.ne' ⋯ ⋯ ⋯
theorem Asc.bub(P:Pm n p){k l:Nat}(hk:k<n)(hl:l<=k)(h:Asc lt p k)(h1:∀i,i<l->lt (p.getD i 0) (p.getD k 0)=true)(h2:∀i,l<=i->i<k->lt (p.getD k 0) (p.getD i 0)=true):Asc lt (bubble p k (k-l)) (k+1):=λi j hij hj=>by
 rw[k8 (by rw[P.sz];exact hk) hl,k8 (by rw[P.sz];exact hk) hl];repeat' split
 all_goals first|(exfalso;omega)|exact h1 _ ⋯|exact h2 _ ⋯ ⋯|exact h _ _ ⋯ ⋯
theorem E7(O:Bt n lt)(A:xp cmp n lt s):∀(f:Nat) (p:Array Nat) (k:Nat) {Q:Array Nat->Q4->Prop},Pm n p->k+f=n->Asc lt p k->(∀p',Pm n p'->Asc lt p' n->Q p' s)->(kas_bin f p k).kasWp cmp Q s
 |0,p,k,Q,P,h1,h2,q=>q p P (by rw[<-h1];exact h2)
 |f+1,p,k,Q,P,h1,h2,q=>by
  unfold kas_bin;rw[KasT.kasWp_bind];refine pL O A P (k:=k) ⋯ h2 k 0 k (Zh _) (QQ _) ⋯ (λi a=>by omega) (λi a b=>by omega) λl a b c=>?_;exact E7 O A f _ (k+1) (P.bub ⋯ a) ⋯ (h2.bub P ⋯ a b c) q
theorem pK:Pm n (List.toArray (ZO n)):=by
 have g:∀i,i<n->(List.toArray (ZO n)).getD i 0=i:=λi hi=>by simp[Array.getD,hi]
 exact⟨nofun,λi hi=>by rw[g i hi];exact hi,λi j hij hj=>by rw[g i ⋯,g j hj];omega⟩
theorem Gb(O:Bt n lt)(A:xp cmp n lt s){Q:Array Nat->Q4->Prop}(h1:1<=n)(q:∀p',Pm n p'->Asc lt p' n->Q p' s):(kas_sort n).kasWp cmp Q s:=by
 unfold kas_sort;rw[KasT.kasWp_bind];refine DL O A pK h1 λm p' a b P c=>?_;by_cases e:m<n;rw[XO e];rw[show max m 1=m by omega];exact E7 O A _ _ _ P ⋯ c q;rw[XS e];exact q p' P (by rw[show n=m by omega];exact c)
end
end OP
namespace OP
open PySem PySem.Spec PyProof PyProof.Rows L2 OG
section
variable{prog:Z7}{w:ZR}{A:ZE}{E:Q3->Q4->Prop}{s:Q4}{d it:Addr}{o:Obj}{es:Array DictEntry}{ep i:Nat}
theorem B1{Q:Q3->Q4->Prop}(hd:(d == sysModules)=false)(ho:s.heap.get? d=some o)(hc:o.ExactDict)(he:o.data=.dict es ep)
  (q:Q (.ref s.heap.objs.size) { s with heap:=s.heap.push { cls:=.type "dict_keyiterator",data:=.fields #[.ref d,.int 0 0,.int es.size 0,.int ep 0] } }):wpAny (ZQ prog w) A (pyIter (.ref d)) Q E s:=by
 have T:s.TypeIs (.ref d) "dict":=⟨o,ho,hc.1⟩;refine wpAny_pyIter_slot T F.slot_dict_iter (wpAny_call_entry F.slot_dict_iter T F.entry_dict_iter ?_ (F.args_dict_iter_1 _));unfold Builtin.«dict.__iter__»;refine Q2 ?_;unfold Builtin.Dict.dictSlotNone;refine Q2 (wpAny_notOrdered_dict T ?_);refine QJ (show wpAny _ _ (Builtin.Dict.showsAll d >>= _) _ _ s from ?_);unfold Builtin.Dict.showsAll;rw[XS (by rw[hd];exact QV)];refine Q2 (QJ (Q2 (wpAny_dictEntries ho he (Q2 (wpAny_dictEpoch ho he ?_)))));refine Q2 (wpAny_newObj_type (QJ ⟨_,rfl,"dict_keyiterator",_,⟨_,Z0 _ rfl,rfl⟩,F.slot_dict_keyiterator_next.lookup,q⟩))
theorem B2{Q:Option Q3->Q4->Prop}(hit:s.heap.IsKeyIter it d i es.size ep)(ho:s.heap.get? d=some o)(he:o.data=.dict es ep)(hi:i<es.size)
  (q:∀h',h'.IsKeyIter it d (i+1) es.size ep->Heap.SameBut it s.heap h'->Q (some es[i].key) { s with heap:=h' }):wpAny (ZQ prog w) A (pyNext (.ref it)) Q E s:=by
 let⟨io,hio,ic,id'⟩:=id hit;unfold pyNext;refine Q2 (wpAny_attempt (wpAny_callSpecial?_slot (name:=Str.ofString "__next__") hit.typeIs F.slot_dict_keyiterator_next (wpAny_call_entry F.slot_dict_keyiterator_next hit.typeIs F.entry_dict_keyiterator_next ?_ (F.args_dict_keyiterator_next_1 _))));refine Q2 (QJ (Q2 (Q2 ?_)));first|refine Q2 (wpAny_typeNameOfWhole_keyiter hit.typeIs (QJ (Q2 (wpAny_fieldsOf hio id' ?_))))|refine Q2 (wpAny_typeNameOf_keyiter hit.typeIs (QJ (Q2 (wpAny_fieldsOf hio id' ?_))))
 simp only[show Builtin.Dict_items.ownsTuple "dict_keyiterator"=false by decide,ZU,if_false];refine(show wpAny _ _ (if (Value.ref d == Value.none)=true then _ else _) _ _ s from ?_);rw[XS (show ¬((Value.ref d == Value.none)=true)from QV)];refine Q2 (QJ (Q2 (wpAny_dictEntries ho he ?_)));rw[XS nofun];refine Q2 (QJ (Q2 (wpAny_dictEpoch ho he ?_)));rw[XS nofun];refine QJ ?_;simp only[show ¬((i:Int)<0)by omega,if_false,XD,Zb hi];refine Q2 ?_;first|refine Q2 (wpAny_typeNameOfWhole_keyiter hit.typeIs (QJ (Q2 (wpAny_isOneOf_keyiter hit.typeIs ?_))))|refine Q2 (wpAny_typeNameOf_keyiter hit.typeIs (QJ (Q2 (wpAny_isOneOf_keyiter hit.typeIs ?_))))
 refine(show wpAny _ _ (setField (.ref it) 1 (rawInt ((i:Int)+1)) >>= _) _ _ s from Q2 (wpAny_setField hio id' nofun ?_));have RP:(s.heap.update it (Obj.mapFields (·.setIfInBounds 1 (rawInt ((i:Int)+1))))).IsKeyIter it d (i+1) es.size ep:=⟨_,XC _ hio (Obj.isFreed_of_fields (Obj.data_mapFields id' _)),(Obj.cls_mapFields ..).trans ic,by rw[Obj.data_mapFields id'];simp[rawInt]⟩;refine Q2 (wpAny_holding (Q2 (wpAny_isOneOf_keyiter (s:={ s with heap:=s.heap.update it (Obj.mapFields (·.setIfInBounds 1 (rawInt ((i:Int)+1)))) }) RP.typeIs ?_)));exact(show wpAny _ _ (pure es[i].key) _ _ _ from QJ (QJ ⟨_,rfl,QJ (q _ RP (Heap.SameBut.update ..))⟩))
theorem Gk{Q:Option Q3->Q4->Prop}(hh:A.handled=none)(hit:s.heap.IsKeyIter it d i es.size ep)(ho:s.heap.get? d=some o)(he:o.data=.dict es ep)(hi:es.size<=i)
  (q:∀h',Heap.ExtBut it s.heap h'->Q none { s with heap:=h' }):wpAny (ZQ prog w) A (pyNext (.ref it)) Q E s:=by
 let⟨io,hio,ic,id'⟩:=id hit;unfold pyNext;refine Q2 (wpAny_attempt (wpAny_callSpecial?_slot (name:=Str.ofString "__next__") hit.typeIs F.slot_dict_keyiterator_next (wpAny_call_entry F.slot_dict_keyiterator_next hit.typeIs F.entry_dict_keyiterator_next ?_ (F.args_dict_keyiterator_next_1 _))));refine Q2 (QJ (Q2 (Q2 ?_)));first|refine Q2 (wpAny_typeNameOfWhole_keyiter hit.typeIs (QJ (Q2 (wpAny_fieldsOf hio id' ?_))))|refine Q2 (wpAny_typeNameOf_keyiter hit.typeIs (QJ (Q2 (wpAny_fieldsOf hio id' ?_))))
 simp only[show Builtin.Dict_items.ownsTuple "dict_keyiterator"=false by decide,ZU,if_false];refine(show wpAny _ _ (if (Value.ref d == Value.none)=true then _ else _) _ _ s from ?_);rw[XS (show ¬((Value.ref d == Value.none)=true)from QV)];refine Q2 (QJ (Q2 (wpAny_dictEntries ho he ?_)));rw[XS nofun];refine Q2 (QJ (Q2 (wpAny_dictEpoch ho he ?_)));rw[XS nofun];refine QJ ?_;simp only[show ¬((i:Int)<0)by omega,if_false,XD,Array.getElem?_eq_none hi];refine Q2 ?_;first|refine Q2 (wpAny_typeNameOfWhole_keyiter hit.typeIs (QJ ?_));skip|refine Q2 (wpAny_typeNameOf_keyiter hit.typeIs (QJ ?_));skip
 refine(show wpAny _ _ (setField (.ref it) 0 .none >>= _) _ _ s from Q2 (wpAny_setField hio id' nofun ?_));refine(show wpAny _ _ (newExc (.type "StopIteration") [] >>= _) _ _ _ from Q2 ?_);simp only[newExc,newTuple];refine Q2 (wpAny_newObj_type ?_ (by size_fits));refine Q2 (m:=firstArgMember _ _) (wpAny_of_eq (a:=Value.none) (by first|rfl|(simp only[firstArgMember];rfl)) (wpAny_newObj_type ?_ (by size_fits)));simp only[raiseNew];refine Q2 (wpAny_handled ?_);rw[show A.in1.handled=none from hh];refine Q2 (QJ (wpAny_throw ?_));refine Q2 (wpAny_isInstance (T:="StopIteration") (b:=true) ⟨_,Z0 _ rfl,rfl⟩ isSubtype_stop ?_);exact QJ (q _ (((Heap.SameBut.update ..).extBut.push _).push _))
end
end OP
namespace OP
open PySem PySem.Spec PyProof PyProof.Rows L2 OG PySem.W
theorem pV{prog:Z7}{w:ZR}{A:ZE}{E:Q3->Q4->Prop}{s:Q4}{a:Addr}{vs:List Q3}{n:Nat}{P:PySem.Fin->Q4->Prop}
  (g:s.heap.get? a=some (seqObj "list" vs.toArray n)) (h2:2<=vs.length) (h64:vs.length<64)
  (ask:∀h':Heap,(∀b o,b≠a->s.heap.get? b=some o->h'.get? b=some o)->wpAny (ZQ prog w) A (keyKind' vs.toArray) (λκ s'=>s'={ s with heap:=h' }/\KasT.kasWp (kas_ask prog w A κ vs) (kas_sort vs.length)
   (λp s''=>s''={ s with heap:=h' }/\P (Fin.done (Flow.ret Value.none)) { s with heap:=sortedHeap s.heap a vs (p.toList.map λi=>vs.getD i Value.none).toArray }) { s with heap:=h' }) E { s with heap:=h' }) :
  wpAny (ZQ prog w) A (Builtin.«list.sort» { pos:=[Value.ref a] }) P E s:=by
 rw[list_sort_plain];have hS:vs.toArray.size=vs.length:=by simp
 have hz:vs.length<=QU:=by unfold QU;omega
 have lt:=QY g;refine Q2 (listItems_at g rfl (Q2 (listUpdate_at g rfl ?_ (by rw[hS];exact hz) nofun)));obtain⟨e1,g1⟩:∃e1,(s.heap.update a (YZ λ_=>#[])).get? a=some (seqObj "list" #[] e1):=⟨_,get?_update_seq g λ_=>#[]⟩;refine Q2 (seqEpoch_at g1 rfl (Q2 (wpAny_newTuple (Q2 (wpAny_newList (wpAny_holding ?_) nofun)) ‹hz›)));have hu:(s.heap.update a (YZ λ_=>#[])).objs.size=s.heap.objs.size:=Heap.size_update ..;have g2:(((s.heap.update a (YZ λ_=>#[])).push (seqObj "tuple" vs.toArray 0)).push (seqObj "list" #[] 0)).get? a=some (seqObj "list" #[] e1):=
  Q5 _ (Q5 _ g1)
 have n2:¬vs.toArray.size<2:=by rw[hS];omega
 dsimp only;rw[XS n2];have hk:∀b o,b≠a->s.heap.get? b=some o->(((s.heap.update a (YZ λ_=>#[])).push (seqObj "tuple" vs.toArray 0)).push (seqObj "list" #[] 0)).get? b=some o:=λb o hb ho=>by
  refine Q5 _ (Q5 _ ?_);rw[Heap.get?_update_ne _ _ _ _ hb];exact ho
 refine Q2 (ZN (ask _ hk) (λκ s' hs'=>?_) λ_ _ h'=>h');let⟨rfl,hrun⟩:=hs';rw[XS n2];refine Q2 (ZN (kat_run (ks:=vs) (Q:=λst' s'=>∃p:Array Nat,p.size=vs.length/\arrOf st'=Array.map (kas_item (vs.toArray.zip vs.toArray)) p/\failedOf st'=none/\s'=_/\P (Fin.done (Flow.ret Value.none)) { s with heap:=sortedHeap s.heap a vs (p.toList.map λi=>vs.getD i Value.none).toArray }) rfl h2 h64 (λp st' s' hp RD Q_ hG=>⟨p,hp,RD,Q_,hG⟩) hrun) (λr s' hr=>?_) λ_ _ h'=>h');let⟨u,st'⟩:=r;let⟨p,hp,RD,Q_,rfl,hP⟩:=hr;have hout:Array.map (λx=>x.snd) (arrOf st')=(p.toList.map λi=>vs.getD i Value.none).toArray:=kat_snds rfl RD;refine Q2 (seqEpoch_at g2 rfl (Q2 (listUpdate_at g2 rfl ?_ nofun ?_)));dsimp only at Q_ ⊢;rw[Q_];simp only[bne_self_eq_false,ZU,if_false];have hP':=hP;rw[<-hout]at hP';exact QJ hP';dsimp only;rw[hout];simp;unfold QU;omega
def tm(h:Heap)(v:Q3)(p:Int×Int):Prop:=∃b o t1 t2 e,v=Value.ref b/\h.get? b=some o/\o.cls=Value.type "tuple"/\o.data=Data.seq #[Value.int p.1 t1,Value.int p.2 t2] e
def ltP(p q:Int×Int):Bool:=decide (p.1<q.1\/p.1=q.1/\p.2<q.2)
variable{prog:Z7}{A:ZE}{E:Q3->Q4->Prop}{s:Q4}
section
variable{w:ZR}
theorem kN{b:Bool}{x y:Int}{t u:Tok}{Q:Bool->Q4->Prop}(h:Q (decide (x<y)) s):wpAny (ZQ prog w) A (oneLt' b (Value.int x t) (Value.int y u)) Q E s:=by
 cases b with
 |true=>exact oneLt_int h
 |false=>
  rw[oneLt'_eq];dsimp only;rw[XS QV];exact Q2 (wpAny_lt_int (wpAny_truthy_bool h))
theorem GU{v v':Q3}{p p':Int×Int}{C:Bool->Q4->Prop}(h:tm s.heap v p)(h':tm s.heap v' p')(c:C (ltP p p') s):wpAny (ZQ prog w) A (keyLt' (tuples' true) v v') C E s:=by
 let⟨b,o,t1,t2,e,rfl,g,_,d⟩:=h;let⟨b',o',t1',t2',e',rfl,g',_,d'⟩:=h';refine kat_lt g d g' d' (kat_cons (wpAny_eqBool_int ?_));by_cases e1:p.1=p'.1;rw[e1,beq_self_eq_true];refine kat_yes (kat_cons (wpAny_eqBool_int ?_));by_cases e2:p.2=p'.2;rw[e2,beq_self_eq_true];refine kat_yes (kat_nil ?_);have:ltP p p'=false:=by simp[ltP,e1,e2]
 rw[this]at c;exact c;rw[beq_eq_false_iff_ne.mpr e2];refine kat_no (kN ?_);have:ltP p p'=decide (p.2<p'.2):=by simp[ltP,e1]
 rw[this]at c;exact c;rw[beq_eq_false_iff_ne.mpr e1];refine kat_no (kN ?_);have:ltP p p'=decide (p.1<p'.1):=by simp[ltP,e1]
 rw[this]at c;exact c
def jQ(h:Heap):List Q3->List (Int×Int)->Prop
 |[],[]=>True
 |v::vs,p::ps=>tm h v p/\jQ h vs ps
 |_,_=>False
theorem rn{h:Heap}:∀{vs:List Q3} {ps:List (Int×Int)},jQ h vs ps->vs.length=ps.length
 |[],[],_=>rfl
 |_::_,_::_,k=>by rw[QK,QK,rn k.2]
 |[],_::_,k=>k.elim
 |_::_,[],k=>k.elim
theorem mI{h:Heap}:∀{vs:List Q3} {ps:List (Int×Int)} {i:Nat},jQ h vs ps->i<ps.length->tm h (vs.getD i Value.none) (ps.getD i (0,0))
 |[],[],_,_,k=>absurd k (Nat.not_lt_zero _)
 |_::_,_::_,0,k,_=>k.1
 |_::vs,_::ps,i+1,k,l=>by
  show tm h (vs.getD i Value.none) (ps.getD i (0,0));exact mI k.2 (by rw[QK]at l;omega)
 |[],_::_,_,k,_=>k.elim
 |_::_,[],_,k,_=>k.elim
theorem oF{h:Heap}:∀{vs:List Q3} {ps:List (Int×Int)},jQ h vs ps->∃fs,KatTups h vs fs/\fs.length=vs.length/\∀f∈fs,∃i t,f=Value.int i t
 |[],[],_=>⟨[],trivial,rfl,λf hf=>by cases hf⟩
 |v::vs,p::ps,k=>by
  let⟨fs,h1,h2,h3⟩:=oF k.2;let⟨b,o,t1,t2,e,hv,g,c,d⟩:=k.1;refine⟨Value.int p.1 t1::fs,⟨⟨b,o,_,e,hv,g,c,d,rfl⟩,h1⟩,by rw[QK,QK,h2],λf hf=>?_⟩;rcases Z8.mp hf with z|z;exact⟨_,_,z⟩;exact h3 f z
 |[],_::_,k=>k.elim
 |_::_,[],k=>k.elim
theorem xI{vs:List Q3}{ps:List (Int×Int)}{Q:SortKind->Q4->Prop}(h:jQ s.heap vs ps)(hn:0<vs.length)(q:Q (tuples' true) s):wpAny (ZQ prog w) A (keyKind' vs.toArray) Q E s:=by
 let⟨fs,h1,h2,h3⟩:=oF h;refine kat_kind (T:=Value.type "int") h1 ⋯ (λv hv A Q E s' _ q=>?_) ∅ (by exact q);let⟨i,t,rfl⟩:=h3 v hv;exact wpAny_typeOf (typeIs_int s' i t) q
end
theorem mS{prog:Z7}{w:ZR}{A:ZE}{E:Q3->Q4->Prop}{s:Q4}{a:Addr}{vs:List Q3}{n:Nat}{P:PySem.Fin->Q4->Prop}
  (g:s.heap.get? a=some (seqObj "list" vs.toArray n)) (h2:vs.length<2) (hP:P (Fin.done (Flow.ret Value.none)) { s with heap:=sortedHeap s.heap a vs vs.toArray }) :
  wpAny (ZQ prog w) A (Builtin.«list.sort» { pos:=[Value.ref a] }) P E s:=by
 rw[list_sort_plain];have hS:vs.toArray.size=vs.length:=by simp
 have hz:vs.length<=QU:=by unfold QU;omega
 refine Q2 (listItems_at g rfl (Q2 (listUpdate_at g rfl ?_ (by rw[hS];exact hz) nofun)));obtain⟨e1,g1⟩:∃e1,(s.heap.update a (YZ λ_=>#[])).get? a=some (seqObj "list" #[] e1):=⟨_,get?_update_seq g λ_=>#[]⟩;refine Q2 (seqEpoch_at g1 rfl (Q2 (wpAny_newTuple (Q2 (wpAny_newList (wpAny_holding ?_) nofun)) ‹hz›)));have g2:(((s.heap.update a (YZ λ_=>#[])).push (seqObj "tuple" vs.toArray 0)).push (seqObj "list" #[] 0)).get? a=some (seqObj "list" #[] e1):=
  Q5 _ (Q5 _ g1)
 have n2:vs.toArray.size<2:=by rw[hS];omega
 dsimp only;rw[XO n2];refine Q2 (QJ ?_);rw[XO n2];refine Q2 (QJ ?_);have hout:Array.map (λx=>x.snd) (arrOf (SortSt.mk' general' (vs.toArray.zip vs.toArray) #[] 7 none))=vs.toArray:=by
  show Array.map (λx=>x.snd) (vs.toArray.zip vs.toArray)=vs.toArray;simp[List.map_snd_zip]
 refine Q2 (seqEpoch_at g2 rfl (Q2 (listUpdate_at g2 rfl ?_ nofun ?_)));have Q_:failedOf (SortSt.mk' general' (vs.toArray.zip vs.toArray) #[] 7 none)=none:=rfl;dsimp only at Q_ ⊢;simp only[Q_,bne_self_eq_false,ZU,if_false];have hP':=hP;rw[<-hout]at hP';exact QJ hP';dsimp only;rw[hout];rw[hS];omega
theorem BP{ys:List V}{vs:List Q3}(r:bE ys vs){i:Nat}(hi:i<ys.length):bS (ys.getD i .non) (vs.getD i Value.none):=by
 induction r generalizing i with
 |nil=>simp at hi
 |cons r1 r2 ih=>
  cases i with
  |zero=>exact r1
  |succ i=>exact ih ‹hi›
theorem oV{ys:List V}{vs:List Q3}(r:bE ys vs):∀(is:List Nat),(∀i∈is,i<ys.length)->bE (is.map λi=>ys.getD i .non) (is.map λi=>vs.getD i Value.none)
 |[],_=>.nil
 |i::is,h=>.cons (BP r (h i QH)) (oV r is λj hj=>h j (QZ _ hj))
theorem iU{n:Nat}{q:Array Nat}(P:Pm n q):∀i∈q.toList,i<n:=λi hi=>by
 let⟨j,hj,e⟩:=Yb.mp hi;have hj':j<q.size:=by simpa using hj
 have:=P.bd j (by rw[<-P.sz];exact hj');rw[XJ,Zb hj']at this;rw[Array.getElem_toList]at e;rw[<-e];exact this
theorem vJ:∀as:List Addr,bE (as.map V.ref) (as.map Value.ref)
 |[]=>.nil
 |a::r=>.cons rfl (vJ r)
def ltR:List Int->List Int->Bool
 |[],[]=>false
 |[],_::_=>true
 |_::_,[]=>false
 |a::r,b::t=>if a=b then ltR r t else decide (a<b)
theorem pR:∀r:List Int,ltR r r=false
 |[]=>rfl
 |a::r=>by rw[ltR,XO rfl];exact pR r
theorem pS:∀{r t:List Int},ltR r t=true->ltR t r=false
 |[],[],h=>by cases h
 |[],_::_,_=>rfl
 |_::_,[],h=>by cases h
 |a::r,b::t,h=>by
  rw[ltR]at h ⊢;by_cases e:a=b;rw[XO e]at h;rw[XO e.symm];exact pS h;rw[XS e,decide_eq_true_eq]at h;rw[XS (Ne.symm e),decide_eq_false_iff_not];omega
theorem zX:∀{r t:List Int},r≠t->ltR r t=false->ltR t r=true
 |[],[],n,_=>absurd rfl n
 |[],_::_,_,h=>by cases h
 |_::_,[],_,_=>rfl
 |a::r,b::t,n,h=>by
  rw[ltR]at h ⊢;by_cases e:a=b;subst e;rw[XO rfl]at h ⊢;exact zX (λz=>n (by rw[z])) h;rw[XS e,decide_eq_false_iff_not]at h;rw[XS (Ne.symm e),decide_eq_true_eq];omega
theorem rL:∀{r t u:List Int},ltR r t=true->ltR t u=true->ltR r u=true
 |[],[],_,h,_=>by cases h
 |_::_,[],_,h,_=>by cases h
 |_,_::_,[],_,k=>by cases k
 |[],_::_,_::_,_,_=>rfl
 |a::r,b::t,c::u,h,k=>by
  rw[ltR]at h k ⊢;by_cases e:a=b;subst e;rw[XO rfl]at h;by_cases e2:a=c;rw[XO e2]at k ⊢;exact rL h k;rw[XS e2]at k ⊢;exact k;rw[XS e,decide_eq_true_eq]at h;by_cases e2:b=c;subst e2;rw[XS e,decide_eq_true_eq];exact h;rw[XS e2,decide_eq_true_eq]at k;have:a≠c:=by omega
  rw[XS this,decide_eq_true_eq];omega
def vj(h:Heap)(v:Q3)(ns:List Int):Prop:=∃b o its e,v=Value.ref b/\h.get? b=some o/\o.cls=Value.type "tuple"/\o.data=Data.seq its e/\bE (ns.map V.int) its.toList
section
variable{w:ZR}
theorem EJ{C:Bool->Q4->Prop}{fin:Bool}:∀{ns ms:List Int} {vs us:List Q3} {i:Nat},bE (ns.map V.int) vs->bE (ms.map V.int) us->fin=decide (ns.length<ms.length)->C (ltR ns ms) s->KatLex prog w A true fin C (vs.zip us) i s
 |[],ms,vs,us,i,r1,r2,e,c=>by
  cases r1;rw[List.zip_nil_left];refine kat_nil ?_;cases ms with
  |nil=>subst e;exact c
  |cons m ms=>subst e;exact c
 |n::ns,[],vs,us,i,r1,r2,e,c=>by
  cases r2;rw[List.zip_nil_right];refine kat_nil ?_;subst e;exact c
 |n::ns,m::ms,vs,us,i,r1,r2,e,c=>by
  cases r1 with
  |cons u1 t1=>
   cases r2 with
   |cons u2 t2=>
    let⟨k1,rfl⟩:=u1;let⟨k2,rfl⟩:=u2;rw[List.zip_cons_cons];refine kat_cons (wpAny_eqBool_int ?_);by_cases en:n=m;subst en;rw[beq_self_eq_true];rw[ltR,XO rfl]at c;exact kat_yes (EJ t1 t2 (by rw[e];simp) c);rw[beq_eq_false_iff_ne.mpr en];rw[ltR,XS en]at c;exact kat_no (kN c)
theorem JI{v v':Q3}{ns ms:List Int}{C:Bool->Q4->Prop}(h:vj s.heap v ns)(h':vj s.heap v' ms)(c:C (ltR ns ms) s):wpAny (ZQ prog w) A (keyLt' (tuples' true) v v') C E s:=by
 let⟨b,o,its,e,rfl,g,_,d,r⟩:=h;let⟨b',o',its',e',rfl,g',_,d',r'⟩:=h';refine kat_lt g d g' d' (EJ r r' ?_ c);have l1:its.size=ns.length:=by have:=r.length;rw[QX]at this;rw[this];exact ZY.symm
 have l2:its'.size=ms.length:=by have:=r'.length;rw[QX]at this;rw[this];exact ZY.symm
 rw[l1,l2]
def gb(h:Heap):List Q3->List (List Int)->Prop
 |[],[]=>True
 |v::vs,p::ps=>vj h v p/\gb h vs ps
 |_,_=>False
theorem ph{h:Heap}:∀{vs:List Q3} {ps:List (List Int)},gb h vs ps->vs.length=ps.length
 |[],[],_=>rfl
 |_::_,_::_,k=>by rw[QK,QK,ph k.2]
 |[],_::_,k=>k.elim
 |_::_,[],k=>k.elim
theorem pj{h:Heap}:∀{vs:List Q3} {ps:List (List Int)} {i:Nat},gb h vs ps->i<ps.length->vj h (vs.getD i Value.none) (ps.getD i [])
 |[],[],_,_,k=>absurd k (Nat.not_lt_zero _)
 |_::_,_::_,0,k,_=>k.1
 |_::vs,_::ps,i+1,k,l=>by
  show vj h (vs.getD i Value.none) (ps.getD i []);exact pj k.2 (by rw[QK]at l;omega)
 |[],_::_,_,k,_=>k.elim
 |_::_,[],_,k,_=>k.elim
theorem j9{h h':Heap}{a:Addr}(m:∀b o,b≠a->h.get? b=some o->h'.get? b=some o):∀{vs:List Q3} {ps:List (List Int)},gb h vs ps->(∀v∈vs,v≠.ref a)->gb h' vs ps
 |[],[],_,_=>trivial
 |v::vs,_::_,k,hv=>by
  refine⟨?_,j9 m k.2 λx hx=>hv x (QZ _ hx)⟩;let⟨b,o,its,e,rfl,g,c,d⟩:=k.1;exact⟨b,o,its,e,rfl,m b o (λe=>hv _ QH (by rw[e])) g,c,d⟩
 |[],_::_,k,_=>k.elim
 |_::_,[],k,_=>k.elim
theorem rb{h:Heap}:∀{vs:List Q3} {ps:List (List Int)},gb h vs ps->(∀p∈ps,p≠[])->∃fs,KatTups h vs fs/\fs.length=vs.length/\∀f∈fs,∃i t,f=Value.int i t
 |[],[],_,_=>⟨[],trivial,rfl,λf hf=>by cases hf⟩
 |v::vs,p::ps,k,ne=>by
  let⟨fs,h1,h2,h3⟩:=rb k.2 λq hq=>ne q (QZ _ hq);let⟨b,o,its,e,hv,g,c,d,r⟩:=k.1;cases p with
  |nil=>exact absurd rfl (ne [] QH)
  |cons n ns=>
   obtain⟨x,t,hx⟩:∃x t,its.toList=x::t:=by
    cases hl:its.toList with
    |nil=>rw[hl]at r;have:=r.length;simp at this
    |cons x t=>exact⟨x,t,rfl⟩
   have hi:∃i t',x=Value.int i t':=by
    rw[hx]at r;cases r with
    |cons u1 t1=>let⟨k1,rfl⟩:=u1;exact⟨_,_,rfl⟩
   refine⟨x::fs,⟨⟨b,o,its,e,hv,g,c,d,?_⟩,h1⟩,by rw[QK,QK,h2],λf hf=>?_⟩;rw[<-XG,hx];rfl;rcases Z8.mp hf with z|z;rw[z];exact hi;exact h3 f z
 |[],_::_,k,_=>k.elim
 |_::_,[],k,_=>k.elim
theorem ze{vs:List Q3}{ps:List (List Int)}{Q:SortKind->Q4->Prop}(h:gb s.heap vs ps)(ne:∀p∈ps,p≠[])(hn:0<vs.length)(q:Q (tuples' true) s):wpAny (ZQ prog w) A (keyKind' vs.toArray) Q E s:=by
 let⟨fs,h1,h2,h3⟩:=rb h ne;refine kat_kind (T:=Value.type "int") h1 ⋯ (λv hv A Q E s' _ q=>?_) ∅ (by exact q);let⟨i,t,rfl⟩:=h3 v hv;exact wpAny_typeOf (typeIs_int s' i t) q
theorem kb{h:Heap}:∀{vs:List Q3} {ps:List (List Int)},gb h vs ps->∀v∈vs,∀a,h.objs.size<=a->v≠.ref a
 |[],[],_,v,hv,_,_=>by cases hv
 |_::_,_::_,k,v,hv,a,ha=>by
  rcases Z8.mp hv with z|z;let⟨b,o,its,e,e1,g,_⟩:=k.1;rw[z,e1];intro e2;cases e2;exact absurd (QY g) (Nat.not_lt.mpr ha);exact kb k.2 v z a ha
 |[],_::_,k,_,_,_,_=>k.elim
 |_::_,[],k,_,_,_,_=>k.elim
end
theorem KQ{ps:List (List Int)}(nd:ps.Nodup):Bt ps.length λi j=>ltR (ps.getD i []) (ps.getD j []) where
 tr:=λ{i j k} hi hj hk h1 h2=>rL h1 h2
 asym:=λ{i j} hi hj h=>pS h
 tot:=λ{i j} hi hj hne h=>by
  refine zX (λe=>hne ?_) h;rw[ZV,ZV,Q7 hi,Q7 hj]at e;simp only[Option.getD_some]at e;exact(List.getElem_inj nd).mp e
def LX(ps:List (List Int))(q:Array Nat):Prop:=Pm ps.length q/\Asc (λi j=>ltR (ps.getD i []) (ps.getD j [])) q ps.length
theorem jx{prog:Z7}{w:ZR}{A:ZE}{E:Q3->Q4->Prop}{s:Q4}{a:Addr}{vs:List Q3}{ps:List (List Int)}{n:Nat}{P:PySem.Fin->Q4->Prop}
  (g:s.heap.get? a=some (seqObj "list" vs.toArray n)) (hp:gb s.heap vs ps) (hv:∀v∈vs,v≠.ref a) (ne:∀p∈ps,p≠[]) (nd:ps.Nodup) (h64:ps.length<64)
  (k:∀q:Array Nat,LX ps q->P (Fin.done (Flow.ret Value.none)) { s with heap:=sortedHeap s.heap a vs (q.toList.map λi=>vs.getD i Value.none).toArray }) :
  wpAny (ZQ prog w) A (Builtin.«list.sort» { pos:=[Value.ref a] }) P E s:=by
 have hl:=ph hp;by_cases h2:vs.length<2;have hr:((ZO ps.length).toArray.toList.map λi=>vs.getD i Value.none)=vs:=by
  rw[<-hl];refine YT λi=>?_;by_cases hi:i<vs.length;simp[List.getElem?_range hi,Q7 hi];simp[XB (Nat.le_of_not_lt hi),hi]
 have:=k (ZO ps.length).toArray ⟨pK,λi j hij hj=>by omega⟩;rw[hr]at this;exact mS g h2 this;refine pV g ⋯ ⋯ λh' m=>?_;have hp':gb ({ s with heap:=h' }:Q4).heap vs ps:=j9 m hp hv;refine ze hp' ne ⋯ ⟨rfl,?_⟩;have hl':vs.length=ps.length:=hl;rw[hl'];refine Gb (KQ nd) (λi j C hi hj c=>?_) ⋯ λq P1 P2=>⟨rfl,k q ⟨P1,P2⟩⟩;exact JI (pj hp' hi) (pj hp' hj) c
theorem uf{prog:Z7}{w:ZR}{A:ZE}{E:Q3->Q4->Prop}{s:Q4}{l:Addr}{vs:List Q3}{ps:List (List Int)}{Q:Q3->Q4->Prop}
  (hL:s.heap.IsList l vs.toArray) (hp:gb s.heap vs ps) (ne:∀p∈ps,p≠[]) (nd:ps.Nodup) (h64:ps.length<64)
  (k:∀q:Array Nat,LX ps q->Q (Value.ref (s.heap.objs.size+1)) { s with heap:=sortedAll s.heap vs (q.toList.map λi=>vs.getD i Value.none).toArray }) :
  wpAny (ZQ prog w) A (call (Value.builtin "sorted") [Value.ref l]) Q E s:=by
 have hl:=ph hp;have hz:vs.length<=QU:=by unfold QU;omega
 refine Calls.call_function_entry kind_sorted plain_sorted entry_sorted (args_sorted1 _) ?_;unfold Builtin.«sorted»;refine Q2 (m:=checkCount "sorted" 1 1 _) (QJ (Q2 (collect_list hL (Q2 (wpAny_newList ?_ hz)) hz)));have hsz:((s.heap.push (seqObj "list" #[] 0)).update s.heap.objs.size (YZ λx=>x++vs.toArray)).objs.size=s.heap.objs.size+1:=by
  rw[Heap.size_update,size_push']
 have gL:(((s.heap.push (seqObj "list" #[] 0)).update s.heap.objs.size (YZ λx=>x++vs.toArray)).push (seqObj "list" vs.toArray 0)).get? (s.heap.objs.size+1)=some (seqObj "list" vs.toArray 0):=by
  rw[<-hsz];exact Z0 _ rfl
 have old:∀b o,s.heap.get? b=some o->(((s.heap.push (seqObj "list" #[] 0)).update s.heap.objs.size (YZ λx=>x++vs.toArray)).push (seqObj "list" vs.toArray 0)).get? b=some o:=λb o g=>by
  refine Q5 _ ?_;rw[Heap.get?_update_ne _ _ _ _ (ZZ (QY g))];exact Q5 _ g
 show wpAny _ _ _ _ _ { s with heap:=((s.heap.push (seqObj "list" #[] 0)).update s.heap.objs.size (YZ λx=>x++vs.toArray)).push (seqObj "list" vs.toArray 0) };rw[show Value.ref ((s.heap.push (seqObj "list" #[] 0)).update s.heap.objs.size (YZ λx=>x++vs.toArray)).objs.size=Value.ref (s.heap.objs.size+1)from by rw[hsz]];refine Q2 (wpAny_holding (wpAny_call_entry slot_list_sort ⟨_,gL,rfl⟩ entry_list_sort (jx (n:=0) gL (j9 (a:=s.heap.objs.size+1) (λb o _ g=>old b o g) hp λv hv=>kb hp v hv _ ⋯) (λv hv=>kb hp v hv _ ⋯) ne nd h64 λq hq=>⟨_,rfl,?_⟩) (args_list_sort _)));exact QJ ⟨_,rfl,k q hq⟩
def RwL(K:Q1)(H:Hp):List V->List (List Int)->Prop
 |[],[]=>True
 |x::xs,p::ps=>(∃a,x=.ref a/\SqT K H a (p.map V.int))/\RwL K H xs ps
 |_,_=>False
theorem za{K:Q1}{H:Hp}:∀{ys:List V} {ps:List (List Int)},RwL K H ys ps->ys.length=ps.length
 |[],[],_=>rfl
 |_::_,_::_,k=>by rw[QK,QK,za k.2]
 |[],_::_,k=>k.elim
 |_::_,[],k=>k.elim
theorem Ew{X:Cx}{b_:List (Addr×Obj)}{σ:L2.St}{H:Hp}{s:Q4}(I:Inv X b_ σ H s):∀{ys:List V} {ps:List (List Int)} {vs:List Q3},RwL X.K H ys ps->bE ys vs->gb s.heap vs ps
 |[],[],_,_,r=>by cases r;trivial
 |_::_,p::ps,_,k,r=>by
  cases r with
  |cons r1 r2=>
   refine⟨?_,Ew I k.2 r2⟩;let⟨a,rfl,hs⟩:=k.1;let⟨its,rv,⟨o,g,c,n,d⟩,_⟩:=I.tuple hs;cases r1;exact⟨a,o,_,n,rfl,g,c,d,by simpa using rv⟩
 |[],_::_,_,k,_=>k.elim
 |_::_,[],_,k,_=>k.elim
def pD(K:Q1):List V->Hp->VK->Prop:=λxs H Q=>∃(p:Addr) (ys:List V) (ps:List (List Int)),xs=[.ref p]/\SqL K H p ys/\RwL K H ys ps/\(∀p∈ps,p≠[])/\ps.Nodup/\ps.length<64/\
 ∀(l:Addr) (q:Array Nat),H l=none->LX ps q->Q (.ref l) (upd H l (.lst (q.toList.map λi=>ys.getD i .non)))
theorem zN{X:Cx}:ft X (.builtin "sorted") (pD X.K):=by
 rintro b_ s σ H xs us Q I r ⟨p,ys,ps,rfl,hL,hp,ne,nd,h64,q⟩;let⟨u,rfl,ru⟩:=lL r;cases ru;let⟨its,rv,pl,hz⟩:=I.list hL;have p_:=za hp;refine uf pl.isList (Ew I hp rv) ne nd h64 λqa a1=>?_;let⟨e,ge⟩:=sortedAll_at s.heap its (qa.toList.map λi=>its.getD i Value.none).toArray;have hf:=I.hok.fresh (Nat.le_succ s.heap.objs.size);have hq:qa.toList.length=ps.length:=by rw[ZY,a1.1.sz]
 refine⟨.ref (s.heap.objs.size+1),_,I.laid (o:=.lst (qa.toList.map λi=>ys.getD i .non)) (t':=s.toks) (λb o e=>sortedAll_old e) (Nat.le_succ _) ⟨by rw[QX,hq];unfold QU;omega,_,e,oV rv qa.toList (by rw[p_];exact iU a1.1),ge⟩,rfl,q _ qa hf a1⟩
theorem Gj{prog:Z7}{w:ZR}{d:Addr}{o:Obj}{es:Array DictEntry}{ep:Nat}(hd:(d == sysModules)=false)(hc:o.ExactDict)(he:o.data=.dict es ep) :
  KdlSrc prog w "dict" d d es.size (λi v=>∃h:i<es.size,v=es[i].key) (λh=>h.get? d=some o) where
 type:=λs g=>⟨o,g,hc.1⟩
 there:=λh g=>⟨QY g,QY g⟩
 keep:=λh h' g m=>m d (.inl rfl) o g
 notList:=by decide
 notTuple:=by decide
 hint:=λA E s Q g q=>kdl_hint_dict ⟨o,g,hc.1⟩ q
 iter:=λA s hh g=>by
  refine⟨_,λi h=>h.IsKeyIter s.heap.objs.size d i es.size ep/\h.get? d=some o,λE Q q=>B1 hd g hc he q,?_,⟨⟨_,Z0 _ rfl,rfl,rfl⟩,Q5 _ g⟩⟩;refine⟨λb hb=>by simp at hb;simp[hb],λi h h' st m=>?_,λi s' Q E hi st k=>?_,λs' Q E st k=>?_,λi s' Q E st q=>?_⟩;let⟨⟨o1,g1,c1,d1⟩,g2⟩:=st;exact⟨⟨o1,m _ nofun o1 g1,c1,d1⟩,m _ nofun o g2⟩;refine B2 st.1 st.2 he hi λh' it' sb=>k _ h' _ ⟨hi,rfl⟩ ⟨it',?_⟩ λb o' hb g'=>?_;have:d≠s.heap.objs.size:=ZZ (QY g);rw[sb.2 d this];exact st.2;rw[sb.2 b ‹hb›];exact g';exact Gk hh st.1 st.2 he (QQ _) λh' eb=>k h' _ λb o' hb g'=>eb b o' ‹hb› g';exact wpAny_pyIter_keyiter st.1 q
def pC:List V->Hp->VK->Prop:=λxs H Q=>∃(d:Addr) (kvs:List (List Key×V)) (ps:List (List Int)),xs=[.ref d]/\H d=some (.dT kvs)/\kvs.map (·.1)=ps.map (λp=>p.map Sum.inl)/\(∀p∈ps,p≠[])/\ps.Nodup/\ps.length<64/\
 ∀(as:List Addr) (l:Addr) (q:Array Nat),H l=none->as.length=ps.length->(∀(i:Nat) (a:Addr) (p:List Int),as[i]?=some a->ps[i]?=some p->H a=some (.tup (p.map V.int)))->LX ps q->
  Q (.ref l) (upd H l (.lst (q.toList.map λi=>.ref (as.getD i 0))))
theorem KS{H:Hp}:∀{kvs:List (List Key×V)} {xs:List (List Key×Addr×Q3)} {ps:List (List Int)},KT H kvs xs->kvs.map (·.1)=ps.map (λp=>p.map Sum.inl)->∀(i:Nat) (a:Addr) (p:List Int),(xs.map λx=>x.2.1)[i]?=some a->ps[i]?=some p->H a=some (.tup (p.map V.int))
 |_,_,ps,.nil,_,i,a,p,h,_=>by simp at h
 |(k,v)::kvs,(k',b,u)::xs,[],.cons r t,e,i,a,p,_,hp=>by simp at hp
 |(k,v)::kvs,(k',b,u)::xs,p0::ps,.cons r t,e,i,a,p,h,hp=>by
  simp only[QL,List.cons.injEq]at e;let⟨e1,e2⟩:=e;cases i with
  |zero=>
   simp at h hp;subst h;subst hp;let⟨r1,r2,r3⟩:=r;dsimp only at r1 r2;rw[r2,e1,ZD];rfl
  |succ i=>
   simp only[QL,X8]at h hp;exact KS t e2 i a p h hp
theorem zd{h:Heap}:∀{as:List Addr} {ps:List (List Int)},as.length=ps.length->(∀(i:Nat) (a:Addr) (p:List Int),as[i]?=some a->ps[i]?=some p->vj h (.ref a) p)->gb h (as.map Value.ref) ps
 |[],[],_,_=>trivial
 |a::as,p::ps,l,k=>⟨k 0 a p rfl rfl,zd ‹l› λi a p h1 h2=>k (i+1) a p ‹h1› ‹h2›⟩
 |[],_::_,l,_=>by simp at l
 |_::_,[],l,_=>by simp at l
theorem zM{X:Cx}(hc:X.calm=true):ft X (.builtin "sorted") pC:=by
 rintro b_ s σ H xs us Q I r ⟨d,kvs,ps,rfl,hD,hk,ne,nd,h64,q⟩;let⟨u,rfl,ru⟩:=lL r;cases ru;let⟨z,hd,ks,rel,o,es,ep,h1,h2,h3,h4,h5⟩:=sH I.hok (.inl hD);have lkv:kvs.length=ps.length:=by have:=congrArg List.length hk;simpa using this
 have lks:ks.length=ps.length:=by rw[<-Paired.length rel];exact lkv
 have les:es.size=ps.length:=by rw[<-lks,<-ZY,h4,QX]
 obtain⟨as,has⟩:∃as,as=ks.map λx=>x.2.1:=⟨_,rfl⟩;have las:as.length=ps.length:=by rw[has,QX,lks]
 have hH:∀(i:Nat) (a:Addr) (p:List Int),as[i]?=some a->ps[i]?=some p->H a=some (.tup (p.map V.int)):=by rw[has];exact KS rel hk
 refine Calls.call_function_entry kind_sorted plain_sorted entry_sorted (args_sorted1 _) ?_;unfold Builtin.«sorted»;refine Q2 (m:=checkCount "sorted" 1 1 _) (QJ (Q2 (kdu_collect (Gj hd h2 h3) (show X.A.in1.handled=none from I.ok.hd hc) h1 (by rw[les];unfold QU;omega) λh' tk acc up hac=>?_)));have hacc:acc.toList=as.map Value.ref:=by
  refine YT λi=>?_;by_cases hi:i<es.size;have hi':i<acc.size:=by rw[hac.1];exact hi
  let⟨_,e2⟩:=hac.2 i acc[i] (Zb hi');have e3:acc.toList[i]?=some acc[i]:=by rw[XG,Zb hi']
  have hk2:i<ks.length:=by rw[lks,<-les];exact hi
  have e4:es.toList[i]?=some (entryOfKey (tupleKind (bp X.prog X.w)) ks[i]):=by rw[h4,ZH,Q7 hk2];rfl
  rw[XG,Zb hi]at e4;rw[e3,e2,Yc e4,has,ZD,ZH,Q7 hk2];rfl;rw[XB (by rw[ZY,hac.1];omega),XB (by rw[QX,las,<-les];omega)]
 have hrow:∀(i:Nat) (a:Addr) (p:List Int),as[i]?=some a->ps[i]?=some p->vj h' (.ref a) p:=λi a p ha hp=>by
  let⟨_,its,r,o1,g1,c1,n1,d1⟩:=(show cU X.prog X.w H s.heap a (.tup (p.map V.int))from I.hok a _ (hH i a p ha hp));exact⟨a,o1,_,n1,rfl,up a o1 g1,c1.1,d1,by simpa using r⟩
 have hrows:gb h' (as.map Value.ref) ps:=zd las hrow;rw[hacc];refine Q2 (wpAny_newList ?_ (by rw[QX,las];unfold QU;omega));have gL:(h'.push { cls:=.type "list",data:=.seq (as.map Value.ref).toArray }).get? h'.objs.size=some (seqObj "list" (as.map Value.ref).toArray 0):=Z0 _ rfl;have hv':∀v∈as.map Value.ref,v≠.ref h'.objs.size:=λv hv=>kb hrows v hv _ (QQ _);refine Q2 (wpAny_holding (wpAny_call_entry slot_list_sort ⟨_,gL,rfl⟩ entry_list_sort (jx (s:={ s with heap:=h'.push { cls:=.type "list",data:=.seq (as.map Value.ref).toArray },toks:=tk }) gL (j9 (a:=h'.objs.size) (λb o _ g=>Q5 _ g) hrows hv') hv' ne nd h64 λqa a1=>⟨_,rfl,?_⟩) (args_list_sort _)));let⟨e,ge⟩:=sortedHeap_at (out:=(qa.toList.map λi=>(as.map Value.ref).getD i Value.none).toArray) gL;have I2:Inv X b_ σ H { s with heap:=h',toks:=tk }:=I.kept (t':=tk) up;have old:∀b o,h'.get? b=some o->(sortedHeap (h'.push { cls:=.type "list",data:=.seq (as.map Value.ref).toArray }) h'.objs.size (as.map Value.ref) (qa.toList.map λi=>(as.map Value.ref).getD i Value.none).toArray).get? b=some o:=λb o g1=>by
  have lt1:=QY g1;rw[sortedHeap_old (ZZ lt1) (by rw[XN];exact Nat.lt_succ_of_lt lt1)];exact Q5 _ g1
 have hq:qa.toList.length=ps.length:=by rw[ZY,a1.1.sz]
 have rv:=vJ as;have gd:∀i,i<as.length->(as.map V.ref).getD i .non=.ref (as.getD i 0):=λi hi=>by
  simp[ZV,Q7 hi]
 have el:(qa.toList.map λi=>(as.map V.ref).getD i .non)=qa.toList.map λi=>V.ref (as.getD i 0):=Ze λi hi=>gd i (by rw[las];exact iU a1.1 i hi);refine QJ ⟨_,rfl,.ref h'.objs.size,_,Inv.laid (s:={ s with heap:=h',toks:=tk }) (o:=.lst (qa.toList.map λi=>.ref (as.getD i 0))) (t':=tk) I2 old (QQ _) ⟨by rw[QX,hq];unfold QU;omega,_,e,?_,ge⟩,rfl,q as _ qa (I2.hok.fresh (QQ _)) las hH a1⟩;rw[<-el];exact oV rv qa.toList (by rw[QX,las];exact iU a1.1)
open Classical in
def kH(ps:List (List Int)):List (List Int):=if h:∃L:List (List Int),L.Pairwise (λa b=>ltR a b=true)/\∀x,x∈L↔x∈ps then h.choose else[]
theorem sY:∀{L M:List (List Int)},L.Pairwise (λa b=>ltR a b=true)->M.Pairwise (λa b=>ltR a b=true)->(∀x,x∈L↔x∈M)->L=M
 |[],[],_,_,_=>rfl
 |[],m::M,_,_,h=>by have:=(h m).mpr QH;cases this
 |l::L,[],_,_,h=>by have:=(h l).mp QH;cases this
 |l::L,m::M,h1,h2,h=>by
  let⟨a1,b1⟩:=List.pairwise_cons.mp h1;let⟨a2,b2⟩:=List.pairwise_cons.mp h2;have e:l=m:=by
   rcases Z8.mp ((h l).mp QH)with z|z;exact z;rcases Z8.mp ((h m).mpr QH)with y|y;exact y.symm;have p1:=a2 l z;rw[pS (a1 m y)]at p1;cases p1
  subst e;congr 1;refine sY b1 b2 λx=>⟨λhx=>?_,λhx=>?_⟩;rcases Z8.mp ((h x).mp (QZ _ hx))with z|z;subst z;have:=a1 x hx;rw[pR]at this;cases this
  exact z;rcases Z8.mp ((h x).mpr (QZ _ hx))with z|z;subst z;have:=a2 x hx;rw[pR]at this;cases this
  exact z
theorem vV{L ps:List (List Int)}(h1:L.Pairwise (λa b=>ltR a b=true))(h2:∀x,x∈L↔x∈ps):kH ps=L:=by
 have h:∃L:List (List Int),L.Pairwise (λa b=>ltR a b=true)/\∀x,x∈L↔x∈ps:=⟨L,h1,h2⟩;unfold kH;rw[dif_pos h];let⟨k1,k2⟩:=h.choose_spec;exact sY k1 h1 λx=>(k2 x).trans (h2 x).symm
theorem sZ{ps:List (List Int)}{q:Array Nat}(h:LX ps q):kH ps=q.toList.map λi=>ps.getD i []:=by
 let⟨P,A⟩:=h;have hl:q.toList.length=ps.length:=by rw[ZY,P.sz]
 have gd:∀i (hi:i<q.toList.length),q.getD i 0=q.toList[i]:=λi hi=>by
  have hi':i<q.size:=by simpa using hi
  rw[XJ,Zb hi',Array.getElem_toList];rfl
 have h1:(q.toList.map λi=>ps.getD i []).Pairwise (λa b=>ltR a b=true):=by
  rw[List.pairwise_iff_getElem];intro i j hi hj hij;rw[QX]at hi hj;rw[List.getElem_map,List.getElem_map,<-gd i hi,<-gd j hj];exact A i j hij ⋯
 have nd:(q.toList.map λi=>ps.getD i []).Nodup:=h1.imp λ{a b} h e=>by subst e;rw[pR]at h;cases h
 have sub:∀x∈q.toList.map λi=>ps.getD i [],x∈ps:=λx hx=>by
  let⟨i,hi,rfl⟩:=ZT.mp hx;have:=iU P i hi;rw[ZV,Q7 this];exact YV this
 refine vV h1 λx=>⟨sub x,λhx=>?_⟩;refine Classical.byContradiction λhn=>?_;have:=List.Nodup.length_le_of_subset (XQ.mpr ⟨hn,nd⟩) (l₂:=ps) λy hy=>by
  rcases Z8.mp hy with z|z;rw[z];exact hx;exact sub y z
 rw[QK,QX,hl]at this;omega
def rwU(p:List Int):U:=.tup (p.map U.int)
def ug:List U->Option (List (List Int))
 |[]=>some []
 |.tup us::r=>(uF us).bind λp=>(ug r).map (p::·)
 |_=>none
theorem rg:∀ps:List (List Int),ug (ps.map rwU)=some ps
 |[]=>rfl
 |p::ps=>by rw[QL,rwU,ug,rS,Q9,rg ps];rfl
theorem vX:∀{us:List U} {ps:List (List Int)},ug us=some ps->us=ps.map rwU
 |[],ps,h=>by cases h;rfl
 |u::us,ps,h=>by
  cases u with
  |tup ws=>
   rw[ug]at h;let⟨p,e1,h⟩:=Q0.mp h;let⟨qs,e2,h⟩:=Zq.mp h;subst h;rw[QL,<-vX e2,p6 e1];rfl
  |_=>cases h
def Dk:List Key->Option (List Int)
 |[]=>some []
 |.inl i::r=>(Dk r).map (i::·)
 |_=>none
theorem wO:∀{ks:List Key} {ns:List Int},Dk ks=some ns->ks=ns.map Sum.inl
 |[],ns,h=>by cases h;rfl
 |.inl i::r,ns,h=>by
  rw[Dk]at h;let⟨qs,e2,h⟩:=Zq.mp h;subst h;rw[QL,<-wO e2]
 |.inr x::r,ns,h=>by cases h
def B0:List (List Key×U)->Option (List (List Int))
 |[]=>some []
 |(ks,_)::r=>(Dk ks).bind λp=>(B0 r).map (p::·)
theorem vY:∀{kus:List (List Key×U)} {ps:List (List Int)},B0 kus=some ps->kus.map (·.1)=ps.map λp=>p.map Sum.inl
 |[],ps,h=>by cases h;rfl
 |(ks,u)::us,ps,h=>by
  rw[B0]at h;let⟨p,e1,h⟩:=Q0.mp h;let⟨qs,e2,h⟩:=Zq.mp h;subst h;rw[QL,QL,<-vY e2,wO e1]
open Classical in
def jm:Fn
 |[.ref l],S=>match S[l]? with
  |some (.lst us)=>(ug us).bind λps=>if (∀p∈ps,p≠[])/\ps.Nodup/\ps.length<64 then some (.ref S.length,S++[.lst ((kH ps).map rwU)])else none
  |some (.dit kus)=>(B0 kus).bind λps=>if (∀p∈ps,p≠[])/\ps.Nodup/\ps.length<64 then some (.ref S.length,S++[.lst ((kH ps).map rwU)])else none
  |_=>none
 |_,_=>none
variable{K:Q1}
section
variable{m:List Addr}{H:Hp}
theorem Eu:∀{ys:List V} {ps:List (List Int)},IsL K m H ys (ps.map rwU)->RwL K H ys ps
 |ys,[],h=>by rw[h.of_nil];trivial
 |ys,p::ps,h=>by
  let⟨y,r,rfl,i,t⟩:=h.of_cons;let⟨a,xs,rfl,hs,il⟩:=i.of_tup;have e:xs=p.map V.int:=IsL.ints il;subst e;exact⟨⟨a,rfl,hs⟩,Eu t⟩
theorem zb:∀{ys:List V} {ps:List (List Int)} {i:Nat},RwL K H ys ps->i<ps.length->Is K m H (ys.getD i .non) (rwU (ps.getD i []))
 |[],[],i,_,h=>by simp at h
 |y::ys,p::ps,0,k,_=>by
  let⟨a,e,hs⟩:=k.1;show Is K m H y (rwU p);rw[e];exact .tup_ hs (jl p)
 |y::ys,p::ps,i+1,k,h=>by
  show Is K m H (ys.getD i .non) (rwU (ps.getD i []));exact zb k.2 ‹h›
 |[],_::_,_,k,_=>k.elim
 |_::_,[],_,k,_=>k.elim
theorem yZ{ys:List V}{ps:List (List Int)}(k:RwL K H ys ps):∀is:List Nat,(∀i∈is,i<ps.length)->IsL K m H (is.map λi=>ys.getD i .non) (is.map λi=>rwU (ps.getD i []))
 |[],_=>.nil_
 |i::is,h=>.cons_ (zb k (h i QH)) (yZ k is λj hj=>h j (QZ _ hj))
theorem Bc{as:List Addr}{ps:List (List Int)}(la:as.length=ps.length)(hH:∀(i:Nat) (a:Addr) (p:List Int),as[i]?=some a->ps[i]?=some p->H a=some (.tup (p.map V.int))):∀is:List Nat,(∀i∈is,i<ps.length)->IsL K m H (is.map λi=>V.ref (as.getD i 0)) (is.map λi=>rwU (ps.getD i []))
 |[],_=>.nil_
 |i::is,h=>by
  have hi:=h i QH;have hi':i<as.length:=by rw[la];exact hi
  refine .cons_ ?_ (Bc la hH is λj hj=>h j (QZ _ hj));have e1:as.getD i 0=as[i]:=by rw[ZV,Q7 hi'];rfl
  have e2:ps.getD i []=ps[i]:=by rw[ZV,Q7 hi];rfl
  show Is K m H (V.ref (as.getD i 0)) (rwU (ps.getD i []));rw[e1,e2];exact .tup_ (SqT.of (hH i _ _ (Q7 hi') (Q7 hi))) (jl _)
end
def xM{X:Cx}(hc:X.calm=true):ft X (.builtin "sorted") (λxs H Q=>pD X.K xs H Q\/pC xs H Q):=zN.or (zM hc)
theorem zD{K:Q1}:lV K (λxs H Q=>pD K xs H Q\/pC xs H Q) jm:=by
 intro m S H us vs u S' Q sr i hf post;match us,hf with
 |[.ref l],hf=>
  let⟨v,rfl,iv⟩:=i.one;let⟨a,ha,rfl⟩:=iv.of_ref;simp only[jm]at hf;split at hf<;>try cases hf
  ·rename_i ws hS;let⟨ps,hn,h⟩:=Q0.mp hf;split at h<;>try cases h
   have hc:(∀p∈ps,p≠[])/\ps.Nodup/\ps.length<64:=by assumption
   let⟨a',ha',xs,hx,la⟩:=sr.get hS;rw[ha]at ha';cases ha';rw[vX hn]at la;have pr:=Eu la;refine .inl ⟨a,xs,ps,rfl,SqL.of hx,pr,hc.1,hc.2.1,hc.2.2,λp q hp aq=>?_⟩;have il:=yZ (m:=m) pr q.toList (iU aq.1);have e:(q.toList.map λi=>rwU (ps.getD i []))=(kH ps).map rwU:=by rw[sZ aq,ZD];rfl
   rw[e]at il;exact dC sr il post hp
  ·rename_i ws hS;let⟨ps,hn,h⟩:=Q0.mp hf;split at h<;>try cases h
   have hc:(∀p∈ps,p≠[])/\ps.Nodup/\ps.length<64:=by assumption
   let⟨a',ha',kvs,hx,ip⟩:=sr.get hS;rw[ha]at ha';cases ha';refine .inr ⟨a,kvs,ps,rfl,hx,ip.1.trans (vY hn),hc.1,hc.2.1,hc.2.2,λas p q hp las hH aq=>?_⟩;have il:=Bc (m:=m) (K:=K) las hH q.toList (iU aq.1);have e:(q.toList.map λi=>rwU (ps.getD i []))=(kH ps).map rwU:=by rw[sZ aq,ZD];rfl
   rw[e]at il;exact dC sr il post hp
def MX{ns:List Int}{i:Int}{S:Sto}:fIx (.kl ns) (.int i) S=(atI (ns.map U.int) i).bind λu=>some (u,S):=rfl
def Eh{ns:List Int}{S:Sto}:sF [.kl ns] S=some (.int ns.length,S):=rfl
section
variable{X:Cx}
def iB{κ α:Type}[DecidableEq κ](kus:List (κ×α))(k:κ):List (κ×α):=kus.filter λp=>decide (p.1≠k)
theorem IsP.dropP{m:List Addr}{H:Hp}{kvs:List (Key×V)}{kus:List (Key×U)}{k:Key}(h:IsP K m H kvs kus):IsP K m H (qq kvs k) (iB kus k):=by
 refine IsP.ind (P:=λkvs kus=>IsP K m H (qq kvs k) (iB kus k)) .nil_ (λk' v u kvs kus i _ ih=>?_) h;unfold qq iB at ih ⊢;by_cases e:k'=k;rw[List.filter_cons_of_neg (by simp[e]),List.filter_cons_of_neg (by simp[e])];exact ih;rw[List.filter_cons_of_pos (by simp[e]),List.filter_cons_of_pos (by simp[e])];exact .cons_ i ih
def HA:U->U->Sto->Option (U×Sto):=λx y S=>match x with
 |.ref l=>match S[l]? with
  |some (.dic kus)=>(lJ y).bind λk=>(aZ kus k).bind λu=>some (u,S.set l (.dic (iB kus k)))
  |_=>none
 |_=>none
def A3(co ck:CE):CE:=λρ S=>(co ρ S).bind λp=>match p.1 with
 |.ref l=>match p.2[l]? with
  |some (.dic _)=>(ck ρ p.2).bind λq=>HA p.1 q.1 q.2
  |_=>none
 |_=>none
theorem JS{o e:QF}{co ck:CE}{i_ j_:Pos}(ho:QE X o co)(he:QE X e ck)(m1:M1 X o "pop" i_ e j_):QE X (.Call (.Attribute o "pop" i_) [e] [] j_) (A3 co ck):=
 (yK ho he m1).imp λσ H Q hz=>kY hz λm ρ S u S' sr lr hc post=>by
 let⟨⟨x,S1⟩,h1,h⟩:=Q0.mp hc;refine⟨m,ρ,S,_,S1,sr,lr,h1,λm1 v1 H1 e1 sr1 i1=>?_⟩;cases x with
 |ref l=>
  simp only at h;split at h<;>try cases h
  rename_i kus0 hS0;let⟨⟨y,S2⟩,h3,h4⟩:=Q0.mp h;let⟨a,ha,rfl⟩:=i1.of_ref;let⟨a0,ha0,kvs0,hx0,ip0⟩:=sr1.get hS0;rw[ha]at ha0;cases ha0;refine⟨a,rfl,.inl ⟨kvs0,.inl hx0⟩,m1,ρ,S1,_,S2,sr1,lr.mono e1,h3,λm2 v2 H2 e2 sr2 i2=>?_⟩;simp only[HA]at h4;split at h4<;>try cases h4
  rename_i kus hS;let⟨k,hk,h5⟩:=Q0.mp h4;let⟨w,hw,h6⟩:=Q0.mp h5;cases h6;let⟨a',ha',kvs,hx,ip⟩:=sr2.get hS;rw[e2.get ha]at ha';cases ha';have ek:=iW i2 hk;have rf:=IsP.val (k:=k) ip;rw[hw]at rf;cases hv:jr kvs k with
  |none=>rw[hv]at rf;exact rf.elim
  |some z=>
   rw[hv]at rf;have ee:Ext X.K m2 H2 m2 (upd H2 a (.dK (qq kvs k))):=.of (sr2.keep (e2.get ha) _);exact⟨kvs,k,z,hx,ek,hv,post m2 _ _ ((e1.trans e2).trans ee) (sr2.put (e2.get ha) ⟨_,aF,ip.dropP.mono ee⟩) (Is.mono ee rf)⟩
 |_=>cases h
def Po:R2:=λx y H Q=>∃(a b:Addr) (kvs:List (Key×V)),x=.ref a/\y=.ref b/\H a=some (.dK kvs)/\H b=some (.dK [])/\Q (.bl (decide (kvs.length=0))) H
theorem KA(hu:X.A.units+64<cLine):OpR X (compareOp .Eq) Po:=by
 rintro b_ s σ H x y v u Q I rx ry ⟨a,b,kvs,rfl,rfl,ha,hb,q⟩;cases rx;cases ry;let⟨z,hd,vs,rel,dd⟩:=qt I.hok ha;let⟨z',hd',vs',rel',dd'⟩:=qt I.hok hb;have lv:vs.length=kvs.length:=(Paired.length rel).symm;have lv':vs'.length=0:=(Paired.length rel').symm;have ev:vs'=[]:=Zp.mp lv';subst ev;refine keq_eq (r:=true) hd hd' dd dd' ⋯ (λe=>?_) ⟨.bl _,H,I,rfl,?_⟩;have:vs=[]:=Zp.mp e;subst this;exact .nil;have e:(vs.length == ([]:List (Key×Q3)).length&&true)=decide (kvs.length=0):=by
  rw[Bool.and_true,lv,XF,Zf];simp
 rw[e];exact q
def Lm:U->U->Sto->Option (U×Sto)
 |.ref l,.ref k,S=>match S[l]?,S[k]? with
  |some (.dic kus),some (.dic [])=>some (.bl (decide (kus.length=0)),S)
  |_,_=>none
 |_,_,_=>none
theorem Of:OpP K Po Lm:=by
 intro m S H x y v w u S' Q sr ix iy hf post;cases x with
 |ref l=>
  cases y with
  |ref k=>
   simp only[Lm]at hf;split at hf<;>try cases hf
   rename_i kus h1 h2;let⟨a,ha,rfl⟩:=ix.of_ref;let⟨b,hb,rfl⟩:=iy.of_ref;let⟨a',ha',kvs,hx,ip⟩:=sr.get h1;rw[ha]at ha';cases ha';let⟨b',hb',R0,hx',ip'⟩:=sr.get h2;rw[hb]at hb';cases hb';have l0:R0=[]:=by
    have:=IsP.length ip';exact Zp.mp this
   subst l0;exact⟨a,b,kvs,rfl,rfl,hx,hx',by rw[IsP.length ip];exact post m _ H .refl sr .bl_⟩
  |_=>cases hf
 |_=>cases hf
def qA(c1 c2:CE):CE:=λρ S=>match c1 ρ S with
 |some r=>some r
 |none=>c2 ρ S
theorem B8{e:QF}{c1 c2:CE}(h1:QE X e c1)(h2:QE X e c2):QE X e (qA c1 c2):=
 (h1.or h2).imp λσ H Q hz=>kY hz λm ρ S u S' sr lr hc post=>by
 unfold qA at hc;split at hc;rename_i r hr;cases hc;exact .inl ⟨m,ρ,S,u,S',sr,lr,hr,post⟩;exact .inr ⟨m,ρ,S,u,S',sr,lr,hc,post⟩
end
end OP
namespace OG
open PySem PySem.Spec PyProof.Rows L2
section
variable{X:Cx}
theorem jU{x:Str}{a:Addr}{pos:Pos}(hg:Gl X x)(hm:X.mg x=some (.ref a))(hd:(x == ("__debug__":Str))=false:=by decide):WE X (.Name x pos) (tC (.ref a)):=
 ⟨GN hg hm rfl hd⟩
end
end OG
namespace OP
open PySem PySem.Spec PyProof PyProof.Rows L2 OG PySem.W HT
section
variable{prog:Z7}{w:ZR}{A:ZE}{E:Q3->Q4->Prop}{s:Q4}
theorem qg{t sl:Addr}{items:Array Q3}{vl vu:Q3}{lo hi:Option Int}{Q:Q3->Q4->Prop}(ht:IsTup s.heap t items)(hs:s.heap.IsSliceOf sl vl vu .none)(pl:IsPart vl lo)(pu:IsPart vu hi)
  (hw:sIx items.size 0 lo=0/\sIx items.size items.size hi=items.size) (h:Q (.ref t) s):wpAny (ZQ prog w) A (getItem (.ref t) (.ref sl)) Q E s:=by
 let⟨os,hos,hcs,hds⟩:=id hs;have hT:s.TypeIs (.ref sl) "slice":=⟨os,hos,hcs⟩;unfold getItem;try with_reducible refine wpAny_holding ?_
 first|refine Q2 (QJ ?_)|skip
 refine Q2 (wpAny_sequenceKey ht.typeIs ∅ ?_);refine Q2 (wpAny_callSpecial?_slot (name:=Str.ofString "__getitem__") ht.typeIs PyProof.Rows.slot_tuple_getitem (wpAny_call_entry PyProof.Rows.slot_tuple_getitem ht.typeIs entry_tuple_getitem ?_ (args_tuple_getitem _ _)));show wpAny _ _ (Builtin.Tuple.tupleItemsOf (.ref t) >>= _) _ _ s;refine Q2 (tupleItemsOf_ ht (Q2 (wpAny_typeOf hT ?_)));rw[XO ∅];refine Q2 (ie hs pl pu ?_);rw[hw.1,hw.2,Nat.sub_zero];dsimp only;rw[XO nofun];unfold Builtin.Tuple.tupleIsExact;refine Q2 (Q2 (wpAny_typeOf ht.typeIs (QJ ?_)));rw[XO ∅];exact Q2 (wpAny_rule (QJ ⟨_,rfl,QJ h⟩))
end
section
variable{X:Cx}
def Qp(K:Q1):V->Option Int->Option Int->Hp->VK->Prop:=λx lo hi H Q=>∃a xs,x=.ref a/\SqT K H a xs/\(sIx xs.length 0 lo=0/\sIx xs.length xs.length hi=xs.length)/\Q (.ref a) H
theorem Ge:SlR X (Qp X.K):=by
 intro b_ s σ H x v vl vu lo hi sl Q I rx hs pl pu h;let⟨a,xs,rfl,hx,hw,q⟩:=h;cases rx;let⟨its,r,ht,hz⟩:=I.tuple hx;have p_:its.toArray.size=xs.length:=by rw[QM];exact r.length.symm
 exact⟨"tuple",_,PyProof.Rows.slot_tuple_getitem.lookup,ht.typeIs,qg ht hs pl pu (by rw[p_];exact hw) ⟨.ref a,H,I,rfl,q⟩⟩
def Mi(x:U)(lo hi:Option Int)(S:Sto):Option (U×Sto):=match x with
 |.tup us=>some (.tup (DK us lo hi),S)
 |.ref l=>match S[l]? with
  |some (.lst us)=>some (.ref S.length,S++[.lst (DK us lo hi)])
  |_=>none
 |_=>none
def LC(ca:CE)(cl ch:Option CE):CE:=λρ S=>(ca ρ S).bind λp=>(HH cl ρ p.2).bind λq=>(HH ch ρ q.2).bind λr=>Mi p.1 q.1 r.1 r.2
theorem JN{e:QF}{lo hi:Option QF}{ca:CE}{cl ch:Option CE}{pos p2:Pos}(ha:QE X e ca)(hl:QO X lo cl)(hh:QO X hi ch):QE X (.Subscript e (.Slice lo hi none p2) pos) (LC ca cl ch):=(yI (Gf.or (JD.or Ge)) ha hl hh).imp λσ H Q hz=>kY hz λm ρ S u S' sr lr hc post=>by
 let⟨⟨x,S1⟩,h1,ha⟩:=Q0.mp hc;let⟨⟨l,S2⟩,h2,hb⟩:=Q0.mp ha;let⟨⟨k,S3⟩,h3,h⟩:=Q0.mp hb;clear ha hb hc;refine⟨m,ρ,S,x,S1,sr,lr,h1,λm1 v1 H1 e1 sr1 i1=>⟨m1,ρ,S1,l,S2,sr1,lr.mono e1,h2,λm2 H2 e2 sr2=>⟨m2,ρ,S2,k,S3,sr2,lr.mono (e1.trans e2),h3,λm3 H3 e3 sr3=>?_⟩⟩⟩;have i3:=i1.mono (e2.trans e3);have e03:=(e1.trans e2).trans e3;cases x with
 |tup us=>
  simp only[Mi]at h;cases h;let⟨a,xs,rfl,sa,la⟩:=i3.of_tup;by_cases hw:sIx us.length 0 l=0/\sIx us.length us.length k=us.length;have e:DK us l k=us:=by
   unfold DK;rw[hw.1,hw.2,List.drop_zero,Nat.sub_zero,List.take_length]
  rw[e]at post;exact .inr (.inr ⟨a,xs,rfl,sa,by rw[la.length];exact hw,post m3 _ H3 e03 sr3 (.tup_ sa la)⟩);exact .inr (.inl ⟨a,xs,rfl,sa,by rw[la.length];exact hw,λp hp=>pJ sr3 (E3 la) (post.mono e03) hp⟩)
 |ref r=>
  simp only[Mi]at h;split at h<;>try cases h
  rename_i us hS;let⟨a,ha,rfl⟩:=i3.of_ref;let⟨a',ha',xs,hx,la⟩:=sr3.get hS;rw[ha]at ha';cases ha';exact .inl ⟨a,xs,rfl,SqL.of hx,λp hp=>dC sr3 (E3 la) (post.mono e03) hp⟩
 |_=>simp[Mi]at h
end
end OP
namespace OP
open PySem PySem.Spec PyProof.Rows L2 OG
section
variable{P:Z7}{w:ZR}{K:Q1}{h base:Heap}{mg:Str->Option Q3}{x q:Str}{st:ZC}{f C:Addr}{oc:Q3}{od an:Option Addr}{osl:Array (Option Q3)}{kV doc pm cdv ct:Q3}{ps N:List Str}{k:Nat}{c:CS}{cl:Cl}
def P9(K:Q1)(x q:Str)(st:ZC)(f:Addr):Prop:=∃fd,Fun K x q st f fd
abbrev fAt(x q:Str)(st:ZC)(oc:Q3)(od an:Option Addr)(osl:Array (Option Q3))(kV doc pm cdv ct:Q3):Obj:=⟨oc,od,.func (YB x q (jN st) (cM st) (ax st) .none kV doc pm an cdv ct),osl⟩
def LV(K:Q1)(x:Str)(st:ZC):Prop:=∃f,PySem.W.nsIn K mainGlobals x=some (some (.ref f))/\P9 K x x st f
theorem Qy(a:PySem.W.nsIn K mainGlobals x=some (some (.ref f)))(l:K.lookup f=some (fAt x x st oc od an osl kV doc pm cdv ct))(c:YE K cdv x=true)(k:YC K (.ref f)=true):LV K x st:=⟨f,a,_,EU l c k⟩
def LU(K:Q1):List (Str×ZC)->Prop
 |[]=>True
 |(x,st)::r=>LV K x st/\LU K r
def LQ(K:Q1)(C:Addr)(x q:Str)(st:ZC):Prop:=∃f,Y0 K (.ref C) x=some (some (.ref f))/\YF K (.ref f)=true/\P9 K x q st f
theorem Pt(a:Y0 K (.ref C) x=some (some (.ref f)))(i:YF K (.ref f)=true)(l:K.lookup f=some (fAt x q st oc od an osl kV doc pm cdv ct))(c:YE K cdv q=true)(k:YC K (.ref f)=true):LQ K C x q st:=⟨f,a,i,_,EU l c k⟩
def LP(K:Q1)(C:Addr):List (Str×Str×ZC)->Prop
 |[]=>True
 |(x,q,st)::r=>LQ K C x q st/\LP K C r
def LN(K:Q1)(C:Addr):List Str->Prop
 |[]=>True
 |x::r=>Y0 K (.ref C) x=some none/\LN K C r
def My(K:Q1):List Str->Prop
 |[]=>True
 |x::r=>PySem.W.nsIn K mainGlobals x=some none/\My K r
structure Im(K:Q1)(x:Str)(C:Addr)(ns:List Str)(ms:List (Str×Str×ZC)):Prop where
 a:PySem.W.nsIn K mainGlobals x=some (some (.ref C))
 pg:YG K C Str.empty=true
 hd:PySem.W.hasDictIn K C=true
 po:PySem.W.plainOver K C=true
 sa:Y0 K (.ref C) "__setattr__"=some (some (.builtin "object.__setattr__"))
 mc:PySem.W.makesIn K C=true
 kc:YC K (.ref C)=true
 nf:LN K C ns
 ms:LP K C ms
theorem LN.nas:∀{ns:List Str},LN K C ns->∀f∈ns,Y0 K (.ref C) f=some none
 |[],_,f,h=>by cases h
 |x::r,h,f,hf=>by
  rcases Z8.mp hf with rfl|z;exact h.1;exact LN.nas h.2 f z
theorem Im.tc{ns:List Str}{ms:List (Str×Str×ZC)}(h:Im K x C ns ms):TC K (⟨C,ns⟩:Cl) ns:=⟨⟨h.pg,h.hd,h.po,h.sa⟩,rfl,λf hf=>h.nf.nas f hf⟩
abbrev Bd(x q:Str)(st:ZC)(ps:List Str):Prop:=∀us:List Q3,us.length=ps.length->∀(kV doc pm:Q3) (an:Option Addr) (cdv ct:Q3),bindArgs (YB x q (jN st) (cM st) (ax st) .none kV doc pm an cdv ct) ⟨us,[]⟩=pure (ps.zip us)
theorem LV.df(d:LV K x st)(X:K.In h)(G:h.Ns mainGlobals mg)(b:Bd x x st ps:=by first|exact Ih λ_ _ _ _ _ _=>rfl|(repeat (first|exact Ih λ_ _ _ _ _ _=>rfl|refine OY λ_=>?_))):Def K mg x st ps:=by
 let⟨f,a,fd,F⟩:=d;exact⟨f,fd,F,F.binds λkV doc pm an cdv ct us hl=>b us hl kV doc pm an cdv ct,PySem.W.mg_of X G a⟩
def MtD(K:Q1)(C:Addr)(x q:Str)(st:ZC)(ps:List Str):Prop:=∃fa fd,Fun K x q st fa fd/\gR K fd ps []/\Ed K C x fa
theorem LQ.mt(d:LQ K C x q st)(b:Bd x q st ps:=by first|exact Ih λ_ _ _ _ _ _=>rfl|(repeat (first|exact Ih λ_ _ _ _ _ _=>rfl|refine OY λ_=>?_))):MtD K C x q st ps:=by
 let⟨f,a,i,fd,F⟩:=d;exact⟨f,fd,F,F.binds λkV doc pm an cdv ct us hl=>b us hl kV doc pm an cdv ct,a,i,F.kp⟩
theorem MtD.pure(d:MtD K cl.C x q st ps)(S:aN N ps (ax st))
  (hb:∀(f:Addr) (cdv:Q3) (A:ZE) (outer:List Env) (s:Q4) (H:Hp) (E:XK),eN k (A.deeper (envOfC q (ax st) s.heap.objs.size f cdv))->WSs (sL CX0 P w K mg base N q (ax st) f cdv A outer s H E).nox (cM st) (tS K c)) :
  dP P w K mg base cl x (k+1) ps (fnU N.length ps.length c):=by
 let⟨fa,fd,F,b,m⟩:=d;exact⟨fa,fd,m,F.pure S (hb fa),b⟩
def MkD(K:Q1)(mg:Str->Option Q3)(C:Addr)(x q:Str)(st:ZC)(ps:List Str):Prop:=∃fa fd,Fun K "__init__" q st fa fd/\gR K fd ps []/\Mk K C fa/\mg x=some (.ref C)
theorem Im.mkd{ns:List Str}{ms:List (Str×Str×ZC)}(h0:Im K x C ns ms)(d:LQ K C "__init__" q st)(X:K.In h)(G:h.Ns mainGlobals mg)(b:Bd "__init__" q st ps:=by first|exact Ih λ_ _ _ _ _ _=>rfl|(repeat (first|exact Ih λ_ _ _ _ _ _=>rfl|refine OY λ_=>?_))):MkD K mg C x q st ps:=by
 let⟨f,a,i,fd,F⟩:=d;exact⟨f,fd,F,F.binds λkV doc pm an cdv ct us hl=>b us hl kV doc pm an cdv ct,⟨h0.mc,a,i,h0.kc⟩,PySem.W.mg_of X G h0.a⟩
theorem MkD.pure{NS:List Str}(d:MkD K mg cl.C x q st ps)(T:TC K cl NS)(S:aN N ps (ax st))
  (hb:∀(f:Addr) (cdv:Q3) (A:ZE) (outer:List Env) (s:Q4) (H:Hp) (E:XK),eN k (A.deeper (envOfC q (ax st) s.heap.objs.size f cdv))->WSs (sL CX0 P w K mg base N q (ax st) f cdv A outer s H E).nox (cM st) (tS K c))
  (nd:NS.Nodup:=by decide +kernel) (few:NS.length<1000:=by decide):CMk P w K mg base cl x (k+1) ps (fnU N.length ps.length c):=by
 let⟨fa,fd,F,b,m,g⟩:=d;exact⟨⟨fa,fd,m,F.pure S (hb fa),b,g⟩,by rw[T.ns];exact nd,by rw[T.ns];exact few⟩
def P6:List Str:=["len","isinstance","int","bool","str","tuple","list","range","min","sum","all","zip","sorted","dict","enumerate","any","max","set"]
theorem My.blt(z:My K P6)(X:K.In h)(G:h.Ns mainGlobals mg):Blt mg:=by
 obtain⟨a,b,c,d,e,f,g,i,j,k,l,m,n,o,p,q,r,s,-⟩:=z;constructor<;>(refine PySem.W.mg_none_of X G ?_;assumption)
end
end OP
namespace OG
open PySem PySem.Spec PyProof.Rows L2
def Lp(qual:Str)(scope:XR)(L f:Addr)(cd:Q3)(cl:List (Str×Addr)):Env:=newEnv scope L mainGlobals cl (qual++".<locals>.") (some f) cd none builtinsNs
def cxL(P:Z7)(w:ZR)(K:Q1)(mg:Str->Option Q3)(base:Heap)(N:List Str)(qual:Str)(scope:XR)(f:Addr)(cd:Q3)(cl:List (Str×Addr))(A:ZE)(outer:List Env)(s:Q4)(H:Hp):Cx where
 prog:=P
 w:=w
 K:=K
 mg:=mg
 base:=base
 A:=A.deeper (Lp qual scope s.heap.objs.size f cd cl)
 N:=N
 s₀:=s
 H₀:=H
 env:=Lp qual scope s.heap.objs.size f cd cl
 outer:=outer
 stack:=Lp qual scope s.heap.objs.size f cd cl::outer
 ex:=[]
 calm:=true
 fn:=λ_=>false
 pn:=[]
 xe:=λ_ _=>False
structure MA(scope:XR)(cl:List (Str×Addr))(h:Heap)(H:Hp)(x:Str)(v:V):Prop where
 ex:scope.names.lookup x=some .free/\∃c u,cl.lookup x=some c/\h.IsCell c (some u)/\bS v u
variable{s:Q4}{H:Hp}
section
variable{P:Z7}{w:ZR}{K:Q1}{mg:Str->Option Q3}{base:Heap}{p:Str}{capN:List Str}{qual name:Str}{scope:XR}{f:Addr}{cl:List (Str×Addr)}{A:ZE}{outer:List Env}{v:V}{vc:List V}{u cd:Q3}
theorem Hq{h1:Heap}{t':Nat}(e0:vy P w K mg base A outer s H)(hd:A.handled=none)(r_:scope.kind=.function)(hp:scope.names.lookup p=some .local)(r:bS v u)
  (RW:∀x y c,cl.lookup x=some c->cl.lookup y=some c->x=y) (H_:∀x,(scope.names.lookup x=some .cell\/scope.names.lookup x=some .free)->∃c,cl.lookup x=some c)
  (hcl:∀x c,cl.lookup x=some c->(∃u,s.heap.IsCell c u)/\H c=none)
  (F_:Paired (λx v=>MA scope cl s.heap H x v) capN vc)
  (hns:h1.Ns s.heap.objs.size (λx=>([(p,u)]:List (Str×Q3)).reverse.lookup x)) (hk:∀b o,s.heap.get? b=some o->h1.get? b=some o) :
  Inv (cxL P w K mg base (p::capN) qual scope f cd cl A outer s H) [] (some v::vc.map some) H { s with heap:=h1,toks:=t' }:=by
 have noA:∀b:Addr,b∉(cxL P w K mg base (p::capN) qual scope f cd cl A outer s H).ex:=λb z=>absurd (show b∈([]:List Addr)from z) nofun;have cellK:∀c v,s.heap.IsCell c v->h1.IsCell c v:=λc v ⟨o,ho,hd⟩=>⟨o,hk _ _ ho,hd⟩;refine⟨⟨e0.mod,r_,rfl,rfl,QQ _,RW,H_,λy c z=>(nomatch z),λ_=>hd,Around.frames_deeper e0.frames,.inr ⟨rfl,rfl⟩,λb z=>absurd z (noA b),e0.bs,e0.bsz,λb _ _=>noA b,λb z=>absurd z (noA b),e0.funs,e0.frf⟩,
  rfl,e0.bare,Un.kept hk,⟨_,hns,λi y v' h1' h2 h3=>?_⟩,λy c h=>?_,e0.hok.fresh (QQ _),λy c h=>(hcl y c h).2,λp hp=>absurd (show p∈([]:List (Addr×Obj))from hp) nofun,e0.hok.kept hk,?_⟩
 cases i with
 |zero=>
  have e1:p=y:=by simpa [cxL] using h1'
  have e2:v=v':=by simpa using h2
  subst e1;subst e2;exact⟨u,r,.inl ⟨hp,nofun⟩⟩
 |succ i=>
  have e1:capN[i]?=some y:=by simpa [cxL] using h1'
  have e2:vc[i]?=some v':=by
   simp only[X8,ZH]at h2;cases q:vc[i]? with
   |none=>rw[q]at h2;cases h2
   |some z=>rw[q]at h2;cases h2;rfl
  have get:∀{l1:List Str} {l2:List V} {i:Nat},Paired (λx v=>MA scope cl s.heap H x v) l1 l2->l1[i]?=some y->l2[i]?=some v'->MA scope cl s.heap H y v':=by
   intro l1 l2 i hq;induction hq generalizing i with
   |nil=>intro z;simp at z
   |cons a b ih=>cases i with
    |zero=>intro z1 z2;simp at z1 z2;subst z1;subst z2;exact a
    |succ i=>intro z1 z2;exact ih ‹z1› ‹z2›
  let⟨k1,c,u1,k2,k3,k4⟩:=(get F_ e1 e2).ex;exact⟨u1,k4,.inr ⟨.inr k1,c,k2,cellK _ _ k3⟩⟩
 let⟨z,q⟩:=(hcl y c h).1;exact⟨z,cellK _ _ q⟩;show(some v::vc.map some).length=(p::capN).length;have:=F_.length;simp only[QK,QX];omega
theorem Hg{c:Addr}{pm ctv:Q3}{params:Arguments}{body:PySem.Expr}{te:TE}{Q:VK}(RZ:A.depth<recursionLimit)(e0:vy P w K mg base A outer s H)(hd:A.handled=none)
  (ho:s.heap.get? f=some (PySem.W.kla_obj name qual params body scope cl pm c ctv)) (hcd:s.heap.CodeRec (.ref c) qual) (hco:scope.isCoroutine=false) (Si:scope.isGenerator=false) (r_:scope.kind=.function)
  (x_:∀x∈scope.names,x.2≠.cell) (hp:scope.names.lookup p=some .local) (RK:bindArgs (PySem.W.kla_fn name qual params body scope cl pm (.ref c) ctv) ⟨[u],[]⟩=pure [(p,u)]) (r:bS v u)
  (RW:∀x y c,cl.lookup x=some c->cl.lookup y=some c->x=y) (H_:∀x,(scope.names.lookup x=some .cell\/scope.names.lookup x=some .free)->∃c,cl.lookup x=some c)
  (hcl:∀x c,cl.lookup x=some c->(∃u,s.heap.IsCell c u)/\H c=none) (F_:Paired (λx v=>MA scope cl s.heap H x v) capN vc)
  (hb:WE (cxL P w K mg base (p::capN) qual scope f (.ref c) cl A outer s H) body te) (hq:te (some v::vc.map some) H Q) :
  codeAny (ZQ P w) A (.call (.ref f) ⟨[u],[]⟩) (λr s'=>∃u',r=.ok (.ret u')/\CE outer P w H s Q u' s') s:=by
 have lim:s.heap.NoLimit:=e0.mod.nolimit.keeps λb o e=>(e0.bs b o e).1;refine PySem.W.kla_callFunE RZ ho rfl hco Si rfl hcd ?_;rw[RK];refine QJ (wpAny_newFunctionEnv x_ (λx hx=>(show x=(p,u)by simpa using hx)▸hp) (λh₁ hns hsb=>?_) r_);have hk₁:∀b o,s.heap.get? b=some o->h₁.get? b=some o:=λb o e=>hsb.extBut b o (ZZ (QY e)) (Q5 _ e);refine⟨lim.keeps hk₁,?_⟩;show codeAny _ _ (.expr body (Lp qual scope s.heap.objs.size f (.ref c) cl)) _ _;refine PySem.W.kla_codeExpr (ZN (hb.h [] _ _ H Q (Hq e0 hd r_ hp r RW H_ hcl F_ hns hk₁) hq) (λu' s' h=>?_) λ_ _ z=>z.elim);let⟨v',H',I',rv,q⟩:=h;exact⟨u',rfl,v',H',I'.os,I'.bare,I'.base,I'.hok,rv,q⟩
end
def Bo(mg:Str->Option Q3)(base:Heap):Prop:=∃bm ob,mg "__builtins__"=some (.ref bm)/\bm≠builtinsNs/\base.get? bm=some ob/\ob.cls=.type "module"/\ob.dict=some builtinsNs/\ob.data=.plain
section
variable{X:Cx}{b_:List (Addr×Obj)}{σ:L2.St}
theorem _root_.L2.Inv.tab{h':Heap}{t':Nat}{p:Addr}{ps y_:Array Q3}(I:Inv X b_ σ H s)(hp:H p=some (.tbl ps))(k:Heap.ExtBut p s.heap h')(e:h'.get? p=some { cls:=.none,data:=.fields (ps++y_) }) :
  Inv X b_ σ (upd H p (.tbl (ps++y_))) { s with heap:=h',toks:=t' }:=by
 have np:∀b u,H b=some u->u≠.tbl ps->b≠p:=λb u q d z=>by subst z;rw[hp]at q;cases q;exact d rfl
 have nf:∀b,H b=none->b≠p:=λb q z=>by subst z;rw[hp]at q;cases q
 refine I.un ⟨λb o q n _ _=>k b o (nf b n) q,λb o q n _ _=>⟨o.slots,k b o (nf b n) q⟩,λb o q n _=>by rw[aH (nf b n)];exact n,λb o q _=>?_,λb xs q=>by rw[aH (np b _ q nofun)];exact q,λb o u q=>by rw[aH (np b _ q nofun)];exact q,λb ps' q=>?_⟩ λb u q=>?_;by_cases z:b=p;subst z;exact⟨_,e⟩;exact⟨o,k b o z q⟩;by_cases z:b=p;subst z;rw[hp]at q;cases q;exact⟨y_,aF⟩;exact⟨#[],by rw[aH z,q];simp⟩;by_cases z:b=p;subst z;rw[aF]at q;cases q;exact e;rw[aH z]at q;refine(I.hok b u q).stay (λc o hc q2=>k c o ?_ q2) (λc q2=>by rw[aH (np c _ q2 nofun)];exact q2) λc xs q2=>by rw[aH (np c _ q2 nofun)];exact q2
 rcases hc with rfl|hc;exact z;exact np c _ hc nofun
theorem _root_.L2.Inv.adopt{c:Addr}{u:HO}(I:Inv X b_ σ H s)(new:cU X.prog X.w (upd H c u) s.heap c u)(n:H c=none)(h0:X.s₀.heap.objs.size<=c)(hL:c≠X.env.locals)(hc:∀x d,X.env.cells.lookup x=some d->d≠c)(hp:∀q∈X.pn++b_,q.1≠c) :
  Inv X b_ σ (upd H c u) s:=by
 have ne:∀b u,H b=some u->b≠c:=λb u q z=>by subst z;rw[n]at q;cases q
 have neS:∀b ob,X.s₀.heap.get? b=some ob->b≠c:=λb ob q z=>absurd (QN (QY q) h0) (by rw[z];exact Zm _);refine⟨I.ok,I.os,I.bare,⟨I.base.keep,I.base.slot,λb ob q m hx=>by rw[aH (neS b ob q)];exact I.base.free b ob q m hx,I.base.there,λb xs q=>?_,λb ob xs q=>?_,λb ps q=>?_⟩,I.loc,I.cell,by rw[aH (Ne.symm hL)];exact I.free,λx d q=>by rw[aH (hc x d q)];exact I.freeC x d q,λq hq=>?_,λb u q=>?_,I.len⟩;have:=I.base.tups b xs q;rw[aH (ne _ _ this)];exact this;have:=I.base.frzs b ob xs q;rw[aH (ne _ _ this)];exact this;let⟨m,e⟩:=I.base.tbls b ps q;exact⟨m,by rw[aH (ne _ _ e)];exact e⟩;let⟨e1,e2,e3⟩:=I.pin q hq;exact⟨e1,by rw[aH (hp q hq)];exact e2,e3⟩;by_cases z:b=c;subst z;rw[aF]at q;cases q;exact new;rw[aH z]at q;exact(I.hok b u q).stay (λ_ _ _ q2=>q2) (λd q2=>by rw[aH (ne _ _ q2)];exact q2) λd xs q2=>by rw[aH (ne _ _ q2)];exact q2
theorem C9{c p:Addr}{ps:Array Q3}{name qual:Str}{params:Arguments}{body:PySem.Expr}{scope:XR}{cl:List (Str×Addr)}{pos:Pos}{fl:Nat}{Q:Q3->Q4->Prop}(I:Inv X b_ σ H s)(hc:X.env.code=.ref c)(C:PySem.W.CodeHd X.base c p)(B:Bo X.mg X.base)
  (hp:H p=some (.tbl ps)) (ht:TriplesOk ps.toList) (hcl:closureFor scope X.env=pure cl)
  (hit:codeAmong pos ps.toList=none\/∃c' ob vs t,codeAmong pos ps.toList=some (.ref c')/\H c'=some (.frz ob (.own 0))/\ob.data=.fields vs/\vs[1]?=some (.str qual t))
  (q:∀(f c':Addr) (pm ctv:Q3) (ps':Array Q3) (H':Hp) (s':Q4),Inv X b_ σ H' s'->s.heap.objs.size<=f->H' f=none->s'.heap.get? f=some (PySem.W.kla_obj name qual params body scope cl pm c' ctv)->s'.heap.CodeRec (.ref c') qual->
   (∀b o,b≠p->s.heap.get? b=some o->s'.heap.get? b=some o)->H' p=some (.tbl ps')->TriplesOk ps'.toList->(∃ob vs t,codeAmong pos ps'.toList=some (.ref c')/\H' c'=some (.frz ob (.own 0))/\ob.data=.fields vs/\vs[1]?=some (.str qual t))->(∀b,b≠p->b≠c'->H' b=H b)->(H c'=none\/H'=H)->Q (.ref f) s') :
  wpAny (ZQ X.prog X.w) X.A (makeFunction name qual params (.expr body) scope X.env [] [] [] pos fl) Q X.xe s:=by
 have gp:s.heap.get? p=some (PySem.W.tabObj ps):=I.hok p _ hp;let⟨bm,ob,b1,b2,b3,b4,b5,b6⟩:=B;have hg:=I.mod.glob.keeps I.bk;have hbp:bm≠p:=λz=>by
  have:=I.bk _ _ b3;rw[z,gp]at this;cases this;cases b4
 have hgp:mainGlobals≠p:=λz=>by
  let⟨o,es,ep,e,d,_⟩:=hg;rw[z,gp]at e;cases e;cases d
 have hbG:bm≠mainGlobals:=λz=>by
  let⟨o,es,ep,e,d,_⟩:=I.mod.glob;rw[z,e]at b3;cases b3;rw[d]at b6;cases b6
 have hB:s.heap.BuiltinsAt X.mg p:=⟨bm,ob,b1,b2,hbG,hbp,I.bk _ _ b3,b4,b5,b6⟩;have lk:∀x d,X.env.cells.lookup x=some d->d<s.heap.objs.size:=λx d e=>by
  let⟨v,o,ho,_⟩:=I.cell x d e;exact QY ho
 have C':PySem.W.CodeHd s.heap c p:=C.keeps I.bk;rcases hit with hn|⟨c',oc,vs,t,hf,h2,h3,h4⟩;refine PySem.W.kla_makeFunction (mg:=X.mg) hcl I.ok.glob hg hc C' gp ht hn hgp hB λc' ctv h' tk hx hge hlt Se htb=>?_;let⟨c2,oc,vs,t,e2,hoc,hd,hv⟩:=Se;cases e2;have I1:=I.tab (t':=tk) hp hx htb;have ncp:c'≠p:=λz=>by
  have:=QY gp;rw[<-z]at this;exact absurd hge (Nat.not_le.mpr this)
 have n1:(upd H p (.tbl (ps++#[rawInt pos.line,rawInt pos.col,.ref c']))) c'=none:=by rw[aH ncp];exact I.hok.fresh hge
 have I2:=I1.adopt (c:=c') (u:=.frz oc (.own 0)) ⟨hoc,oc,hoc⟩ n1 (ZP I.sz hge) (XH (QN I.lt hge)) (λx d e=>ZZ (QN (lk x d e) hge)) (λq hq=>ZZ (QN (QY (I.pin q hq).1) hge));have I3:=I2.kept (h':=h'.push (PySem.W.kla_obj name qual params body scope cl ((X.mg "__name__").getD .none) c' ctv)) (t':=tk) λb o e=>Q5 _ e;refine q h'.objs.size c' _ ctv _ _ _ I3 (YS (Nat.lt_of_le_of_lt hge hlt)) ?_ (Z0 _ rfl) ⟨c',oc,vs,t,rfl,Q5 _ hoc,hd,hv⟩ (λb o nb e=>Q5 _ (hx b o nb e)) (by rw[aH (Ne.symm ncp)];exact aF) ?_ ⟨oc,vs,t,?_,aF,hd,hv⟩ (λb n1 n2=>by rw[aH n2,aH n1]) (.inl (I.hok.fresh hge));exact I2.hok.fresh (QQ _);rw[Array.toList_append];exact TriplesOk_snoc _ _ _ _ ht;rw[Array.toList_append];exact codeAmong_snoc _ ht hn;refine PySem.W.kla_makeFunctionHit (mg:=X.mg) hcl I.ok.glob hg hc C' gp ht hf hB λctv h' tk hk hsz=>?_;have I1:=I.kept (h':=h') (t':=tk) hk;have I3:=I1.kept (h':=h'.push { cls:=.type "function",data:=.func (PySem.W.kla_fn name qual params body scope cl ((X.mg "__name__").getD .none) (.ref c') ctv) }) (t':=tk) λb o e=>Q5 _ e;let⟨g1,_⟩:=I3.hok c' _ h2;exact q h'.objs.size c' _ ctv ps H _ I3 hsz (I1.hok.fresh (QQ _)) (Z0 _ rfl) ⟨c',oc,vs,t,rfl,g1,h3,h4⟩ (λb o nb e=>Q5 _ (hk b o e)) hp ht ⟨oc,vs,t,hf,h2,h3,h4⟩ (λ_ _ _=>rfl) (.inr rfl)
end
end OG
namespace OP
open PySem PySem.Spec PyProof PyProof.Rows L2 OG PySem.W
structure tj(n:Nat)(lt:Nat->Nat->Bool):Prop where
 asym:∀{i j},i<n->j<n->lt i j=true->lt j i=false
 co:∀{i j k},i<n->j<n->k<n->lt i k=true->lt i j=true\/lt j k=true
def ltS(lt:Nat->Nat->Bool)(i j:Nat):Bool:=lt i j||(!lt j i&&decide (i<j))
variable{s:Q4}
section
variable{cmp:Nat->Nat->(Bool->Q4->Prop)->Q4->Prop}{n:Nat}{lt:Nat->Nat->Bool}{p:Array Nat}
theorem tj.tr(W:tj n lt){i j k:Nat}(hi:i<n)(hj:j<n)(hk:k<n)(h1:lt i j=true)(h2:lt j k=true):lt i k=true:=by
 rcases W.co hi hk hj h1 with h|h;exact h;rw[W.asym hj hk h2]at h;cases h
def dD{i j:Nat}:ltS lt i j=true↔lt i j=true\/lt j i=false/\i<j:=by unfold ltS;simp
theorem KP{i j:Nat}(h:j<=i):ltS lt i j=lt i j:=by
 unfold ltS;rw[Xq ⋯];simp
theorem tj.le(W:tj n lt){i j k:Nat}(hi:i<n)(hj:j<n)(hk:k<n)(h1:lt j i=false)(h2:lt k j=false):lt k i=false:=by
 cases h:lt k i with
 |false=>rfl
 |true=>exact(W.co hk hj hi h).elim (λz=>by rw[h2]at z;cases z) (λz=>by rw[h1]at z;cases z)
theorem tj.ok(W:tj n lt):Bt n (ltS lt) where
 tr:=λ{i j k} hi hj hk h1 h2=>by
  rw[dD]at *;rcases h1 with h1|⟨h1,g1⟩<;>rcases h2 with h2|⟨h2,g2⟩;exact .inl (W.tr hi hj hk h1 h2);rcases W.co hi hk hj h1 with z|z;exact .inl z;rw[h2]at z;cases z;rcases W.co hj hi hk h2 with z|z;rw[h1]at z;cases z;exact .inl z;exact .inr ⟨W.le hi hj hk h1 h2,⋯⟩
 asym:=λ{i j} hi hj h=>by
  cases g:ltS lt j i with
  |false=>rfl
  |true=>
   rw[dD]at h g;rcases h with h|⟨h,h'⟩<;>rcases g with g|⟨g,g'⟩;rw[W.asym hi hj h]at g;cases g;rw[h]at g;cases g;rw[h]at g;cases g;omega
 tot:=λ{i j} hi hj hne h=>by
  rw[dD];cases g:lt j i with
  |true=>exact .inl rfl
  |false=>
   refine .inr ⟨?_,?_⟩;cases q:lt i j with
   |false=>rfl
   |true=>rw[dD.mpr (.inl q)]at h;cases h
   rcases Nat.lt_or_gt_of_ne hne with z|z;rw[dD.mpr (.inr ⟨g,z⟩)]at h;cases h;exact z
structure Px(n k:Nat)(p:Array Nat):Prop where
 pm:Pm n p
 lo:∀i,i<k->p.getD i 0<k
 hi:∀i,k<=i->i<n->p.getD i 0=i
theorem Px.next{k:Nat}(h:Px n k p)(hk:k<n):Px n (k+1) p:=⟨h.pm,λi hi=>by
 by_cases e:i=k;subst e;rw[h.hi i (QQ _) hk];omega;have:=h.lo i ⋯;omega,λi a b=>h.hi i ⋯ b⟩
theorem Bb(W:tj n lt)(A:xp cmp n lt s):∀(f m:Nat) {Q:Nat->Q4->Prop},1<=m->m+f<=n->Px n m p->Asc (ltS lt) p m->(∀m',m<=m'->m'<=m+f->Px n m' p->Asc (ltS lt) p m'->(m'=m+f\/lt (p.getD m' 0) (p.getD (m'-1) 0)=true)->Q m' s)->(kas_asc p f m).kasWp cmp Q s
 |0,m,Q,h1,h2,P,h3,q=>q m (QQ _) ⋯ P h3 (.inl rfl)
 |f+1,m,Q,h1,h2,P,h3,q=>by
  have b1:=P.pm.bd m ⋯;have b2:=P.pm.bd (m-1) ⋯;refine A _ _ _ b1 b2 ?_;cases hc:lt (p.getD m 0) (p.getD (m-1) 0)with
  |true=>exact q m (QQ _) ⋯ P h3 (.inr hc)
  |false=>
   have hlt:p.getD (m-1) 0<p.getD m 0:=by rw[P.hi m (QQ _) ⋯];exact P.lo _ ⋯
   have h4:=h3.snoc W.ok P.pm h1 ⋯ (dD.mpr (by
    cases z:lt (p.getD (m-1) 0) (p.getD m 0)with
    |true=>exact .inl rfl
    |false=>exact .inr ⟨hc,hlt⟩))
   exact Bb W A f (m+1) ⋯ ⋯ (P.next ⋯) h4 λm' a b c d e=>q m' ⋯ ⋯ c d (by rcases e with e|e;exact .inl ⋯;exact .inr e)
theorem fS{i m k:Nat}(hm:m<=p.size):(kas_rev p i m).getD k 0=if i<=k/\k<m then p.getD (i+m-1-k) 0 else p.getD k 0:=by
 unfold kas_rev;have h:=getElem?_mirror_all (i:=i) hm k;split;rename_i c;rw[XO c]at h;exact jM h;rename_i c;rw[XS c]at h;exact jM h
theorem Px.rev{k i m:Nat}(P:Px n k p)(hm:m<=k)(hk:k<=n):Px n k (kas_rev p i m):=by
 have g:∀j,(kas_rev p i m).getD j 0=if i<=j/\j<m then p.getD (i+m-1-j) 0 else p.getD j 0:=λj=>fS (by rw[P.pm.sz];omega)
 refine⟨⟨by rw[kas_rev_size];exact P.pm.sz,λj hj=>?_,λa b hab hb=>?_⟩,λj hj=>?_,λj a b=>?_⟩;rw[g];split;exact P.pm.bd _ ⋯;exact P.pm.bd _ hj
 ·rw[g,g];split<;>split<;>exact P.pm.ne' ⋯ ⋯ ⋯
 rw[g];split;exact P.lo _ ⋯;exact P.lo _ hj;rw[g,XS ⋯];exact P.hi j a b
structure Dn(lt:Nat->Nat->Bool)(p:Array Nat)(m q:Nat):Prop where
 dn:∀i j,i<j->j<m->i<m-(q+1)->ltS lt (p.getD j 0) (p.getD i 0)=true
 st:∀i j,i<m-(q+1)->m-(q+1)<=j->j<m->lt (p.getD j 0) (p.getD i 0)=true
 eq:∀i j,m-(q+1)<=i->i<j->j<m->lt (p.getD i 0) (p.getD j 0)=false/\lt (p.getD j 0) (p.getD i 0)=false/\p.getD i 0<p.getD j 0
theorem Dn.rev{m q:Nat}(h:Dn lt p m q)(hm:m<=p.size)(hq:q+1<=m):Dsc (ltS lt) (kas_rev p (m-(q+1)) m) m:=λi j a b=>by
 have g:∀j,(kas_rev p (m-(q+1)) m).getD j 0=if m-(q+1)<=j/\j<m then p.getD (m-(q+1)+m-1-j) 0 else p.getD j 0:=λj=>fS hm
 rw[g,g];by_cases ci:m-(q+1)<=i;rw[XO ⟨⋯,b⟩,XO ⟨ci,⋯⟩];let⟨z1,z2,z3⟩:=h.eq (m-(q+1)+m-1-j) (m-(q+1)+m-1-i) ⋯ ⋯ ⋯;exact dD.mpr (.inr ⟨z2,z3⟩);rw[XS (c:=m-(q+1)<=i/\i<m) ⋯];split;exact h.dn _ _ ⋯ ⋯ ⋯;exact h.dn _ _ a b ⋯
def Dn.dsc{m:Nat}(h:Dn lt p m 0):Dsc (ltS lt) p m:=λi j a b=>h.dn i j a b ⋯
theorem uZ(W:tj n lt)(P:Pm n p){m:Nat}(h:Dsc (ltS lt) p m)(h1:1<=m)(hm:m<n)(hc:lt (p.getD m 0) (p.getD (m-1) 0)=true):Dn lt p (m+1) 0:=by
 have bm:=P.bd m hm;have all:∀i,i<m->lt (p.getD m 0) (p.getD i 0)=true:=λi hi=>by
  by_cases e2:i=m-1;subst e2;exact hc;have z:=h i (m-1) ⋯ ⋯;rw[dD]at z;rcases z with z|⟨z,_⟩;exact W.tr bm (P.bd _ ⋯) (P.bd _ ⋯) hc z;rcases W.co bm (P.bd i ⋯) (P.bd (m-1) ⋯) hc with y|y;exact y;rw[z]at y;cases y
 refine⟨λi j a b c=>?_,λi j a b c=>?_,λi j a b c=>by omega⟩;by_cases e:j=m;subst e;exact dD.mpr (.inl (all i ⋯));exact h i j a ⋯;have e:j=m:=by omega
 subst e;exact all i ⋯
theorem Dn.alike(W:tj n lt){m q:Nat}(P:Px n m p)(h:Dn lt p m q)(h1:q+1<=m)(hm:m<n)(hc:lt (p.getD m 0) (p.getD (m-1) 0)=false)(hd:lt (p.getD (m-1) 0) (p.getD m 0)=false):Dn lt p (m+1) (q+1):=by
 have e1:m+1-(q+1+1)=m-(q+1):=by omega
 have bm:=P.pm.bd m hm;have eqm:∀i,m-(q+1)<=i->i<m->lt (p.getD i 0) (p.getD m 0)=false/\lt (p.getD m 0) (p.getD i 0)=false:=λi a b=>by
  by_cases e:i=m-1;subst e;exact⟨hd,hc⟩;let⟨z1,z2,_⟩:=h.eq i (m-1) a ⋯ ⋯;exact⟨W.le bm (P.pm.bd (m-1) ⋯) (P.pm.bd i ⋯) hd z1,W.le (P.pm.bd i ⋯) (P.pm.bd (m-1) ⋯) bm z2 hc⟩
 have stm:∀i,i<m-(q+1)->lt (p.getD m 0) (p.getD i 0)=true:=λi hi=>by
  rcases W.co (P.pm.bd (m-1) ⋯) bm (P.pm.bd i ⋯) (h.st i (m-1) hi ⋯ ⋯)with y|y;rw[hd]at y;cases y;exact y
 refine⟨λi j a b c=>?_,λi j a b c=>?_,λi j a b c=>?_⟩;rw[e1]at c;by_cases e:j=m;subst e;exact dD.mpr (.inl (stm i c));exact h.dn i j a ⋯ c;rw[e1]at a b;by_cases e:j=m;subst e;exact stm i a;exact h.st i j a b ⋯;rw[e1]at a;by_cases e:j=m;subst e;let⟨z1,z2⟩:=eqm i a ⋯;exact⟨z1,z2,by rw[P.hi j (QQ _) hm];exact P.lo _ ⋯⟩;exact h.eq i j a b ⋯
theorem qu(W:tj n lt)(A:xp cmp n lt s):∀(f:Nat) (p:Array Nat) (m q:Nat) {Q:Array Nat×Nat×Nat->Q4->Prop},q+1<=m->m+f<=n->Px n m p->Dn lt p m q->(∀p' m' q',q'+1<=m'->m'<=n->Px n m' p'->Dn lt p' m' q'->Q (p',m',q') s)->(kas_desc f p m q).kasWp cmp Q s
 |0,p,m,q,Q,h1,h2,P,h3,g=>g p m q h1 ⋯ P h3
 |f+1,p,m,q,Q,h1,h2,P,h3,g=>by
  have b1:=P.pm.bd m ⋯;have b2:=P.pm.bd (m-1) ⋯;refine A _ _ _ b1 b2 ?_;cases hc:lt (p.getD m 0) (p.getD (m-1) 0)with
  |true=>
   dsimp only;rw[XO rfl];by_cases hq:q>0
   ·rw[XO hq];have P':Px n m (kas_rev p (m-(q+1)) m):=P.rev (QQ _) ⋯;have em:(kas_rev p (m-(q+1)) m).getD m 0=p.getD m 0:=by rw[fS (by rw[P.pm.sz];omega),XS ⋯]
    have e2:(kas_rev p (m-(q+1)) m).getD (m-1) 0=p.getD (m-(q+1)) 0:=by
     rw[fS (by rw[P.pm.sz];omega),XO ⋯];congr 1;omega
    refine qu W A f _ (m+1) 0 ⋯ ⋯ (P'.next ⋯) (uZ W P'.pm (h3.rev (by rw[P.pm.sz];omega) h1) ⋯ ⋯ ?_) g;rw[em,e2];let⟨z1,_,_⟩:=h3.eq (m-(q+1)) (m-1) (QQ _) ⋯ ⋯;rcases W.co b1 (P.pm.bd (m-(q+1)) ⋯) b2 hc with y|y;exact y;rw[z1]at y;cases y
   ·rw[XS hq];have q0:q=0:=by omega
    subst q0;exact qu W A f p (m+1) 0 ⋯ ⋯ (P.next ⋯) (uZ W P.pm h3.dsc ⋯ ⋯ hc) g
  |false=>
   dsimp only;rw[XS QV];refine A _ _ _ b2 b1 ?_;cases hd:lt (p.getD (m-1) 0) (p.getD m 0)with
   |true=>
    dsimp only;rw[XO rfl];exact g p m q h1 ⋯ P h3
   |false=>
    dsimp only;rw[XS QV];exact qu W A f p (m+1) (q+1) ⋯ ⋯ (P.next ⋯) (h3.alike W P h1 ⋯ hc hd) g
theorem yS(W:tj n lt)(A:xp cmp n lt s){m:Nat}{Q:Nat×Array Nat->Q4->Prop}(h1:1<=m)(hm:m<=n)(P:Px n m p)(h:Dsc (ltS lt) p m)(g:∀m p',1<=m->m<=n->Px n m p'->Asc (ltS lt) p' m->Q (m,p') s):(kas_tail3 m n p).kasWp cmp Q s:=by
 unfold kas_tail3;rw[KasT.kasWp_bind];exact Bb W A (n-m) m h1 ⋯ (P.rev (QQ _) hm) (h.rev P.pm hm) λm2 a2 b2 P2 c2 _=>g m2 _ ⋯ ⋯ P2 c2
theorem zC(W:tj n lt)(A:xp cmp n lt s){m:Nat}{Q:Nat×Array Nat->Q4->Prop}(h1:1<=m)(hm:m<n)(P:Px n m p)(h:Dsc (ltS lt) p m)(hc:lt (p.getD m 0) (p.getD (m-1) 0)=true)(g:∀m p',1<=m->m<=n->Px n m p'->Asc (ltS lt) p' m->Q (m,p') s):(kas_descPart m n p).kasWp cmp Q s:=by
 unfold kas_descPart;rw[KasT.kasWp_bind];refine qu W A _ p (m+1) 0 ⋯ ⋯ (P.next hm) (uZ W P.pm h h1 hm hc) λp' m' q' a b P' D=>?_;dsimp only;by_cases hq:q'>0;rw[XO hq];exact yS W A ⋯ b (P'.rev (QQ _) b) (D.rev (by rw[P'.pm.sz];exact b) a) g;rw[XS hq];have q0:q'=0:=by omega
 subst q0;exact yS W A ⋯ b P' D.dsc g
theorem DM(W:tj n lt)(A:xp cmp n lt s){Q:Nat×Array Nat->Q4->Prop}(h1:1<=n)(P:Px n 1 p)(g:∀m p',1<=m->m<=n->Px n m p'->Asc (ltS lt) p' m->Q (m,p') s):(kas_count n p).kasWp cmp Q s:=by
 unfold kas_count;rw[KasT.kasWp_bind];refine Bb W A (n-1) 1 (QQ _) ⋯ P (λi j a b=>by omega) λm a b P' c d=>?_;by_cases e:m=n;rw[XO (by rw[e];exact beq_self_eq_true n)];exact g m p a ⋯ P' c;rw[XS ‹e›];have d':lt (p.getD m 0) (p.getD (m-1) 0)=true:=by
  rcases d with d|d;omega;exact d
 by_cases z:m>1;rw[XO z];refine A _ _ _ (P'.pm.bd _ ⋯) (P'.pm.bd _ ⋯) ?_;cases hc:lt (p.getD 0 0) (p.getD (m-1) 0)with
 |true=>
  dsimp only;rw[XO rfl];exact g m p a ⋯ P' c
 |false=>
  dsimp only;rw[XS QV];have al:∀i j,i<j->j<m->lt (p.getD i 0) (p.getD j 0)=false/\lt (p.getD j 0) (p.getD i 0)=false/\p.getD i 0<p.getD j 0:=λi j hij hj=>by
   have n1:∀k,k<m->lt (p.getD k 0) (p.getD 0 0)=false:=λk hk=>by
    by_cases e0:k=0;subst e0;cases y:lt (p.getD 0 0) (p.getD 0 0)with
    |false=>rfl
    |true=>have:=W.asym (P'.pm.bd 0 ⋯) (P'.pm.bd 0 ⋯) y;rw[y]at this;cases this
    have:=c 0 k ⋯ hk;rw[dD]at this;rcases this with y|⟨y,_⟩;exact W.asym (P'.pm.bd _ ⋯) (P'.pm.bd _ ⋯) y;exact y
   have n2:∀k,k<m->lt (p.getD (m-1) 0) (p.getD k 0)=false:=λk hk=>by
    by_cases e0:k=m-1;subst e0;cases y:lt (p.getD (m-1) 0) (p.getD (m-1) 0)with
    |false=>rfl
    |true=>have:=W.asym (P'.pm.bd (m-1) ⋯) (P'.pm.bd (m-1) ⋯) y;rw[y]at this;cases this
    have:=c k (m-1) ⋯ ⋯;rw[dD]at this;rcases this with y|⟨y,_⟩;exact W.asym (P'.pm.bd _ ⋯) (P'.pm.bd _ ⋯) y;exact y
   have bi:=P'.pm.bd i ⋯;have bj:=P'.pm.bd j ⋯;have b0:=P'.pm.bd 0 ⋯;have bm:=P'.pm.bd (m-1) ⋯;have k1:∀i j,i<m->j<m->lt (p.getD i 0) (p.getD j 0)=false:=λi j hi hj=>by
    cases y:lt (p.getD i 0) (p.getD j 0)with
    |false=>rfl
    |true=>
     rcases W.co (P'.pm.bd i ⋯) b0 (P'.pm.bd j ⋯) y with x|x;rw[n1 i hi]at x;cases x;rcases W.co b0 bm (P'.pm.bd j ⋯) x with v|v;rw[hc]at v;cases v;rw[n2 j hj]at v;cases v
   have z1:=k1 i j ⋯ hj;refine⟨z1,k1 j i hj ⋯,?_⟩;have:=c i j hij hj;rw[dD]at this;rcases this with y|⟨_,y⟩;rw[z1]at y;cases y;exact y
  have hm:m<=p.size:=by rw[P'.pm.sz];omega
  refine zC W A a ⋯ (P'.rev (QQ _) ⋯) (λi j hij hj=>?_) ?_ g;rw[fS hm,fS hm,XO ⋯,XO ⋯];let⟨z1,z2,z3⟩:=al (0+m-1-j) (0+m-1-i) ⋯ ⋯;exact dD.mpr (.inr ⟨z2,z3⟩);rw[fS hm,fS hm,XS ⋯,XO ⋯,show 0+m-1-(m-1)=0 by omega];rcases W.co (P'.pm.bd m ⋯) (P'.pm.bd 0 ⋯) (P'.pm.bd (m-1) ⋯) d' with x|x;exact x;rw[hc]at x;cases x
 rw[XS z];have m1:m=1:=by omega
 subst m1;exact zC W A (QQ _) ⋯ P' (λi j a b=>by omega) d' g
theorem pM(W:tj n lt)(A:xp cmp n lt s){k:Nat}(P:Px n k p)(hk:k<n)(hs:Asc (ltS lt) p k):∀(f l r:Nat) {Q:Nat->Q4->Prop},l<=r->r<=k->r-l<=f->(∀i,i<l->ltS lt (p.getD i 0) (p.getD k 0)=true)->(∀i,r<=i->i<k->ltS lt (p.getD k 0) (p.getD i 0)=true)->
  (∀l',l'<=k->(∀i,i<l'->ltS lt (p.getD i 0) (p.getD k 0)=true)->(∀i,l'<=i->i<k->ltS lt (p.getD k 0) (p.getD i 0)=true)->Q l' s)->(kas_place p k f l r).kasWp cmp Q s
 |0,l,r,Q,h1,h2,h3,h4,h5,q=>q l ⋯ h4 λi a b=>h5 i ⋯ b
 |f+1,l,r,Q,h1,h2,h3,h4,h5,q=>by
  unfold kas_place;by_cases e:l≥r;rw[XO e];exact q l ⋯ h4 λi a b=>h5 i ⋯ b;rw[XS e];have hM:(l+r) / 2<k:=by omega
  have bk:=P.pm.bd k hk;have bM:=P.pm.bd ((l+r) / 2) ⋯;refine A _ _ _ bk bM ?_;have gt:p.getD ((l+r) / 2) 0<=p.getD k 0:=by rw[P.hi k (QQ _) hk];exact YS (P.lo _ hM)
  rw[<-KP (lt:=lt) gt];cases hc:ltS lt (p.getD k 0) (p.getD ((l+r) / 2) 0)with
  |true=>
   refine pM W A P hk hs f l ((l+r) / 2) ⋯ ⋯ ⋯ h4 (λi a b=>?_) q;by_cases e2:i=(l+r) / 2;subst e2;exact hc;exact W.ok.tr bk bM (P.pm.bd _ ⋯) hc (hs _ i ⋯ b)
  |false=>
   have hc':=W.ok.tot bk bM (P.pm.ne' hk ⋯ ⋯) hc;refine pM W A P hk hs f ((l+r) / 2+1) r ⋯ ⋯ ⋯ (λi a=>?_) h5 q;by_cases e2:i=(l+r) / 2;subst e2;exact hc';exact W.ok.tr (P.pm.bd _ ⋯) bM bk (hs i ((l+r) / 2) ⋯ hM) hc'
theorem Px.bub{k l:Nat}(P:Px n k p)(hk:k<n)(hl:l<=k):Px n (k+1) (bubble p k (k-l)):=by
 have g:∀i,(bubble p k (k-l)).getD i 0=_:=λi=>k8 (by rw[P.pm.sz];exact hk) hl;refine⟨P.pm.bub hk hl,λi hi=>?_,λi a b=>?_⟩;rw[g];have:=P.hi k (QQ _) hk;split;omega;split;have:=P.lo (i-1) ⋯;omega;have:=P.lo i ⋯;omega;rw[g,XS ⋯,XS ⋯];exact P.hi i ⋯ b
theorem E8(W:tj n lt)(A:xp cmp n lt s):∀(f:Nat) (p:Array Nat) (k:Nat) {Q:Array Nat->Q4->Prop},Px n k p->k+f=n->Asc (ltS lt) p k->(∀p',Pm n p'->Asc (ltS lt) p' n->Q p' s)->(kas_bin f p k).kasWp cmp Q s
 |0,p,k,Q,P,h1,h2,q=>q p P.pm (by rw[<-h1];exact h2)
 |f+1,p,k,Q,P,h1,h2,q=>by
  unfold kas_bin;rw[KasT.kasWp_bind];refine pM W A (k:=k) P ⋯ h2 k 0 k (Zh _) (QQ _) ⋯ (λi a=>by omega) (λi a b=>by omega) λl a b c=>?_;exact E8 W A f _ (k+1) (P.bub ⋯ a) ⋯ (h2.bub P.pm ⋯ a b c) q
theorem Gd(W:tj n lt)(A:xp cmp n lt s){Q:Array Nat->Q4->Prop}(h1:1<=n)(q:∀p',Pm n p'->Asc (ltS lt) p' n->Q p' s):(kas_sort n).kasWp cmp Q s:=by
 unfold kas_sort;rw[KasT.kasWp_bind];have g:∀i,i<n->(List.toArray (ZO n)).getD i 0=i:=λi hi=>by simp[Array.getD,hi]
 refine DM W A h1 ⟨pK,λi hi=>by rw[g i ⋯];exact hi,λi _ b=>g i b⟩ λm p' a b P c=>?_;dsimp only;by_cases e:m<n;rw[XO e];rw[show max m 1=m by omega];exact E8 W A _ _ _ P ⋯ c q;rw[XS e];exact q p' P.pm (by rw[show n=m by omega];exact c)
end
def ltK(ks:List (Int×Int))(i j:Nat):Bool:=ltP (ks.getD i (0,0)) (ks.getD j (0,0))
theorem wkK(n:Nat)(ks:List (Int×Int)):tj n (ltK ks) where
 asym:=λ{i j} _ _ h=>by simp only[ltK,ltP,decide_eq_true_eq,decide_eq_false_iff_not]at *;omega
 co:=λ{i j k} _ _ _ h=>by simp only[ltK,ltP,decide_eq_true_eq]at *;omega
def tP(ks:List (Int×Int)):List Nat:=(ZO ks.length).mergeSort λi j=>!ltS (ltK ks) j i
def fG(ks:List (Int×Int)):(tP ks).Perm (ZO ks.length):=List.mergeSort_perm ..
theorem wt(ks:List (Int×Int)):(tP ks).Pairwise λi j=>ltS (ltK ks) j i=false:=by
 have ok:=λi j k:Nat=>(wkK (i+j+k+1) ks).ok;have:=List.pairwise_mergeSort (le:=λi j=>!ltS (ltK ks) j i) (λa b c h1 h2=>by
   have O:=ok a b c;simp only[X9]at *;by_cases e1:a=b;subst e1;exact h2;by_cases e2:b=c;subst e2;exact h1;exact O.asym ⋯ ⋯ (O.tr ⋯ ⋯ ⋯ (O.tot (i:=b) (j:=a) ⋯ ⋯ (λe=>e1 e.symm) h1) (O.tot (i:=c) (j:=b) ⋯ ⋯ (λe=>e2 e.symm) h2))) (λa b=>by
   have O:=ok a b 0;simp only[Bool.or_eq_true,X9];cases h:ltS (ltK ks) b a with
   |false=>exact .inl rfl
   |true=>exact .inr (O.asym ⋯ ⋯ h)) (ZO ks.length)
 exact this.imp λh=>by simpa using h
theorem GZ{ks:List (Int×Int)}{q:Array Nat}(P:Pm ks.length q)(A:Asc (ltS (ltK ks)) q ks.length):q.toList=tP ks:=by
 have hl:q.toList.length=ks.length:=by rw[ZY,P.sz]
 have gd:∀i (hi:i<q.toList.length),q.getD i 0=q.toList[i]:=λi hi=>by
  have hi':i<q.size:=by simpa using hi
  rw[XJ,Zb hi',Array.getElem_toList];rfl
 have O:=(wkK ks.length ks).ok;have p1:q.toList.Pairwise λi j=>ltS (ltK ks) j i=false:=by
  rw[List.pairwise_iff_getElem];intro i j hi hj hij;have z:=A i j hij ⋯;rw[gd i hi,gd j hj]at z;exact O.asym (iU P _ (YV _)) (iU P _ (YV _)) z
 have nd:q.toList.Nodup:=by
  rw[List.nodup_iff_pairwise_ne,List.pairwise_iff_getElem];intro i j hi hj hij;rw[<-gd i hi,<-gd j hj];exact P.ne i j hij ⋯
 have pr:q.toList.Perm (ZO ks.length):=by
  refine(List.perm_ext_iff_of_nodup nd List.nodup_range).mpr λx=>⟨λhx=>X5.mpr (iU P x hx),λhx=>?_⟩;refine Classical.byContradiction λhn=>?_;have:=List.Nodup.length_le_of_subset (XQ.mpr ⟨hn,nd⟩) (l₂:=ZO ks.length) λy hy=>by
   rcases Z8.mp hy with z|z;rw[z];exact hx;exact X5.mpr (iU P y z)
  simp only[QK,List.length_range]at this;omega
 refine List.Perm.eq_of_pairwise (λa b ha hb h1 h2=>?_) p1 (wt ks) (pr.trans (fG ks).symm);refine Classical.byContradiction λhn=>?_;have:=O.tot (iU P a ha) (X5.mp ((fG ks).mem_iff.mp hb)) hn h2;rw[h1]at this;cases this
section
variable{prog:Z7}{w:ZR}{A:ZE}{E:Q3->Q4->Prop}{a kS:Addr}{vs:List Q3}{q_:Array Q3}{n1 n2:Nat}{R:PySem.Fin->Q4->Prop}{ks:List (Int×Int)}
theorem wI{st:SortSt}(gk:s.heap.get? kS=some (seqObj "list" q_ n2))(ga:s.heap.get? a=some (seqObj "list" #[] n1))(hka:kS≠a)(zk:q_.size<=QU)(zs:(arrOf st).size<=QU)(hfl:failedOf st=none)
  (q:∀(h':Heap) (c:Nat),(∀b o,b≠a->b≠kS->s.heap.get? b=some o->h'.get? b=some o)->h'.objs.size=s.heap.objs.size->h'.get? a=some (seqObj "list" ((arrOf st).map (·.2)) c)->R (.done (.ret .none)) { s with heap:=h' }) :
  wpAny (ZQ prog w) A (ksk_tail a false n1 (.ref kS) st) R E s:=by
 have u1:=Heap.SameBut.update s.heap kS (YZ λ_=>(#[]:Array Q3));have ga1:=(u1.2 a hka.symm).trans ga;unfold ksk_tail;dsimp only;refine Q2 (listUpdate_at gk rfl (Q2 (wpAny_letGo (Q2 (seqEpoch_at ga1 rfl (Q2 (listUpdate_at ga1 rfl ?_ (Zh _) (Nat.le_succ_of_le ‹zs›))))))) zk (Zh _));rw[hfl];simp only[bne_self_eq_false,ZU,if_false];have u2:=Heap.SameBut.update (s.heap.update kS (YZ λ_=>(#[]:Array Q3))) a (YZ λ_=>(arrOf st).map (·.2));exact QJ (q _ _ (λb o h1 h2 e=>(u2.2 b h1).trans ((u1.2 b h2).trans e)) (by rw[Heap.size_update,Heap.size_update]) (get?_update_seq ga1 λ_=>(arrOf st).map (·.2)))
theorem Hk(gk:s.heap.get? kS=some (seqObj "list" q_ n2))(ga:s.heap.get? a=some (seqObj "list" #[] n1))(hka:kS≠a)(hp:jQ s.heap q_.toList ks)(hl:ks.length=vs.length)(h64:vs.length<64)
  (q:∀(h':Heap) (c:Nat),(∀b o,b≠a->b≠kS->s.heap.get? b=some o->h'.get? b=some o)->h'.objs.size=s.heap.objs.size->h'.get? a=some (seqObj "list" ((tP ks).map λi=>vs.getD i Value.none).toArray c)->R (.done (.ret .none)) { s with heap:=h' }) :
  wpAny (ZQ prog w) A (ksk_end a false vs.toArray n1 (.ref kS) q_) R E s:=by
 have lk:=rn hp;rw[ZY]at lk;have zl:vs.length<=QU:=by unfold QU;omega
 unfold ksk_end;dsimp only;simp only[ZU,if_false,QM];by_cases h2:vs.length<2;rw[XO h2,XO h2];refine Q2 (QJ ?_);rw[StateT.run_pure];refine Q2 (QJ (wI (st:=SortSt.mk' general' (q_.zip vs.toArray) #[] 7 none) gk ga hka ⋯ ?_ rfl λh' c k z g=>q h' c k z ?_));show(q_.zip vs.toArray).size<=_;rw[Array.size_zip];exact ZP (Nat.min_le_left _ _) ⋯;rw[g];have e:((tP ks).map λi=>vs.getD i Value.none)=vs:=by
  have pr:=fG ks;match ks,vs,hl,h2 with
  |[],[],_,_=>rw[List.Perm.eq_nil pr];rfl
  |[k],[v],_,_=>
   have:tP [k]=[0]:=List.perm_singleton.mp pr;rw[this];rfl
  |_::_::_,_::_::_,_,h2=>simp only[QK]at h2;omega
 have e2:Array.map (λx=>x.snd) (arrOf (SortSt.mk' general' (q_.zip vs.toArray) #[] 7 none))=vs.toArray:=by
  show(q_.zip vs.toArray).map (·.2)=_;apply Array.toList_inj.mp;rw[Array.toList_map,ksk_zip,List.map_snd_zip (by have:=ZY (xs:=q_);omega)]
 rw[e,e2];rw[XS h2,XS h2];have ek:q_=q_.toList.toArray:=by simp
 refine Q2 ?_;rw[ek];refine xI hp (by rw[ZY];omega) ?_;rw[<-ek];refine Q2 (ZN (kat_run (ks:=q_.toList) (vs:=vs) (κ:=tuples' true) (Q:=λst' s'=>∃p:Array Nat,arrOf st'=Array.map (kas_item (q_.toList.toArray.zip vs.toArray)) p/\failedOf st'=none/\s'=s/\p.size=vs.length/\p.toList=tP ks)
  (G:=λp s'=>s'=s/\p.toList=tP ks) (by rw[ZY];omega) ⋯ h64 (λp st' s' h1 h2 h3 h4=>⟨p,h2,h3,h4.1,h1,h4.2⟩) ?_) (λr s' hr=>?_) λ_ _ e=>e)
 refine Gd (lt:=ltK ks) (wkK _ ks) (λi j C hi hj hC=>?_) ⋯ λp' P Sd=>⟨rfl,GZ (by rw[hl];exact P) (by rw[hl];exact Sd)⟩;exact GU (mI hp ⋯) (mI hp ⋯) hC;let⟨u,st'⟩:=r;let⟨p,RD,Q_,rfl,hps,hpo⟩:=hr;have hout:=kat_snds (ks:=q_.toList) (vs:=vs) (by rw[ZY];omega) RD;refine wI gk ga hka ⋯ ?_ Q_ λh' c k z g=>q h' c k z ?_;rw[RD,Array.size_map];omega;rw[g,hout,hpo]
end
def Bp(cb:CE)(su:U):List Int->Sto->Option (List (Int×Int)×Sto)
 |[],S=>some ([],S)
 |n::ns,S=>(cb [some (.int n),some su] S).bind λr=>match r.1 with
  |.tup [.int x,.int y]=>(Bp cb su ns r.2).bind λt=>some ((x,y)::t.1,t.2)
  |_=>none
def o9(ks:List (Int×Int))(ns:List Int):List Int:=(tP ks).map λi=>ns.getD i 0
open Classical in
def xh(z:O)(k:Nat)(co cb:CE):CE:=λρ S=>(co ρ S).bind λr=>match r.1 with
 |.ref l=>match r.2[l]? with
  |some (.dic kus)=>(pY kus).bind λns=>if ns.length<64/\∃j:Nat,r.2[j]?=some z then(ρ[k]?).join.bind λsu=>(Bp cb su ns r.2).bind λt=>some (.ref t.2.length,t.2++[.lst ((o9 t.1 ns).map U.int)])else none
  |_=>none
 |_=>none
theorem l8{cb:CE}{su:U}:∀{ns:List Int} {S:Sto} {t:List (Int×Int)×Sto},Bp cb su ns S=some t->t.1.length=ns.length
 |[],S,t,h=>by cases h;rfl
 |n::ns,S,t,h=>by
  unfold Bp at h;let⟨⟨u,S1⟩,h1,h⟩:=Q0.mp h;dsimp only at h;split at h;let⟨t',h2,h3⟩:=Q0.mp h;cases h3;simp[l8 h2];cases h
def LS(K:Q1)(H:Hp)(v:Q3)(p:Int×Int):Prop:=∃b,v=.ref b/\SqT K H b [.int p.1,.int p.2]
theorem oJ{X:Cx}{b_:List (Addr×Obj)}{σ:L2.St}{H:Hp}{s:Q4}(I:Inv X b_ σ H s):∀{vs:List Q3} {ks:List (Int×Int)},Paired (LS X.K H) vs ks->jQ s.heap vs ks
 |_,_,.nil=>trivial
 |_,_,.cons r t=>by
  refine⟨?_,oJ I t⟩;let⟨b,rfl,sq⟩:=r;let⟨its,rv,⟨o,e,c,n,d⟩,_⟩:=I.tuple sq;match its,rv,d with
  |[_,_],.cons ⟨t1,rfl⟩ (.cons ⟨t2,rfl⟩ .nil),d=>exact⟨b,o,t1,t2,n,rfl,e,c,d⟩
theorem mJ{α β:Type}{F:α->β->Prop}{a:α}{b:β}:∀{l1:List α} {l2:List β},Paired F l1 l2->F a b->Paired F (l1++[a]) (l2++[b])
 |_,_,.nil,h=>.cons h .nil
 |_,_,.cons r t,h=>.cons r (mJ t h)
section
variable{X:Cx}{body:PySem.Expr}{cb:CE}{scope:XR}{params:Arguments}{x pa qual:Str}{k kr:Nat}{cx:Addr}
structure HQ(X:Cx)(body:PySem.Expr)(cb:CE)(scope:XR)(params:Arguments)(x pa qual:Str)(k kr:Nat)(cx:Addr):Prop where
 cel:X.env.cells.lookup x=some cx
 kin:X.env.kindOf x=some .cell
 nm:X.N[k]?=some x
 co:scope.isCoroutine=false
 gen:scope.isGenerator=false
 knd:scope.kind=.function
 nms:scope.names=[(pa,.local),(x,.free)]
 ne:pa≠x
 bnd:∀(cl:List (Str×Addr)) (pm c ctv u:Q3),bindArgs (kla_fn "<lambda>" qual params body scope cl pm c ctv) ⟨[u],[]⟩=pure [(pa,u)]
 bdy:∀(f:Addr) (cd:Q3) (A:ZE) (s:Q4) (H:Hp),eN kr (A.deeper (Lp qual scope s.heap.objs.size f cd [(x,cx)]))->QE (cxL X.prog X.w X.K X.mg X.base [pa,x] qual scope f cd [(x,cx)] A X.stack s H) body cb
theorem Dc{A:ZE}{b_:List (Addr×Obj)}{σ:L2.St}{ρ:Rho}{H:Hp}{s:Q4}{m:List Addr}{S S':Sto}{f c:Addr}{pm ctv:Q3}{n:Int}{t:Tok}{su u:U}{R:Q3->Q4->Prop}{E:Q3->Q4->Prop}(L:HQ X body cb scope params x pa qual k kr cx)
  (hA:vy X.prog X.w X.K X.mg X.base A X.stack s H) (hr:eN (kr+1) A) (I:Inv X b_ σ H s) (ho:s.heap.get? f=some (kla_obj "<lambda>" qual params body scope [(x,cx)] pm c ctv)) (hcd:s.heap.CodeRec (.ref c) qual)
  (sr:Sr X.K m S H) (lr:Lr X.K m H ρ σ) (hk:ρ[k]?=some (some su)) (h:cb [some (.int n),some su] S=some (u,S'))
  (q:∀v u' m' H' s',Inv X b_ σ H' s'->bS v u'->Ext X.K m H m' H'->Sr X.K m' S' H'->Is X.K m' H' v u->R u' s'):wpAny (ZQ X.prog X.w) A (call (.ref f) [.int n t]) R E s:=by
 let⟨sv,hs,iv⟩:=lr.at_ k su hk;let⟨mm,hmm,hl⟩:=I.loc;let⟨sval,rs,look⟩:=hl k x sv L.nm hs (.inr (.inl L.kin));have cel:s.heap.IsCell cx (some sval):=by
  rcases look with⟨z,_⟩|⟨_,c',e,z⟩;rw[L.kin]at z;cases z;rw[L.cel]at e;cases e;exact z
 have lk:∀y d,([(x,cx)]:List (Str×Addr)).lookup y=some d->y=x/\d=cx:=λy d e=>by
  rw[Zs]at e;by_cases z:(y == x)=true;rw[z]at e;cases e;exact⟨by simpa using z,rfl⟩;rw[show(y == x)=false by simpa using z]at e;cases e
 have nx:(x == pa)=false:=by simpa using λe=>L.ne e.symm
 have fr:scope.names.lookup x=some .free:=by rw[L.nms,Zs,nx];simp
 refine wpAny_call (codeAny_mono (Hg (p:=pa) (capN:=[x]) (vc:=[sv]) (v:=.int n) (te:=tE X.K cb) (Q:=λv H'=>∃m',Ext X.K m H m' H'/\Sr X.K m' S' H'/\Is X.K m' H' v u) hr.depth hA hr.hd ho hcd L.co L.gen L.knd (λy hy=>?_) ?_ (L.bnd _ _ _ _ _) ⟨t,rfl⟩ (λy z d a b=>(lk y d a).1.trans (lk z d b).1.symm) (λy hy=>?_) (λy d e=>?_) (.cons ⟨fr,cx,sval,?_,cel,rs⟩ .nil) (L.bdy f _ A s H (hr.deeper _)) ?_) λr s' hr'=>?_);rw[L.nms]at hy;rcases Z8.mp hy with e|hy;rw[e];exact λz=>nomatch z;rw[ZX.mp hy];exact λz=>nomatch z;rw[L.nms,Zs];simp
 ·rw[L.nms]at hy;simp only[Zs]at hy;by_cases z1:(y == pa)=true
  ·rw[z1]at hy;rcases hy with e|e<;>cases e
  ·rw[show(y == pa)=false by simpa using z1]at hy;by_cases z2:(y == x)=true;exact⟨cx,by rw[Zs,z2]⟩
   ·rw[show(y == x)=false by simpa using z2]at hy;rcases hy with e|e<;>cases e
 let⟨rfl,rfl⟩:=lk y d e;exact⟨⟨_,cel⟩,I.freeC _ _ L.cel⟩;rw[Zs];simp;refine⟨m,[some (.int n),some su],S,u,S',sr,⟨rfl,λi w e=>?_⟩,h,λm' v H' e sr' i'=>⟨m',e,sr',i'⟩⟩;match i,e with
 |0,e=>simp at e;subst e;exact⟨_,rfl,.int_⟩
 |1,e=>simp at e;subst e;exact⟨_,rfl,iv⟩
 |i+2,e=>simp at e
 let⟨u',rfl,ce⟩:=hr';let⟨v,H',I',rv,m',e,sr',i'⟩:=I.after ce;exact q v u' m' H' s' I' rv e sr' i'
theorem Df{A:ZE}{b_:List (Addr×Obj)}{σ:L2.St}{ρ:Rho}{H:Hp}{s:Q4}{m:List Addr}{S Sn:Sto}{f c a kS:Addr}{pm ctv:Q3}{su:U}{E:Q3->Q4->Prop}{vs:List Q3}{ns:List Int}{ks:List (Int×Int)}{e1:Nat}{oc:Obj}{R:PySem.Fin->Q4->Prop}(L:HQ X body cb scope params x pa qual k kr cx)
  (hE:∀s H,vy X.prog X.w X.K X.mg X.base X.A X.stack s H->vy X.prog X.w X.K X.mg X.base A X.stack s H) (hr:eN (kr+1) A) (I:Inv X ((f,kla_obj "<lambda>" qual params body scope [(x,cx)] pm c ctv)::(a,seqObj "list" #[] e1)::b_) σ H s) (hc:H c=some (.frz oc (.own 0))) (hcd:s.heap.CodeRec (.ref c) qual)
  (sr:Sr X.K m S H) (lr:Lr X.K m H ρ σ) (hk:ρ[k]?=some (some su)) (h:Bp cb su ns S=some (ks,Sn)) (hI:IntsAre vs ns) (h64:vs.length<64) (gk:s.heap.get? kS=some (seqObj "list" #[] 0)) (nk:H kS=none) (hka:kS≠a) (h0:X.s₀.heap.objs.size<=kS) (hL:kS≠X.env.locals) (hce:∀y d,X.env.cells.lookup y=some d->d≠kS) (hp:∀q∈X.pn++b_,q.1≠kS) (hf:f≠kS)
  (q:∀m' H' s' h' c',Inv X ((f,kla_obj "<lambda>" qual params body scope [(x,cx)] pm c ctv)::(a,seqObj "list" #[] e1)::b_) σ H' s'->Ext X.K m H m' H'->Sr X.K m' Sn H'->H' kS=none->(∀b o,b≠a->b≠kS->s'.heap.get? b=some o->h'.get? b=some o)->h'.objs.size=s'.heap.objs.size->h'.get? a=some (seqObj "list" ((tP ks).map λi=>vs.getD i Value.none).toArray c')->R (.done (.ret .none)) { s' with heap:=h' }) :
  wpAny (ZQ X.prog X.w) A (ksk_rest a (.ref f) false vs.toArray e1 (.ref kS)) R E s:=by
 have lk:=l8 h;have lv:=hI.length;dsimp only at lk;unfold ksk_rest;refine Q2 (wpAny_rule ?_);rw[List.forIn_toArray];refine Q2 (ksk_fold (λi s'=>∃m' S' H' kA e,Inv X ((f,kla_obj "<lambda>" qual params body scope [(x,cx)] pm c ctv)::(a,seqObj "list" #[] e1)::b_) σ H' s'/\Ext X.K m H m' H'/\Sr X.K m' S' H'/\Bp cb su (ns.drop i) S'=some (ks.drop i,Sn)/\s'.heap.get? kS=some (seqObj "list" kA e)/\H' kS=none/\Paired (LS X.K H') kA.toList (ks.take i)) vs 0 s
  ⟨m,S,H,#[],0,I,.refl,sr,h,gk,nk,.nil⟩ ?_ ?_)
 ·rintro j v s' hv ⟨m',S',H',kA,e,I',ex,sr',run,gk',nk',pr⟩;simp only[YR]at run pr ⊢;have hj:j<vs.length:=(Q8.mp hv).1;have hjn:j<ns.length:=by omega
  let⟨t,ht⟩:=hI.get j ns[j] (Q7 hjn);rw[hv]at ht;cases ht;rw[List.drop_eq_getElem_cons hjn]at run;unfold Bp at run;let⟨⟨u,S1⟩,r1,run⟩:=Q0.mp run;dsimp only at run;split at run<;>try cases run
  rename_i y z;let⟨t2,r2,r3⟩:=Q0.mp run;have hjk:j<ks.length:=by omega
  rw[List.drop_eq_getElem_cons hjk]at r3;injection r3 with r3;let⟨e2,e3⟩:=Prod.mk.inj r3;let⟨e4,e5⟩:=List.cons.inj e2;have gc:=(I'.hok c _ (ex.keep.c _ _ hc)).1;have hcd':s'.heap.CodeRec (.ref c) qual:=by
   let⟨c2,o2,vs2,t3,z1,z2,z3⟩:=hcd;cases z1;rw[(I.hok c _ hc).1]at z2;cases z2;exact⟨c,oc,vs2,t3,rfl,gc,z3⟩
  have pf:=I'.pin _ (Z9 _ (QH));refine Q2 (wpAny_attempt (ZN (Dc (E:=λ_ _=>False) L (hE _ _ I'.env0) hr (I'.pins_of (pins':=(kS,seqObj "list" kA e)::(f,kla_obj "<lambda>" qual params body scope [(x,cx)] pm c ctv)::(a,seqObj "list" #[] e1)::b_) λp hp'=>?_) pf.1 hcd' sr' (lr.mono ex) hk r1 (R:=λu' s2=>∃v m2 H2,Inv X ((kS,seqObj "list" kA e)::(f,kla_obj "<lambda>" qual params body scope [(x,cx)] pm c ctv)::(a,seqObj "list" #[] e1)::b_) σ H2 s2/\bS v u'/\Ext X.K m' H' m2 H2/\Sr X.K m2 S1 H2/\Is X.K m2 H2 v (.tup [.int y,.int z])) λv u' m2 H2 s2 a1 a2 a3 a4 a5=>⟨v,m2,H2,a1,a2,a3,a4,a5⟩) (λu' s2 hq=>?_) λ_ _ z=>z.elim));rcases Z8.mp hp' with z|hp';subst z;exact⟨gk',nk',hL,λw=>by
   let⟨_,o,ho,_⟩:=I.ok.funs.mem w;exact absurd (QN (QY ho) h0) (Zm _),λw z=>nomatch z⟩
  exact I'.pin p (Z9 _ hp');let⟨v,m2,H2,I2,rv,ex2,sr2,iv⟩:=hq;let⟨b,xs,rfl,sq,il⟩:=iv.of_tup;obtain rfl:u'=.ref b:=rv;have hxs:xs=[.int y,.int z]:=(il.ints (ns:=[y,z]));subst hxs;let⟨gk2,nk2,_⟩:=I2.pin _ (Z9 _ (QH));have zk:kA.size<=vs.length:=by
   have:=pr.length;rw[ZY,List.length_take]at this;omega
  have u1:=Heap.SameBut.update s2.heap kS (YZ (·.push (.ref b)));dsimp only;refine Q2 (listUpdate_at gk2 rfl (QJ ⟨rfl,m2,S1,H2,kA.push (.ref b),_,?_,ex.trans ex2,sr2,?_,get?_update_seq gk2 (·.push (.ref b)),nk2,?_⟩) (by unfold QU;omega) (ZP (Nat.le_of_eq (Array.size_push ..)) (by unfold QU;omega)));have I3:Inv X ((f,kla_obj "<lambda>" qual params body scope [(x,cx)] pm c ctv)::(a,seqObj "list" #[] e1)::b_) σ H2 s2:=I2.pins_of λp hp'=>I2.pin p (Z9 _ (QZ _ hp'));refine I3.turned (t':=s2.toks) (it:=kS) (λb o nb e=>(u1.2 b nb).trans e) nk2 hL (.inr h0) hce λp hp'=>?_;rcases ZF.mp hp' with w|w;exact hp p (List.mem_append_left _ w);rcases Z8.mp w with w|w;rw[w];exact hf;rcases Z8.mp w with w|w;rw[w];exact Ne.symm hka;exact hp p (Z9 _ w);rw[<-e5,<-e3];exact r2;rw[List.take_add_one,Q7 hjk,<-e4];simp only[Option.toList_some,Array.toList_push];exact mJ (Paired.mapP pr λv p ⟨b,z1,z2⟩=>⟨b,z1,ex2.keep.t _ _ z2⟩) ⟨b,rfl,sq⟩
 rintro s' ⟨m',S',H',kA,e,I',ex,sr',run,gk',nk',pr⟩;simp only[YR]at run pr;rw[show ns.drop vs.length=[]from List.drop_eq_nil_of_le ⋯,show ks.drop vs.length=[]from List.drop_eq_nil_of_le ⋯]at run;unfold Bp at run;injection run with run;let⟨_,e3⟩:=Prod.mk.inj run;subst e3;rw[List.take_of_length_le ⋯]at pr;have pa':=I'.pin _ (Z9 _ (QZ _ (QH)));refine Q2 (listItems_at gk' rfl (Hk gk' pa'.1 hka (oJ I' pr) ⋯ h64 λh' c' k1 k2 k3=>q m' H' s' h' c' I' ex sr' nk' k1 k2 k3))
theorem DZ{acc:Array Q3}{ns:List Int}{vs:List (Key×Q3)}(ks:vs.map (·.1)=ns.map Sum.inl)(h1:acc.size=vs.length)(h2:∀(i:Nat) (v:Q3),acc[i]?=some v->∃k x,vs[i]?=some (k,x)/\pZ k v=true):IntsAre acc.toList ns:=by
 have key:∀(i:Nat) (v:Q3),acc.toList[i]?=some v->∃(n:Int) (t:Tok),ns[i]?=some n/\v=Value.int n t:=λi v e=>by
  let⟨k,x,e1,e2⟩:=h2 i v (by rw[<-XG];exact e);have e3:(vs.map (·.1))[i]?=some k:=by rw[ZH,e1];rfl
  rw[ks,ZH]at e3;let⟨n,e4,e5⟩:=Zq.mp e3;subst e5;rcases br (k:=Sum.inl n) e2 with⟨j,t,e6,e7⟩|⟨j,t,e6,e7⟩;cases e6;exact⟨n,t,e4,e7⟩;cases e6
 have hla:acc.toList.length=ns.length:=by have:=congrArg List.length ks;rw[ZY,h1];simpa using this
 clear h2 h1 ks;generalize acc.toList=l at key hla;induction l generalizing ns with
 |nil=>cases ns with
  |nil=>exact .nil
  |cons a b=>simp at hla
 |cons a b ih=>cases ns with
  |nil=>simp at hla
  |cons c d=>
   let⟨n,t,e1,e2⟩:=key 0 a nofun;simp at e1;subst e1;subst e2;exact .cons _ t (ih (λi v e=>by have:=key (i+1) v ‹e›;simpa using this) ‹hla›)
theorem _root_.L2.Inv.turnedC{X:Cx}{b_:List (Addr×Obj)}{σ:L2.St}{H:Hp}{s:Q4}{h':Heap}(ch:List Addr)(I:Inv X b_ σ H s)(k:∀b o,b∉ch->s.heap.get? b=some o->h'.get? b=some o)
  (hc:∀b∈ch,H b=none/\b≠X.env.locals/\X.s₀.heap.objs.size<=b/\(∀x c,X.env.cells.lookup x=some c->c≠b)/\∀p∈X.pn++b_,p.1≠b):Inv X b_ σ H { s with heap:=h' }:=by
 have nit:∀b u,H b=some u->b∉ch:=λb u e z=>by rw[(hc b z).1]at e;cases e
 refine I.step (g':=s.gens) (d':=s.drawn) (t':=s.toks) (ch:=ch) (λb hb=>⟨.inr (hc b hb).2.2.1,(hc b hb).2.1,(hc b hb).2.2.2.1,(hc b hb).2.2.2.2⟩) (λb o _ _ hb e _=>k b o hb e) (λb o _ _ hb e _=>⟨o.slots,k b o hb e⟩) (λ_ _ _ _ n=>n)
  (λb o hb e=>⟨o,k b o hb e⟩) (λ_ _ e=>e) (λ_ _ _ e=>e) (λb ps e=>⟨#[],by rw[e];simp⟩) (λm hm=>?_) (λb u e=>?_) I.bare
 let⟨o,es,ep,ho,r⟩:=hm;exact⟨o,es,ep,k _ o (λz=>(hc _ z).2.1 rfl) ho,r⟩;refine(I.hok b u e).stay (λc v hc' q=>k c v ?_ q) (λ_ q=>q) λ_ _ q=>q;rcases hc' with rfl|z;exact nit _ _ e;exact nit _ _ z
def nU{a b:Nat}(h:a<b):a≠b:=ZZ h
def ux{a b:Nat}(h:b<a):a≠b:=XH h
abbrev lN(a b:Nat):Prop:=a<b
theorem Gr{o:PySem.Expr}{co:CE}{c p:Addr}{p1 RO Sf pos:Pos}(L:HQ X body cb scope params x pa (X.env.qual++"<lambda>") k kr cx)(hr:eN (kr+3) X.A)(hcm:X.calm=true)(hg:Gl X "sorted")(hm:X.mg "sorted"=none)(hv:ZS "sorted"=some (.builtin "sorted"))(ho:QE X o co)
  (S8:X.env.code=.ref c) (C:codeHdIn X.K c p=true) (B:Bo X.mg X.base) (hcl:closureFor scope X.env=pure [(x,cx)]) (Sb:defaultsOf params X.env=([],[]))
  (he:Q6 [o] X.env=(false,eval o X.env)::Q6 [] X.env:=by rfl) (hpl:(ZL pos (Q6 [o] X.env)).any (·.1)=false:=by rfl) :
  QE X (.Call (.Name "sorted" p1) [o] [⟨some "key",.Lambda params body scope RO,Sf⟩] pos) (xh (.cod p RO (X.env.qual++"<lambda>")) k co cb):=⟨λb_ s σ H Q I hz=>kY hz λm ρ S u S' sr lr hc post=>by
 let⟨⟨w,S1⟩,h1,hc⟩:=Q0.mp hc;dsimp only at hc;split at hc<;>try cases hc
 rename_i l;split at hc<;>try cases hc
 rename_i kus hS;let⟨ns,hn,hc⟩:=Q0.mp hc;split at hc<;>try cases hc
 rename_i cond;let⟨h64,j,hj⟩:=cond;let⟨su,hk,hc⟩:=Q0.mp hc;let⟨⟨ks,Sn⟩,run,hc⟩:=Q0.mp hc;injection hc with hc;let⟨rfl,rfl⟩:=Prod.mk.inj hc;have hk':ρ[k]?=some (some su):=Option.join_eq_some_iff.mp hk;refine wpAny_Call_Name_kw (oI I hg hm hv (callWith_kw (thn ((ae ho ay he).h.h pos b_ s σ H (λvs H1=>∃m1,Ext X.K m H m1 H1/\Sr X.K m1 S1 H1/\IsL X.K m1 H1 vs [.ref l]) I ⟨m,ρ,S,[.ref l],S1,sr,lr,?_,λm1 vs H1 e sr1 i1=>⟨m1,e,sr1,i1⟩⟩) λus s1 hu=>?_) (by rw[he];rfl) hpl));simp[ag,aE,h1];let⟨vs,H1,I1,rv,m1,e1,sr1,il⟩:=hu;let⟨v,rfl,iv⟩:=il.one;let⟨ad,had,rfl⟩:=iv.of_ref;let⟨uv,rfl,ru⟩:=lL rv;obtain rfl:uv=.ref ad:=ru;let⟨aj,haj,rfl,ps,hps,htr,hit⟩:=sr1.get hj;have kI:X.K.In X.base:=I.mod.kin;refine kws_cons (kla_eval Sb (C9 I1 S8 (codeHd_of_K kI C) B hps htr hcl hit λf c' pm ctv ps' H2 s2 I2 hsz nf gf hcd keep hp2 ht2 RP s_ hnc=>kws_nil ?_));let⟨oc,vsc,tc,ha1,ha2,ha3,ha4⟩:=RP;have st:Ext X.K m1 H1 m1 H2/\Sr X.K m1 S1 H2:=by
  rcases hnc with hnc|rfl;have ncp:c'≠aj:=λz=>by rw[z,hps]at hnc;cases hnc
  have eH:H2=upd (upd H1 c' (.frz oc (.own 0))) aj (.tbl ps'):=by
   funext b;by_cases b1:b=aj;subst b1;rw[aF];exact hp2;rw[aH b1];by_cases b2:b=c';subst b2;rw[aF];exact ha2;rw[aH b2];exact s_ b b1 b2
  have sA:=fQ (o:=.frz oc (.own 0)) hnc;have srA:=sr1.same sA;have srB:=srA.put (ho:=.tbl ps') (o:=.cod aj RO (X.env.qual++"<lambda>")) haj ⟨rfl,ps',aF,ht2,.inr ⟨c',oc,vsc,tc,ha1,by rw[aH ncp,aF],ha3,ha4⟩⟩;have eS:S1.set j (.cod aj RO (X.env.qual++"<lambda>"))=S1:=by
   let⟨hlt,e⟩:=Q8.mp hj;rw[<-e];exact List.set_getElem_self hlt
  rw[eS]at srB;rw[eH];exact⟨Ext.trans (.of (cq sA)) (.of (srA.keep haj _)),srB⟩;exact⟨.refl,sr1⟩
 let⟨e2,sr2⟩:=st;let⟨ad',had',kvs,hD,ip⟩:=sr2.get hS;rw[had]at had';cases had';let⟨z,hd,vd,rel,dd⟩:=qt I2.hok hD;let⟨ep,da⟩:=dd.dictAt;have hkk:kvs.map (·.1)=ns.map Sum.inl:=by rw[ip.1,pX hn]
 have lkv:kvs.length=ns.length:=by have:=congrArg List.length hkk;simpa using this
 have lv:vd.length=ns.length:=by rw[<-Paired.length rel];exact lkv
 have kd:vd.map (·.1)=ns.map Sum.inl:=by rw[<-hkk];exact uD rel
 show wpAny (ZQ X.prog X.w) X.A (call (.builtin "sorted") [.ref ad] [(Str.ofString "key",.ref f)]) _ _ s2;refine call_function_entry_kw kind_sorted plain_sorted entry_sorted (ksk_s1 _ _) ?_;unfold Builtin.«sorted»;refine Q2 (m:=checkCount "sorted" 1 1 _) (QJ (Q2 (PySem.W.kdu_collect (PySem.W.kdl_dict (kvs:=vd) (ep:=ep) hd) (show X.A.in1.handled=none from I.ok.hd hcm) da (by rw[lv,<-lkv];exact z) λh1' tk acc up hac=>?_)));have hI:=DZ kd hac.1 hac.2;have hla:acc.toList.length=ns.length:=hI.length;have I3:Inv X b_ σ H2 { s2 with heap:=h1',toks:=tk }:=I2.kept up;refine Q2 (wpAny_newList ?_ (by rw[hla,<-lkv];exact z));have gL:(h1'.push { cls:=.type "list",data:=.seq acc.toList.toArray }).get? h1'.objs.size=some (seqObj "list" acc.toList.toArray 0):=Z0 _ rfl;refine Q2 (wpAny_holding (wpAny_call_entry_kw slot_list_sort ⟨_,gL,rfl⟩ entry_list_sort ?_ (ksk_l1 _ _)));rw[ksk_t1];generalize ea:h1'.objs.size=a at *;have zl:acc.toList.length<=QU:=by unfold QU;omega
 unfold ksk_tree;obtain⟨n1,g1⟩:∃n1,((h1'.push { cls:=.type "list",data:=.seq acc.toList.toArray }).update a (YZ λ_=>#[])).get? a=some (seqObj "list" #[] n1):=⟨_,get?_update_seq gL λ_=>#[]⟩;refine Q2 (listItems_at gL rfl (Q2 (listUpdate_at gL rfl (Q2 (seqEpoch_at g1 rfl (Q2 (wpAny_newTuple (Q2 (wpAny_newList (wpAny_holding ?_) (Zh _))) ‹zl›)))) ‹zl› (Zh _))));have sz:((h1'.push { cls:=.type "list",data:=.seq acc.toList.toArray }).update a (YZ λ_=>(#[]:Array Q3))).objs.size=a+1:=by rw[Heap.size_update,XN,ea]
 generalize eh:(((h1'.push { cls:=.type "list",data:=.seq acc.toList.toArray }).update a (YZ λ_=>(#[]:Array Q3))))=h2 at *;have keep2:∀b o,h1'.get? b=some o->h2.get? b=some o:=λb o e=>by
  have lt:=QY e;rw[<-eh,Heap.get?_update_ne _ _ _ _ (nU (by rw[<-ea];exact lt))];exact Q5 _ e
 have keep4:∀b o,h1'.get? b=some o->((h2.push (seqObj "tuple" acc.toList.toArray 0)).push (seqObj "list" #[] 0)).get? b=some o:=λb o e=>Q5 _ (Q5 _ (keep2 b o e));have szk:(h2.push (seqObj "tuple" acc.toList.toArray 0)).objs.size=a+2:=by rw[XN,sz]
 have I4:Inv X b_ σ H2 { s2 with heap:=(h2.push (seqObj "tuple" acc.toList.toArray 0)).push (seqObj "list" #[] 0),toks:=tk }:=I3.kept keep4;have loc:lN X.env.locals a:=by have:=I3.lt;rw[<-ea];exact this
 have s0:@LE.le Nat _ X.s₀.heap.objs.size a:=by have:=I3.sz;rw[<-ea];exact this
 have cel:∀y d,X.env.cells.lookup y=some d->lN d a:=λy d e=>by
  let⟨v,o,ho,_⟩:=I3.cell y d e;rw[<-ea];exact QY ho
 have pnl:∀q∈X.pn++b_,lN q.1 a:=λq hq=>by rw[<-ea];exact QY (I3.pin q hq).1
 have frl:∀b:Nat,@LE.le Nat _ a b->b∉X.fs:=λb hb w=>by
  let⟨_,o,ho,_⟩:=I.ok.funs.mem w;exact absurd (QN (QY ho) (ZP s0 hb)) (Zm _)
 have fa:lN f a:=by rw[<-ea];exact QY (up _ _ gf)
 have ff:f∉X.fs:=λw=>by
  let⟨_,o,ho,_⟩:=I.ok.funs.mem w;exact absurd (QN (QY ho) (ZP I1.sz hsz)) (Zm _)
 have fl:f≠X.env.locals:=ux (QN I1.lt hsz);have I5:=I4.pins_of (pins':=(f,kla_obj "<lambda>" (X.env.qual++"<lambda>") params body scope [(x,cx)] pm c' ctv)::(a,seqObj "list" #[] n1)::b_) λq hq=>by
  rcases Z8.mp hq with w|hq;subst w;exact⟨keep4 _ _ (up _ _ gf),nf,fl,ff,λv z=>nomatch z⟩;rcases Z8.mp hq with w|hq;subst w;exact⟨Q5 _ (Q5 _ g1),I3.hok.fresh (by rw[ea];exact QQ _),ux loc,frl a (QQ _),λv z=>nomatch z⟩;exact I4.pin q (Z9 _ hq)
 have hcd4:((h2.push (seqObj "tuple" acc.toList.toArray 0)).push (seqObj "list" #[] 0)).CodeRec (.ref c') (X.env.qual++"<lambda>"):=⟨c',oc,vsc,tc,rfl,keep4 _ _ (up _ _ (I2.hok c' _ ha2).1),ha3,ha4⟩;refine Df (E:=X.xe) (s:={ s2 with heap:=(h2.push (seqObj "tuple" acc.toList.toArray 0)).push (seqObj "list" #[] 0),toks:=tk }) L (λs H e=>e.in1.in1) hr.in1.in1 I5 ha2 hcd4 sr2 ((lr.mono e1).mono e2) hk' run hI ⋯ (kS:=(h2.push (seqObj "tuple" acc.toList.toArray 0)).objs.size) (Z0 _ rfl) (I3.hok.fresh (show @LE.le Nat _ h1'.objs.size _ by rw[ea,szk];omega)) (ux (by rw[szk];omega)) (show @LE.le Nat _ _ _ by rw[szk];omega) (ux (by rw[szk];omega)) (λy d e=>nU (by rw[szk];have:=cel y d e;omega)) (λq hq=>nU (by rw[szk];have:=pnl q hq;omega)) (nU (by rw[szk];omega)) λm3 H3 s3 h3 c3 I6 e3 sr3 nk3 k1 k2 k3=>?_;refine⟨_,rfl,QJ ⟨_,rfl,?_⟩⟩;have pa':=I6.pin (a,seqObj "list" #[] n1) (Z9 _ (QZ _ QH));have I7:Inv X b_ σ H3 s3:=I6.pins_of λq hq=>I6.pin q (Z9 _ (QZ _ (QZ _ hq)));have I8:Inv X b_ σ H3 { s3 with heap:=h3 }:=Inv.turnedC [a,(h2.push (seqObj "tuple" acc.toList.toArray 0)).objs.size] I7 (λb o hb e=>k1 b o (λz=>hb (by simp[z])) (λz=>hb (by simp[z])) e) λb hb=>by
  rcases Z8.mp hb with w|hb;subst w;exact⟨pa'.2.1,ux loc,s0,λy d e=>nU (cel y d e),λq hq=>nU (pnl q hq)⟩;rw[ZX.mp hb,szk];exact⟨by rw[<-szk];exact nk3,ux ⋯,show @LE.le Nat _ _ _ by omega,λy d e=>nU (by have:=cel y d e;omega),λq hq=>nU (by have:=pnl q hq;omega)⟩
 have lo:∀i∈tP ks,i<ns.length:=λi hi=>by
  have:=X5.mp ((fG ks).mem_iff.mp hi);rw[l8 run]at this;exact this
 have vl:bE ((o9 ks ns).map V.int) ((tP ks).map λi=>acc.toList.getD i Value.none):=by
  unfold o9;generalize tP ks=is at lo;induction is with
  |nil=>exact .nil
  |cons i r ih=>
   refine .cons ?_ (ih λb hb=>lo b (QZ _ hb));have hi:=lo i QH;let⟨t,ht⟩:=hI.get i ns[i] (Q7 hi);dsimp only;rw[ZV,ZV,ht,Q7 hi];exact⟨t,rfl⟩
 have lz:((o9 ks ns).map V.int).length<=QU:=by
  have:=(fG ks).length_eq;rw[List.length_range,l8 run]at this;rw[QX];unfold o9;rw[QX,this];unfold QU;omega
 have I9:=I8.adopt (c:=a) (u:=.lst ((o9 ks ns).map V.int)) ⟨lz,_,c3,vl,k3⟩ pa'.2.1 s0 (ux loc) (λy d e=>nU (cel y d e)) (λq hq=>nU (pnl q hq));exact⟨.ref a,_,I9,rfl,dC sr3 (jl _) (post.mono (((e1.trans e2).trans e3))) pa'.2.1⟩⟩
end
end OP
namespace L2
open PySem PySem.Spec PyProof.Rows OG
def Ec(p:Addr)(H:Hp):Prop:=H p=some (.tbl #[])/\∀b,b≠p->H b=none\/∃o xs,H b=some (.frz o (.lst xs))
theorem Af{P:Z7}{w:ZR}{K:Q1}{mg mb:Str->Option Q3}{k:Nat}{fa a p:Addr}{fd:Zo}{x:Str}{sp:Sp}{s₁:Q4}{vs:List Q3}{ns:List Int}
  (KX:K.In s₁.heap) (hns:s₁.heap.Ns mainGlobals mg) (hb:s₁.heap.Ns builtinsNs mb) (hbb:∀x:Str,x≠"__name__"->mb x=ZS x) (Sh:s₁.heap.NoLimit) (hg:s₁.gens=#[]) (hbm:Bo mg s₁.heap)
  (hp:s₁.heap.get? p=some (PySem.W.tabObj #[])) (hpK:K.lookup p=none) (hpc:isCodeTable s₁.heap p)
  (ha:s₁.heap.get? a=some { cls:=.type "list",data:=.seq vs.toArray }) (hi:IntsAre vs ns) (hl:ns.length<=QU) (hr:eN k callerA)
  (F:∀base:Heap,K.In base->base.Ns mainGlobals mg->Bo mg base->kF P w K mg base CX0 k fa fd [x] sp) (RK:∀(s:Q4) (u:Q3),BindsTo s fd ⟨[u],[]⟩ [(x,u)])
  (hsp:∀H:Hp,Ec p H->SqL K H a (ns.map V.int)->sp [.ref a] H (λv _=>v=.bl true) λ_ _ _=>False) :
  codeAny (ZQ P w) callerA (.call (.ref fa) ⟨[.ref a],[]⟩) (λr s'=>r=.ok (.ret (.bool true))/\OldK s₁.heap s'.heap/\s'.os=s₁.os/\AllBare s'.gens) s₁:=by
 have rv:=iF hi;have lenV:=hi.length;have nap:a≠p:=λz=>by rw[z,hp]at ha;cases ha
 have RL:∀H:Hp,Ec p H->SqL K H a (ns.map V.int)->HOk P w H s₁.heap->(∀b,H b≠none->b=a\/b=p)->(H a≠none->K.lookup a=none)->
   codeAny (ZQ P w) callerA (.call (.ref fa) ⟨[.ref a],[]⟩) (λr s'=>r=.ok (.ret (.bool true))/\OldK s₁.heap s'.heap/\s'.os=s₁.os/\AllBare s'.gens) s₁:=by
  intro H hO hS hok hA hK;have noA:∀{b:Addr} {o:Obj},s₁.heap.get? b=some o->(∀its n,o.data≠.seq its n)->(∀vs,o.data≠.fields vs)->H b=none:=λ{b o} e d1 d2=>by
   cases q:H b with
   |none=>rfl
   |some u=>
    rcases hA b (by rw[q];simp)with z|z;subst z;rw[ha]at e;cases e;exact absurd rfl (d1 _ _);subst z;rw[hp]at e;cases e;exact absurd rfl (d2 _)
  have nsK:∀{b:Addr} {m:Str->Option Q3},s₁.heap.Ns b m->(Dp s₁.heap H).Ns b m:=λ{b m} ⟨o,es,ep,e,d,r⟩=>⟨o,es,ep,p8 e (noA e (by rw[d];intro _ _ z;cases z) (by rw[d];intro _ z;cases z)),d,r⟩;have hKb:K.In (Dp s₁.heap H):=λb o e=>p8 (KX b o e) (by
   cases q:H b with
   |none=>rfl
   |some u=>
    rcases hA b (by rw[q];simp)with z|z;subst z;rw[hK (by rw[q];simp)]at e;cases e;subst z;rw[hpK]at e;cases e)
  have hM:Mod K mg (Dp s₁.heap H):=⟨hKb,nsK hns,⟨mb,nsK hb,hbb⟩,let ⟨mc,h1,h2⟩:=Sh;⟨mc,nsK h1,h2⟩⟩;have hB:Bo mg (Dp s₁.heap H):=by
   let⟨bm,ob,b1,b2,b3,b4,b5,b6⟩:=hbm;exact⟨bm,ob,b1,b2,p8 b3 (noA b3 (by rw[b6];intro _ _ z;cases z) (by rw[b6];intro _ z;cases z)),b4,b5,b6⟩
  have e0:vy P w K mg (Dp s₁.heap H) callerA [] s₁ H:=⟨rfl,hM,λb o e=>G6 e,Nat.le_of_eq (Ay _ _),trivial,λb hb=>absurd (show b∈([]:List Addr)from hb) nofun,hok,.of_eq hg⟩;refine codeAny_mono ((F _ hKb (nsK hns) hB).run callerA [] s₁ H ⟨[.ref a],[]⟩ [.ref a] [.ref a] _ _ hr e0 (RK s₁ (.ref a)) (.cons rfl .nil) (hsp H hO hS)) λr s' h=>?_;cases r with
  |error e=>exact h.elim
  |ok fl=>
   cases fl with
   |next=>exact False.elim h
   |brk=>exact False.elim h
   |cont=>exact False.elim h
   |ret u=>
    let⟨v,H',os,bare,un,hok',r',q⟩:=h;have q':v=.bl true:=q;subst q';obtain rfl:u=Value.bool true:=r';have kp:∀b o,b≠p->s₁.heap.get? b=some o->s'.heap.get? b=some o:=λb o nb e=>by
     cases q:H b with
     |none=>exact un.keep b o e q (by intro z;exact absurd (show b∈([]:List Addr)from z) nofun) nofun
     |some u=>
      rcases hO.2 b nb with z|⟨ob,xs,z⟩;rw[q]at z;cases z;have z2:=un.frzs b ob _ z;let⟨e1,_⟩:=hok b _ z;let⟨e2,_⟩:=hok' b _ z2;rw[e]at e1;cases e1;exact e2
    let⟨y_,hm⟩:=un.tbls p _ hO.1;have gp:s'.heap.get? p=some { cls:=.none,data:=.fields (#[]++y_) }:=hok' p _ hm;refine⟨rfl,⟨λb o e=>?_,λb o e=>?_⟩,os,bare⟩;by_cases z:b=p;subst z;rw[hp]at e;cases e;exact .inr (.inl ⟨hpc,rfl,#[],y_,rfl,gp⟩);exact .inl (kp b o z e);by_cases z:b=p;subst z;exact⟨_,gp⟩;exact⟨o,kp b o z e⟩
 cases hk:K.lookup a with
 |some o=>
  have e:=KX a o hk;rw[ha]at e;cases e;refine RL (upd (λ_=>none) p (.tbl #[])) ⟨aF,λb nb=>.inl (by rw[aH nb])⟩ (.inr ⟨_,vs.toArray,_,hk,rfl,rfl,rfl,by rw[QM,lenV];exact hl,by simpa using rv⟩) (λb u z=>?_) (λb z=>?_) λz=>absurd (by rw[aH nap]) z;by_cases nb:b=p;subst nb;rw[aF]at z;cases z;exact hp;rw[aH nb]at z;cases z;by_cases nb:b=p;exact .inr nb;exact absurd (by rw[aH nb]) z
 |none=>
  refine RL (upd (upd (λ_=>none) a (.frz { cls:=.type "list",data:=.seq vs.toArray } (.lst (ns.map V.int)))) p (.tbl #[])) ⟨aF,λb nb=>?_⟩ (.inl (.inr ⟨{ cls:=.type "list",data:=.seq vs.toArray },by rw[aH nap];exact aF⟩)) (λb u z=>?_) (λb z=>?_) λ_=>hk;rw[aH nb];by_cases hb:b=a;subst hb;exact .inr ⟨_,_,aF⟩;exact .inl (by rw[aH hb]);by_cases nb:b=p;subst nb;rw[aF]at z;cases z;exact hp;rw[aH nb]at z;by_cases hb:b=a;subst hb;rw[aF]at z;cases z;exact⟨ha,by rw[QX];exact hl,vs,_,rv,ha⟩;rw[aH hb]at z;cases z;by_cases nb:b=p;exact .inr nb;rw[aH nb]at z;by_cases hb:b=a;exact .inl hb;exact absurd (by rw[aH hb]) z
theorem BO{l:PySem.W.OpenLaw}{n k:Nat}{q:Z7}{de:List Str}{XP:(Str->Option Q3)->Heap->Prop}{YP:ZR->Heap->Prop}{d:DefRec}{K:Params->Q1}{sp:ZR->Sp}{x:Str}{p:Addr}
  (hn:l.most=some n) (hn2:n<=QU) (hdf:d.params.defaults=[]) (hr:eN k callerA)
  (hY:∀(w:ZR) (h:Heap),YP w h->(K w.params).In h/\h.get? p=some (PySem.W.tabObj #[])) (hK:∀w:ZR,(K w.params).lookup p=none) (hC:∀w:ZR,∃c,PySem.W.codeHdIn (K w.params) c p=true)
  (F:∀(w:ZR) (mg:Str->Option Q3) (fa:Addr) (h:Heap),(K w.params).In h->h.Ns mainGlobals mg->mg d.name=some (.ref fa)->
   ∃fd:Zo,(∀(s:Q4) (u:Q3),BindsTo s fd ⟨[u],[]⟩ [(x,u)])/\
    ∀base:Heap,(K w.params).In base->base.Ns mainGlobals mg->Bo mg base->kF l.prog w (K w.params) mg base CX0 k fa fd [x] (sp w))
  (hsp:∀(w:ZR) (H:Hp) (a:Addr) (ns:List Int),ns.length<=n->Ec p H->SqL (K w.params) H a (ns.map V.int)->sp w [.ref a] H (λv _=>v=.bl true) λ_ _ _=>False) :
  PySem.W.WalkO q de XP YP l.row.toRowW d [] (λf vs=>PySem.call f vs):=by
 refine Att.attach_call hn hdf λw s₀ s₁ mg mb fa o pm cd doc a vs ns G Y ho hd hcd hmg RX RH p_ hg=>?_;let⟨KX,hp⟩:=hY w _ Y;let⟨fd,hb,hF⟩:=F w mg fa _ KX G.T.g hmg;let⟨c,hc⟩:=hC w;have C:=PySem.W.codeHd_of_K KX hc;let⟨oc,vc,file,tf,flags,tg,inF,text,tt,c1,c2,c3,c4,_⟩:=C;exact Af KX G.T.g G.T.b G.T.builtins G.T.nolimit hg G.T.bmain hp (hK w) ⟨c,oc,vc,c1,c2,c3,c4⟩ RX RH (ZP p_ hn2) hr hF hb λH hO hS=>hsp w H a ns p_ hO hS
end L2
namespace OP
open PySem PySem.Spec PyProof PyProof.Rows L2 OG PySem.W
def vU(p:Addr)(K:Q1):Sp:=λvs H Q _=>∃(a:Addr) (ns:List Int),vs=[.ref a]/\KL K H a ns/\ns.length<=63/\H p=some (.tbl #[])/\∀H',Q (.bl true) H'
theorem KU{K:Q1}{H:Hp}{a p:Addr}{ns:List Int}(hO:Ec p H)(h:SqL K H a (ns.map V.int)):KL K H a ns:=by
 have no:∀xs,H a≠some (.lst xs):=λxs e=>by
  by_cases z:a=p;subst z;rw[hO.1]at e;cases e;rcases hO.2 a z with q|⟨o,ys,q⟩;rw[q]at e;cases e;rw[q]at e;cases e
 rcases h with(h|h)|h;exact absurd h (no _);exact .inl h;exact .inr h
theorem C8{K:Q1}{H:Hp}{a p:Addr}{pos:Pos}{qual:Str}{ns:List Int}{c:CS}{r:Rho}{σ:L2.St}{Q:VK}{nx bk ct:L2.St->Hp->Prop}(h:KL K H a ns)(hp:H p=some (.tbl #[]))
  (ok:∃ρ' S',c (some (.kl ns)::r) [.cod p pos qual]=some (.rt (.bl true),ρ',S')) (q:∀H',Q (.bl true) H')
  (hr:r=QR r.length none:=by rfl) (hl:σ.length=r.length:=by rfl):tS K c { nx:=nx,rt:=Q,bk:=bk,ct:=ct } (some (.ref a)::σ) H:=by
 let⟨ρ',S',e⟩:=ok;refine⟨[p],_,_,_,ρ',S',⟨rfl,nofun,λl ad o e1 e2=>?_⟩,⟨by simp[hl],λi u e1=>?_⟩,e,λm' v H' _ _ iv=>by rw[iv.of_bl];exact q H'⟩;cases l with
 |zero=>
  simp at e1 e2;subst e1;subst e2;exact⟨rfl,#[],hp,trivial,.inl rfl⟩
 |succ l=>simp at e1
 cases i with
 |zero=>
  simp at e1;subst e1;exact⟨.ref a,rfl,.kl_ h⟩
 |succ i=>
  simp only[X8]at e1;rw[hr,X7]at e1;split at e1<;>cases e1
section
variable{P:Z7}{w:ZR}{K:Q1}{base:Heap}{mg:Str->Option Q3}{x q:Str}{st:ZC}{C c p:Addr}{ps N:List Str}{k:Nat}{cs:CS}{cl:Cl}
def HV(K:Q1)(C:Addr)(x:Str)(c p:Addr):Prop:=∃f o fd,Y0 K (.ref C) x=some (some (.ref f))/\K.lookup f=some o/\o.data=.func fd/\fd.code=.ref c/\PySem.W.codeHdIn K c p=true
theorem MtD.pureC(d:MtD K cl.C x q st ps)(cd:HV K cl.C x c p)(S:aN N ps (ax st))
  (hb:∀(f:Addr) (A:ZE) (outer:List Env) (s:Q4) (H:Hp) (E:XK),eN k (A.deeper (envOfC q (ax st) s.heap.objs.size f (.ref c)))->WSs (sL CX0 P w K mg base N q (ax st) f (.ref c) A outer s H E).nox (cM st) (tS K cs)) :
  dP P w K mg base cl x (k+1) ps (fnU N.length ps.length cs):=by
 let⟨fa,fd,F,b,m⟩:=d;let⟨oc,od,kV,doc,pm,an,cdv,ct,osl,rfl,lk,hcd⟩:=F.ex;let⟨f,o,fd2,z1,z2,z3,z4,z5⟩:=cd;have ef:f=fa:=by have:=m.at_;rw[z1]at this;cases this;rfl
 subst ef;rw[lk]at z2;cases z2;cases z3;have e:cdv=.ref c:=z4;subst e;refine⟨f,_,m,?_,b⟩;refine Hx lk hcd S (λvs H Q E h=>o7 h) λA outer s H vs Q E hr h=>⟨_,(hb f A outer s H E hr).h.nox,uN (X:=(sL CX0 P w K mg base N q (ax st) f (.ref c) A outer s H E).nox) (body:=[]) (ps:=ps) rfl h⟩
end
section
variable{X:Cx}
theorem pE{i₀:Nat}{x₀:Str}{RC g_:Pos}{Nc capN tn:List Str}{scope:XR}{cl:List (Str×Addr)}{n:Nat}{caps:List Nat}{tg iter elt:QF}{pos:Pos}{ci:CE}{g:CG}{ct:CT}{ce:CE}{c:PySem.Expr}
  (hc:X.calm=true) (hi:QE X iter ci) (hg:∀s3 H3 fp,WG (cxC X Nc scope cl s3 H3 fp) tg (tG X.K g)) (ht:∀s3 H3 fp,WT (cxC X Nc scope cl s3 H3 fp) c (tT X.K ct)) (he:∀s3 H3 fp,WE (cxC X Nc scope cl s3 H3 fp) elt (tE X.K ce))
  (G_:closureFor scope X.env=pure cl) (r_:scope.kind=.function) (hnl:∀x∈scope.names,x.2=.local->scope.names.lookup x.1=some .local) (x_:∀x∈scope.names,x.2≠.cell)
  (hcl:yt X.env cl) (H_:((relabel scope X.env).names.all λp=>!(p.2 == .cell||p.2 == .free)||(cl.lookup p.1).isSome)=true)
  (F_:Paired (Cap X scope cl) caps capN) (hN:Nc=tn++capN) (hn:tn.length=n)
  (hN0:X.N.Nodup) (hi0:X.N[i₀]?=some x₀) (hx0:X.env.scope.names.lookup x₀=some .local)
  (hsw:Zc (.ListComp elt [⟨tg,iter,[c],0⟩] scope pos) (some (.Name x₀ g_)) RC.line X.env=pure true)
  (hs:∀x,foldedSetIterable iter X.env x=pure x:=by intro _;rfl) :
  QS X (.Assign [.Name x₀ g_] (.ListComp elt [⟨tg,iter,[c],0⟩] scope pos) RC) (cH i₀ (kC ci g ct ce n caps)):=
 (tZ (qP hc (t7 hi) hg he ht G_ r_ hnl x_ hcl H_ F_ hN hn hN0 hi0 hx0 hsw hs)).imp λD σ H hz=>xZ hz λm ρ S o ρ' S' sr lr hc post=>by
 let⟨⟨u,S1⟩,h1,h2⟩:=Q0.mp hc;cases h2;exact qR (G:=λJ H1 σ Q=>∀l,H1 l=none->∃W:Nat->Nat->L2.St->Hp->Prop,(∃m,W 0 m (OG.stC n caps σ) (upd H1 l (.lst [])))/\
  ∀i m σ' H2,W i m σ' H2->(J.stop i H2/\Q (.ref l) H2)\/(J.go i H2/\∃N:L2.St->Hp->Prop,(∀σ'' H',N σ'' H'->∃m',m'<m/\W (i+1) m' σ'' H')/\
  ∀x H3,J.yld i H2 x H3->tG X.K g x σ' H3 λσ2 H4=>tT X.K ct σ2 H4 λb H5=>match b with
   |true=>tE X.K ce σ2 H5 λv H6=>∃ys,H6 l=some (.lst ys)/\ys.length<QU/\N σ2 (upd H6 l (.lst (ys++[v])))
   |false=>N σ2 H5)) (λsr lr ito h2 post l hl=>u7 sr lr ito hl h2 (post l hl))
  σ H (λv H'=>D.nx (σ.set i₀ (some v)) H') ⟨m,ρ,S,u,_,sr,lr,h1,λm1 v1 H1 e1 sr1 i1=>post m1 _ H1 e1 sr1 ((lr.mono e1).set i₀ i1)⟩
end
end OP
namespace OP
open PySem PySem.Spec PyProof PyProof.Rows L2 OG
section
variable{X:Cx}{e a b:QF}{pos:Pos}{ca cb cv:CE}{c:Cl}{f:Str}{i:Nat}{NS:List Str}
theorem qv(i:Nat){x:Str}(hN:X.N[i]?=some x:=by rfl)(hv:Vis X.env.scope x:=by first|exact Or.inl rfl|exact Or.inr (Or.inl rfl)|exact Or.inr (Or.inr rfl))(hd:(x == ("__debug__":Str))=false:=by decide)(hcd:(x == ("__classdict__":Str))=false:=by decide):QE X (.Name x pos) (ah i):=B7 (wpv i hN hv hd hcd)
def qr(h:QE X e ca):QSs X [.Return (some e) pos] (bV ca):=aY (EA h)
def qI{i:Int}{j}:QE X (.Constant (.int i) j pos) (cC (.int i)):=NP FN
def qS{i:Str}{j}:QE X (.Constant (.str i) j pos) (cC (.str i)):=NJ gS
def qN{j}:QE X (.Constant .none j pos) (cC .non):=NN FK
def qB{i:Bool}{j}:QE X (.Constant (.bool i) j pos) (cC (.bl i)):=Qu Jl
theorem qx(hu:X.A.units+1<cLine)(ha:QE X a ca)(hb:QE X b cb)(hs:LM b:=by intro _ _;rfl):QE X (.Subscript a b pos) (cOp fIx ca cb):=Pp hu ha hb hs hs
theorem qf(T:TC X.K c NS)(h:NS[i]?=some f)(he:QE X e ca)(hb:attributeBase e f X.env (eval e X.env)=eval e X.env:=by rfl):QE X (.Attribute e f pos) (bD c i ca):=Gs T.cl (T.na i h) (T.ix h) he hb
theorem qsf{o:QF}{co:CE}{g_:Pos}(T:TC X.K c NS)(h:NS[i]?=some f)(ho:QE X o co)(hv:QE X e cv)(hs:Zc e (some (.Attribute o f g_)) pos.line X.env=pure false:=by rfl):QS X (.Assign [.Attribute o f g_] e pos) (gO c i co cv):=Gp T.cl (T.na i h) (T.ix h) ho hv hs
theorem qss(i:Nat){x:Str}{g_:Pos}(hN:X.N.Nodup)(he:QE X e ca)(hi:X.N[i]?=some x:=by rfl)(hx:Loc X.env.scope x:=by first|exact Or.inl rfl|exact Or.inr rfl)(hs:Zc e (some (.Name x g_)) pos.line X.env=pure false:=by rfl)(hf:X.fn x=true\/X.env.scope.names.lookup x=some .local:=by first|exact .inl rfl|exact .inr rfl|assumption) :
  QS X (.Assign [.Name x g_] e pos) (cH i ca):=JM hN hi hx he hs hf
theorem qm{mn:Str}{g:Fn}{k:Nat}{ps:List Str}{o:QF}{es:List QF}{co:CE}{cr:CA}{i_:Pos}{pl:Sem Bool}(T:TC X.K c NS)(F:dP X.prog X.w X.K X.mg X.base c mn k ps g)(hr:eN k X.A)(ho:QE X o co)(ha:QA X (e::es) cr)(hmn:mn∉NS:=by decide +kernel)
  (hst:Q6 (e::es) X.env=(false,eval e X.env)::Q6 es X.env:=by rfl) (hpl:(ZL pos (Q6 es X.env)).any (·.1)=false:=by rfl) (ht:eval (.Call (.Attribute o mn i_) (e::es) [] pos) X.env=(do
   let ov <-eval o X.env
   standAt i_.atName
   let (f,first) <-holding [ov] (getMethod ov mn pl)
   callWith pos f first (ZL pos (Q6 (e::es) X.env)) (backToKw pos (keywordEach [] X.env))):=by rfl):QE X (.Call (.Attribute o mn i_) (e::es) [] pos) (bA c g co cr):=JO T.cl F hr (T.nm hmn) ho ha hst hpl ht
theorem qm0{mn:Str}{g:Fn}{k:Nat}{ps:List Str}{o:QF}{co:CE}{i_:Pos}{pl:Sem Bool}(T:TC X.K c NS)(F:dP X.prog X.w X.K X.mg X.base c mn k ps g)(hr:eN k X.A)(ho:QE X o co)(hmn:mn∉NS:=by decide +kernel)
  (ht:eval (.Call (.Attribute o mn i_) [] [] pos) X.env=(do
   let ov <-eval o X.env
   standAt i_.atName
   let (f,first) <-holding [ov] (getMethod ov mn pl)
   callWith pos f first (ZL pos (Q6 [] X.env)) (backToKw pos (keywordEach [] X.env))):=by rfl):QE X (.Call (.Attribute o mn i_) [] [] pos) (bA c g co aE):=zr T.cl F hr (T.nm hmn) ho ht
end
def PV(N P:List Str)(sc:XR):Bool:=decide (sc.kind=.function)&&!sc.isCoroutine&&!sc.isGenerator&&decide N.Nodup&&decide (N.take P.length=P)&&P.all (λx=>decide (sc.names.lookup x=some .local)||decide (sc.names.lookup x=some .cell))&&sc.names.all λy=>!decide (y.2=.free)
theorem fsc{N P:List Str}{sc:XR}(h:PV N P sc=true:=by decide +kernel):aN N P sc:=by
 unfold PV at h;simp only[Zl,decide_eq_true_eq,X9,List.all_eq_true,Bool.or_eq_true,decide_eq_false_iff_not]at h;let⟨⟨⟨⟨⟨⟨h1,h2⟩,h3⟩,h4⟩,h5⟩,h6⟩,h7⟩:=h;exact⟨h1,h2,h3,h4,h5,h6,h7⟩
end OP
namespace OP
open PySem PySem.Spec PyProof.Rows L2 OG
section
variable{prog:Z7}{w:ZR}{A:ZE}{E:Q3->Q4->Prop}{s:Q4}
theorem Hl{κ:Type}[DecidableEq κ]{knd:KeyKind prog w κ}{it d:Addr}{i ep:Nat}{kvs:List (κ×Q3)}{k:κ}{v:Q3}{Q:Q3->Q4->Prop}(hit:s.heap.IsKeyIter it d i kvs.length ep)(hm:s.heap.DictAt knd d kvs ep)(hx:kvs[i]?=some (k,v))
  (hQ:∀key h',knd.is k key=true->h'.IsKeyIter it d (i+1) kvs.length ep->Heap.SameBut it s.heap h'->Q key { s with heap:=h' }):wpAny (ZQ prog w) A (Builtin.SmallTypes.nextOf (.ref it)) Q E s:=by
 have ty:=hit.typeIs;let⟨o,ho,hc,hd⟩:=id hit;let⟨od,es,hod,hcd,hdd,hk,hp,hn⟩:=id hm;unfold Builtin.SmallTypes.nextOf;refine Q2 (wpAny_callSpecial?_slot (name:=Str.ofString "__next__") ty F.slot_dict_keyiterator_next (wpAny_call_entry F.slot_dict_keyiterator_next ty F.entry_dict_keyiterator_next ?_ (F.args_dict_keyiterator_next_1 _)))
 wp_walk using wpAny_typeNameOfWhole_keyiter ty,wpAny_fieldsOf ho hd,wpAny_dictEntries hod hdd,wpAny_dictEpoch hod hdd,wpAny_isOneOf_keyiter ty
 have hz:es.size=kvs.length:=by rw[<-hp.length];simp
 rw[XS (by rw[hz];simp)]
 wp_walk using wpAny_dictEpoch hod hdd
 rw[XS nofun];have hl:i<es.size:=by rw[hz];exact(Q8.mp hx).1
 have hkey:knd.is k es[i].key=true:=(hp.get? (e:=es[i]) (by simp[hl]) hx).1;simp only[XD,Zb hl];have up:(s.heap.update it (Obj.mapFields (·.setIfInBounds 1 (rawInt ((i:Int)+1))))).IsKeyIter it d (i+1) kvs.length ep:=
  ⟨_,XC _ ho (Obj.isFreed_of_fields (Obj.data_mapFields hd _)),(Obj.cls_mapFields ..).trans hc,by rw[Obj.data_mapFields hd];simp[rawInt]⟩
 have ty2:=Heap.IsKeyIter.typeIs (s:={ s with heap:=s.heap.update it (Obj.mapFields (·.setIfInBounds 1 (rawInt ((i:Int)+1)))) }) up
 wp_walk using wpAny_typeNameOfWhole_keyiter ty,wpAny_isOneOf_keyiter ty
 simp only[hd];show wpAny _ _ (update it (Obj.mapFields λx=>x.setIfInBounds 1 (rawInt ((i:Int)+1)))) _ _ _;refine wpAny_update ho ?_
 wp_walk using wpAny_isOneOf_keyiter ty2
 exact⟨_,rfl,QJ (hQ _ _ hkey up (Heap.SameBut.update ..))⟩
theorem EK{κ:Type}[DecidableEq κ]{knd:KeyKind prog w κ}{it d:Addr}{i ep:Nat}{kvs:List (κ×Q3)}{Q:Q3->Q4->Prop}(hh:A.handled=none)(hit:s.heap.IsKeyIter it d i kvs.length ep)(hm:s.heap.DictAt knd d kvs ep)(hx:kvs[i]?=none)
  (hE:∀h' e,Heap.ExtBut it s.heap h'->(∃o,h'.get? e=some o/\o.cls=.type "StopIteration")->E (.ref e) { s with heap:=h' }):wpAny (ZQ prog w) A (Builtin.SmallTypes.nextOf (.ref it)) Q E s:=by
 have ty:=hit.typeIs;let⟨o,ho,hc,hd⟩:=id hit;let⟨od,es,hod,hcd,hdd,hk,hp,hn⟩:=id hm;unfold Builtin.SmallTypes.nextOf;refine Q2 (wpAny_callSpecial?_slot (name:=Str.ofString "__next__") ty F.slot_dict_keyiterator_next (wpAny_call_entry F.slot_dict_keyiterator_next ty F.entry_dict_keyiterator_next ?_ (F.args_dict_keyiterator_next_1 _)))
 wp_walk using wpAny_typeNameOfWhole_keyiter ty,wpAny_fieldsOf ho hd,wpAny_dictEntries hod hdd,wpAny_dictEpoch hod hdd,wpAny_isOneOf_keyiter ty
 have hz:es.size=kvs.length:=by rw[<-hp.length];simp
 rw[XS (by rw[hz];simp)]
 wp_walk using wpAny_dictEpoch hod hdd
 rw[XS nofun];have hl:es.size<=i:=by rw[hz];simpa using hx
 simp only[XD,Array.getElem?_eq_none hl]
 wp_walk using wpAny_typeNameOfWhole_keyiter ty,wpAny_isOneOf_keyiter ty
 simp only[hd];show wpAny _ _ (update it (Obj.mapFields λx=>x.setIfInBounds 0 Value.none)) _ _ _;refine wpAny_update ho ?_
 wp_walk
 unfold raiseNew;refine Q2 (wpAny_handled ?_);rw[show A.in1.handled=none from hh];exact Q2 (QJ (wpAny_throw (hE _ _ (((Heap.SameBut.update ..).extBut.push _).push _) ⟨_,Z0 _ rfl,rfl⟩)))
end
theorem DI{prog:Z7}{w:ZR}{A:ZE}(hh:A.handled=none)(it a:Addr)(hne:a≠it)(vs:List (Key×Q3))(ep:Nat) :
  Draws prog w A it [it,a] vs.length (λi v=>∃k u,vs[i]?=some (k,u)/\pZ k v=true) (λi h=>h.IsKeyIter it a i vs.length ep/\h.DictAt (bp prog w) a vs ep) where
 live:=λ_ _ st=>let ⟨o,ho,_⟩:=st.1;⟨o,ho⟩
 frame:=λ_ _ _ st hk=>⟨Heap.IsKeyIter.at st.1 λo e=>hk it nofun o e,let ⟨o,es,ho,r⟩:=st.2;⟨o,es,hk a nofun o ho,r⟩⟩
 item:=λi s Q E hi st hQ=>Hl (k:=vs[i].1) (v:=vs[i].2) st.1 st.2 (Q7 hi) λkey h' hk it' s'=>hQ key h' s.toks ⟨_,_,Q7 hi,hk⟩ ⟨it',st.2.extBut s'.extBut hne⟩ s'
 done:=λs Q E st hE=>EK hh st.1 st.2 (XB (QQ _)) hE
theorem AJ{prog:Z7}{w:ZR}(l:Addr)(vs:List (Key×Q3))(ep:Nat)(hl:(l == sysModules)=false) :
  MeetsIn prog w (Builtin.«enumerate.__new__» ⟨[.type "enumerate",.ref l],[]⟩) (λ_ R s=>s.heap.DictAt (bp prog w) l vs ep/\
   R (.ok (.ret (.ref (s.heap.push { cls:=.type "dict_keyiterator",data:=.fields #[.ref l,.int 0 0,.int vs.length 0,.int ep 0] }).objs.size))) { s with heap:=(s.heap.push { cls:=.type "dict_keyiterator",data:=.fields #[.ref l,.int 0 0,.int vs.length 0,.int ep 0] }).push { cls:=.type "enumerate",data:=.fields #[.none,.bool false,.ref s.heap.objs.size,rawInt 0,.none,.none] } }):=
 .of_wp λA R s q=>by
  let⟨hp,g,d,tk,os⟩:=s;let⟨da,q⟩:=q;let⟨o,es,gl,s_⟩:=id da;have sb:=sub_enumerate
  wp_walk using wpAny_loadPart' gl
  refine wpAny_stack_any (λst=>QJ ?_);split
  ·rename_i c _ _ _ _ _;cases (c == Value.type "enumerate")<;>(wp_walk using wpAny_loadPart' gl,wpAny_pyIter_dict (s:=⟨hp,g,d,tk,os⟩) hl da;exact⟨_,rfl,q⟩)
  wp_walk using wpAny_loadPart' gl,wpAny_pyIter_dict (s:=⟨hp,g,d,tk,os⟩) hl da
  exact⟨_,rfl,q⟩
structure O6(h:Heap)(e it a:Addr)(n m ep:Nat):Prop where
 he:∃old,IsEnum h e it n old
 hi:h.IsKeyIter it a n m ep
theorem x5{prog:Z7}{w:ZR}{A:ZE}{E:Q3->Q4->Prop}{s:Q4}{a:Addr}{vs:List (Key×Q3)}{ep:Nat}{Q:Q3->Q4->Prop}(hl:(a == sysModules)=false)(ha:s.heap.DictAt (bp prog w) a vs ep)
  (k:∀h' e it,e≠it->s.heap.objs.size<=e->s.heap.objs.size<=it->O6 h' e it a 0 vs.length ep->(∀c o,s.heap.get? c=some o->h'.get? c=some o)->Q (.ref e) { s with heap:=h' }) :
  wpAny (ZQ prog w) A (call (.type "enumerate") [.ref a]) Q E s:=by
 refine callType_newIn PySem.F.called_enumerate ∅ (PySem.F.typeCall_enumerate_1 _) (PySem.F.newCall_enumerate_1 _) (λobj=>PySem.F.args_object_init_2 obj _) PySem.F.entry_enumerate_new (AJ a vs ep hl) ⟨ha,?_⟩;generalize hK:({ cls:=.type "dict_keyiterator",data:=.fields #[.ref a,.int 0 0,.int vs.length 0,.int ep 0] }:Obj)=oK;have n1:(s.heap.push oK).objs.size=s.heap.objs.size+1:=XN ..;have p2:=Z0 (s.heap.push oK) (o:={ cls:=.type "enumerate",data:=.fields #[.none,.bool false,.ref s.heap.objs.size,rawInt 0,.none,.none] }) rfl;have p1:((s.heap.push oK).push { cls:=.type "enumerate",data:=.fields #[.none,.bool false,.ref s.heap.objs.size,rawInt 0,.none,.none] }).get? s.heap.objs.size=some oK:=Q5 _ (Z0 _ (by subst hK;rfl));rw[n1]at p2;show _/\_;rw[n1];refine⟨⟨_,p2,rfl⟩,k _ (s.heap.objs.size+1) s.heap.objs.size (XH (Nat.lt_succ_self _)) (Nat.le_add_right _ _) (QQ _) ⟨⟨_,p2⟩,?_⟩ λc o x=>Q5 _ (Q5 _ x)⟩;subst hK;exact⟨_,p1,rfl,rfl⟩
def Itk(a:Addr)(ep:Nat)(ks:List Key):It:=
 ⟨λi H=>i<ks.length/\Il H a ep ks,λi H v H'=>∃p k,v=.ref p/\H p=none/\H'=upd H p (.tup [.int i,kV k])/\ks[i]?=some k,λi H=>ks.length<=i/\Il H a ep ks⟩
theorem AK{prog:Z7}{w:ZR}{A:ZE}{E:Q3->Q4->Prop}{s:Q4}{e it a:Addr}{i:Int}{vs:List (Key×Q3)}{ep:Nat}{old:Q3}{Q:Option Q3->Q4->Prop}(hh:A.in1.handled=none)(he:IsEnum s.heap e it i old){j:Nat}(hi:s.heap.IsKeyIter it a j vs.length ep)(ha:s.heap.DictAt (bp prog w) a vs ep)(hx:vs[j]?=none)
  (k:∀h',Heap.ExtBut it s.heap h'->Q none { s with heap:=h' }):wpAny (ZQ prog w) A (pyNext (.ref e)) Q E s:=by
 have ty:s.TypeIs (.ref e) "enumerate":=⟨_,he,rfl⟩;unfold pyNext;refine Q2 (wpAny_attempt (wpAny_callSpecial?_slot (name:=Str.ofString "__next__") ty PySem.F.slot_enumerate_next (wpAny_call_entry PySem.F.slot_enumerate_next ty PySem.F.entry_enumerate_next ?_ (PySem.F.args_enumerate_next_1 _))));show wpAny _ _ (field (.ref e) 2 >>= λ_=>_) _ _ _;refine Q2 (wpAny_field he rfl (x:=.ref it) rfl (Q2 (EK hh hi ha hx λh' x he' hx'=>?_)));let⟨o,ho,co⟩:=hx';exact Q2 (wpAny_isInstance (T:="StopIteration") (b:=true) ⟨o,ho,co⟩ isSubtype_stop (QJ (k _ he')))
theorem xB{P:Z7}{w:ZR}{K:Q1}{es:List QF}{k:Nat}{pos:Pos}{e it a:Addr}{ks:List Key}{ep:Nat}(ne:e≠it)(nae:a≠e)(nai:a≠it) :
  Ik P w K (.Tuple es k pos) (Itk a ep ks) [e,it] e (λn h=>O6 h e it a n ks.length ep) where
 mem:=by simp
 obj:=λn h st c hc=>by
  let⟨⟨old,he⟩,hi⟩:=st;simp only[Z8,XY,or_false]at hc;rcases hc with rfl|rfl;exact⟨_,he,λv q=>by cases q⟩;let⟨o,e,_,q⟩:=hi;exact⟨o,e,λv z=>by rw[q]at z;cases z⟩
 keep:=λn h h' st kp=>let ⟨old,he⟩:=st.he;⟨⟨old,kp e nofun _ he⟩,Heap.IsKeyIter.at st.hi λo q=>kp it nofun o q⟩
 item:=by
  intro X hP hw hK hc n b_ s σ H E Iv hf st hg;subst hP hw hK;let⟨hi0,ob,es0,kvs,hq,d,ek⟩:=hg;let⟨vs,rv,da⟩:=wV Iv.hok hq d;have hl:ks.length=vs.length:=by rw[<-ek,QX];exact Paired.length rv
  have hi':n<kvs.length:=by rw[<-ek,QX]at hi0;exact hi0
  have hx:kvs[n]?=some ((kvs[n]).1,(kvs[n]).2):=Q7 hi';let⟨u,hu⟩:=Ag rv hx;let⟨⟨old,he⟩,hi⟩:=st;rw[hl]at hi;have hlt:n<vs.length:=by rw[<-hl];exact hi0
  refine wpAny_pyNext_enum_itemD (DI (show X.A.in1.handled=none from Iv.ok.hd hc) it a nai vs ep) he ⟨hi,da⟩ hlt ne (by simp[ne,Ne.symm nae]) λy h1 tk py Sg st1 T1 sz1 up1=>⟨_,rfl,wpAny_letOwnedTupleGo_enum Sg λh2 e2 s2=>?_⟩;let⟨k',u',hk',hky⟩:=py;rw[hu]at hk';cases hk';have ru:bS (kV (kvs[n]).1) y:=Ai hky;have hfr:H s.heap.objs.size=none:=Iv.hok.fresh (QQ _);have elt:e<s.heap.objs.size:=QY he;have ilt:it<s.heap.objs.size:=by let⟨o,q,_⟩:=hi;exact QY q
  have sz:∀c∈[e,it],c<s.heap.objs.size:=λc hc=>by
   simp only[Z8,XY,or_false]at hc;rcases hc with rfl|rfl;exact elt;exact ilt
  have T2:h2.get? s.heap.objs.size=some { cls:=.type "tuple",data:=.seq #[.int n tk,y] }:=s2.extBut _ _ (XH elt) T1;have I1:Inv X b_ σ (upd H s.heap.objs.size (.tup [.int n,kV (kvs[n]).1])) { s with heap:=s.heap.push { cls:=.type "tuple",data:=.seq #[.int n tk,y] },toks:=s.toks }:=
   Iv.laid (λb o e=>Q5 _ e) (QQ _) (Cv (Z0 _ rfl) ⟨tk,rfl⟩ ru)
  have fr2:∀c∈[e,it],(upd H s.heap.objs.size (.tup [.int n,kV (kvs[n]).1])) c=none:=λc hc=>by rw[aH (ZZ (sz c hc))];exact(hf c hc).1
  have I2:Inv X b_ σ (upd H s.heap.objs.size (.tup [.int n,kV (kvs[n]).1])) { s with heap:=h2,toks:=tk+1 }:=
   Inv.turnedL (s:={ s with heap:=s.heap.push { cls:=.type "tuple",data:=.seq #[.int n tk,y] },toks:=s.toks }) (h':=h2) (t':=tk+1) (ch:=[e,it]) I1 (λc o hn q=>by
    by_cases ce:c=s.heap.objs.size;subst ce;have q':(s.heap.push { cls:=.type "tuple",data:=.seq #[.int n tk,y] }).get? s.heap.objs.size=some o:=q;rw[Z0 _ rfl]at q';cases q';exact T2;have q':s.heap.get? c=some o:=Cd q ce;simp only[Z8,XY,or_false,not_or]at hn;exact s2.extBut _ _ hn.1 (up1 c o hn.1 hn.2 q')) λc hc=>⟨fr2 c hc,(hf c hc).2⟩
  have st2:=st1.1;rw[<-hl]at st2;refine⟨.ref s.heap.objs.size,_,I2,rfl,⟨_,_,rfl,hfr,rfl,by rw[<-ek,ZH,hx];rfl⟩,⟨⟨_,by simpa using e2⟩,st2.at λo q=>s2.extBut _ _ (Ne.symm ne) q⟩,fr2⟩
 done:=by
  intro X hP hw hK hc n b_ s σ H E Iv hf st hg;subst hP hw hK;let⟨hi0,ob,es0,kvs,hq,d,ek⟩:=hg;let⟨vs,rv,da⟩:=wV Iv.hok hq d;have hl:ks.length=vs.length:=by rw[<-ek,QX];exact Paired.length rv
  let⟨⟨old,he⟩,hi⟩:=st;rw[hl]at hi;refine AK (show X.A.in1.handled=none from Iv.ok.hd hc) he hi da (XB ⋯) λh1 up1=>⟨rfl,?_⟩;exact Iv.turnedL (t':=s.toks) (ch:=[e,it]) (λc o hn q=>by
   simp only[Z8,XY,or_false,not_or]at hn;exact up1 c o hn.2 q) hf
 self:=λ_ _ _ _ _ st h=>let ⟨old,he⟩:=st.he;wpAny_pyIter_enum he h
def ET(X:Cx)(tl:TE):TI:=λσ H R=>F0 tl Jv σ H λvs H1=>∃a kvs,vs=[.ref a]/\H1 a=some (.dK kvs)/\∀ob es ep,yj X a->ob.data=.dict es ep->R (Itk a ep (kvs.map (·.1))) (upd H1 a (.frz ob (.dK kvs)))
theorem BN{X:Cx}{pos:Pos}{es:List QF}{k:Nat}{tp p:Pos}{a:QF}{ta:TE}(hg:Gl X "enumerate")(hm:X.mg "enumerate"=none)(ha:WE X a ta)
  (hs:Q6 [a] X.env=(false,eval a X.env)::Q6 [] X.env:=by rfl) (hpl:(ZL pos (Q6 [] X.env)).any (·.1)=false:=by rfl):WI X (.Tuple es k tp) (.Call (.Name "enumerate" p) [a] [] pos) (ET X ta):=by
 constructor;intro b_ s σ H R I h;refine wpAny_Call_Name_kw (oI I hg hm OP.A5 ?_);refine PyProof.Rows.callWith_type1 (thn ((dj ha kG hs).h pos b_ s σ H _ I h) λus s1 hz=>?_) hs hpl;let⟨vs,H1,I1,r1,q1⟩:=hz;let⟨aa,kvs,rfl,hq,q⟩:=q1;let⟨u,rfl,ru⟩:=lL r1;cases ru;let⟨hz,hy,vs,rv,ob,es,ep,e1,e2,e3,s_⟩:=qt I1.hok hq;have da:s1.heap.DictAt (bp X.prog X.w) aa vs ep:=⟨ob,es,e1,e2,e3,s_⟩;have hl:kvs.length=vs.length:=Paired.length rv;have nf:yj X aa:=λob' u' z=>by have:=I1.base.frzs aa ob' u' z;rw[hq]at this;cases this
 have I2:Inv X b_ σ (upd H1 aa (.frz ob (.dK kvs))) s1:=p4 I1 hq nofun nofun nofun nf ⟨e1,hz,hy,vs,rv,ob,es,ep,e1,e2,e3,s_⟩;refine x5 hy da λh1 e it ne he hi st up=>?_;let⟨old,hE⟩:=st.he;have la:=da.lt_size;have st':O6 h1 e it aa 0 (kvs.map (·.1)).length ep:=by rw[QX,hl];exact st
 refine wpAny_pyIter_enum hE ⟨e,[e,it],_,_,_,rfl,I2.kept (t':=s1.toks) up,xB ne (ZZ (QN la he)) (ZZ (QN la hi)),st',λc hc=>?_,q ob es ep nf e3⟩;simp only[Z8,XY,or_false]at hc;rcases hc with rfl|rfl;exact I2.fpOk he (I2.hok.fresh he);exact I2.fpOk hi (I2.hok.fresh hi)
def A2(ce:CE)(g:CG)(cb:CS):CS:=λρ S=>(ce ρ S).bind λp=>match p.1 with
 |.ref l=>match p.2[l]? with
  |some (.dic kus)=>uni λep=>(dH (λS'=>S'[l]?=some (.fdc ep kus)) g cb (uW (kus.map λq=>kU q.1)) ρ (p.2.set l (.fdc ep kus))).bind λr=>match r.2.2[l]? with
   |some (.fdc _ O_)=>some (r.1,r.2.1,r.2.2.set l (.dic O_))
   |_=>none
  |_=>none
 |_=>none
theorem Dj{K:Q1}{m:List Addr}{H:Hp}{a:Addr}{l ep:Nat}{kus:List (Key×U)}(ha:m[l]?=some a):Bu K (Itk a ep (kus.map (·.1))) m H (uW (kus.map λq=>kU q.1)) (λS'=>S'[l]?=some (.fdc ep kus)):=by
 intro m2 S2 H2 i e sr hok;let⟨a',ha',ob,es,kvs,hx,hd,ip⟩:=sr.get hok;have ha2:=e.get ha;rw[ha2]at ha';cases ha';have hz:Il H2 a ep (kus.map (·.1)):=⟨ob,es,kvs,hx,hd,ip.1⟩;refine⟨λu hu=>?_,λhu=>⟨by simpa [uW] using hu,hz⟩⟩;have hi:i<kus.length:=by have:=(Q8.mp hu).1;simpa [uW] using this
 refine⟨⟨by simpa using hi,hz⟩,?_⟩;rintro x H3 ⟨r,k,rfl,hr,rfl,hk⟩;have ee:Ext K m2 H2 m2 (upd H2 r (.tup [.int i,kV k])):=.of (bO hr _);simp only[uW,ZH,Zq,List.getElem?_zipIdx]at hu hk;let⟨⟨p,q⟩,⟨y,⟨z,hz',rfl⟩,e⟩,rfl⟩:=hu;cases e;let⟨z2,hz2,rfl⟩:=hk;rw[hz']at hz2;cases hz2;exact⟨ee,sr.same (fQ hr _),.tup_ (SqT.of aF) (.cons_ (by simp only[YR];exact .int_) (.cons_ (EM _) .nil_))⟩
theorem Du{X:Cx}{ce:CE}{g:CG}{cb:CS}:∀D σ H,tS X.K (A2 ce g cb) D σ H->Jx (ET X (tE X.K ce)) (tG X.K g) (tS X.K cb) (HU X D) σ H:=by
 rintro D σ H ⟨m,ρ,S,o,ρ',S',sr,lr,hc,post⟩;let⟨⟨x,S1⟩,h1,h⟩:=Q0.mp hc;refine⟨m,ρ,S,x,S1,sr,lr,h1,λm1 v1 H1 e1 sr1 i1=>?_⟩;cases x with
 |ref l=>
  simp only at h;split at h<;>try cases h
  rename_i kus hS;let⟨a,ha,rfl⟩:=i1.of_ref;let⟨a',ha',kvs,hx,ip⟩:=sr1.get hS;rw[ha]at ha';cases ha';refine⟨a,kvs,rfl,hx,λob es ep nf hd=>?_⟩;let⟨⟨o1,ρ1,S2⟩,h2,h3⟩:=Q0.mp (oZ h ep);simp only at h3;split at h3<;>try cases h3
  rename_i ep' O_ hS2;have kp:yp X.K H1 (upd H1 a (.frz ob (.dK kvs))):=sr1.keep ha _;have ee:Ext X.K m1 H1 m1 (upd H1 a (.frz ob (.dK kvs))):=.of kp;have sr2:Sr X.K m1 (S1.set l (.fdc ep kus)) (upd H1 a (.frz ob (.dK kvs))):=sr1.put ha ⟨ob,es,kvs,aF,hd,ip.mono ee⟩;rw[ip.1];refine pT sr2 (lr.mono (e1.trans ee)) (Dj ha) h2 ?_;have back:∀m3 H3,Ext X.K m1 (upd H1 a (.frz ob (.dK kvs))) m3 H3->Sr X.K m3 S2 H3->∃ob' R0,H3 a=some (.frz ob' (.dK R0))/\Ext X.K m3 H3 m3 (upd H3 a (.dK R0))/\Sr X.K m3 (S2.set l (.dic O_)) (upd H3 a (.dK R0)):=λm3 H3 e3 sr3=>by
   let⟨a3,ha3,ob3,es3,kvs3,hx3,hd3,ip3⟩:=sr3.get hS2;rw[e3.get ha]at ha3;cases ha3;have e4:Ext X.K m3 H3 m3 (upd H3 a (.dK kvs3)):=.of (sr3.keep (e3.get ha) _);exact⟨ob3,kvs3,hx3,e4,sr3.put (e3.get ha) ⟨kvs3,aF,ip3.mono e4⟩⟩
  have nxt:∀(R:L2.St->Hp->Prop),iD X.K m H R ρ' (S2.set l (.dic O_))->iD X.K m1 (upd H1 a (.frz ob (.dK kvs))) (λσ H=>∃a ob kvs,yj X a/\H a=some (.frz ob (.dK kvs))/\R σ (upd H a (.dK kvs))) ρ' S2:=λR p m3 σ3 H3 e3 sr3 lr3=>by
   let⟨ob3,kvs3,hx3,e4,sr4⟩:=back m3 H3 e3 sr3;exact⟨a,ob3,kvs3,nf,hx3,p m3 σ3 _ (((e1.trans ee).trans e3).trans e4) sr4 (lr3.mono e4)⟩
  cases o with
  |nx=>exact nxt _ post
  |bk=>exact nxt _ post
  |ct=>exact nxt _ post
  | rt v=>
    intro m3 v3 H3 e3 sr3 i3;let⟨ob3,kvs3,hx3,e4,sr4⟩:=back m3 H3 e3 sr3;exact⟨a,ob3,kvs3,nf,hx3,post m3 v3 _ (((e1.trans ee).trans e3).trans e4) sr4 (i3.mono e4)⟩
 |_=>cases h
theorem Gq{X:Cx}{es:List QF}{k:Nat}{tp p g_:Pos}{a:QF}{body:List ZC}{ce:CE}{g:CG}{cb:CS}{pos:Pos}(hp:PassesOwn (ZQ X.prog X.w) X.A X.env X.xe)(hc:X.calm=true)(hg0:Gl X "enumerate")(hm:X.mg "enumerate"=none)(hi:QE X a ce)(hg:QG X (.Tuple es k tp) g)(hb:QSs X body cb)
  (hs:Q6 [a] X.env=(false,eval a X.env)::Q6 [] X.env:=by rfl) (hpl:(ZL g_ (Q6 [] X.env)).any (·.1)=false:=by rfl) (hf:∀x,foldedSetIterable (.Call (.Name "enumerate" p) [a] [] g_) X.env x=pure x:=by intro _;rfl):QS X (.For (.Tuple es k tp) (.Call (.Name "enumerate" p) [a] [] g_) body [] pos) (A2 ce g cb):=
 (tZ (t6 hp hc (BN hg0 hm hi hs hpl) hg hb hf)).imp Du
end OP
namespace OP
open PySem PySem.Spec PyProof PyProof.Rows L2 OG
def TrA(h B:Heap)(e:Addr)(C fl:Q3):Prop:=∃oe vs T oT ts,h.get? e=some oe/\(oe.cls=C/\oe.dict=none)/\oe.data=.fields vs/\vs[1]?=some (.ref T)/\B.get? T=none/\T≠e/\h.get? T=some oT/\oT.data=.fields ts/\ts[3]?=some fl
structure Fly(B:Heap)(l:List Env)(e:Addr)(C:Q3)(h:Heap):Prop where
 st:B.StaysIn h
 nw:B.get? e=none
 ff:h.FunFrames B l
 tr:TrA h B e C .none
theorem m7{o:Obj}{vs:Array Q3}{f:Array Q3->Array Q3}(h:o.data=.fields vs):(Obj.mapFields f o).isFreed=false/\(Obj.mapFields f o).data=.fields (f vs)/\(Obj.mapFields f o).cls=o.cls/\(Obj.mapFields f o).dict=o.dict:=by
 let⟨c,d,da,sl⟩:=o;dsimp only at h;subst h;exact⟨rfl,rfl,rfl,rfl⟩
variable{A:ZE}{s:Q4}{outer:List Env}
section
variable{M:Model}{E:Q3->Q4->Prop}{B:Heap}{env:Env}{L e:Addr}{oe:Obj}{vs:Array Q3}{C:Q3}{Q:Unit->Q4->Prop}
theorem rF{RV:Q3}{RM:Bool}(hfr:A.frames=some (env::outer))(hff:s.heap.FunFrames B (env::outer))(hL:env.frame=some L)(he:s.heap.get? e=some oe)(hst:B.StaysIn s.heap)(hn:B.get? e=none)(hc:oe.cls=C/\oe.dict=none)(hd:oe.data=.fields vs)(hv:1<vs.size)
  (q:∀h',B.StaysIn h'->h'.FunFrames B (env::outer)->TrA h' B e C (rawInt L)->s.heap.UpToSlots h'->Q () { s with heap:=h' }) :
  wpAny M A (do
   let a <-PySem.frameOf env
   let pl <-entryPlaceOf L RM
   let b <-EntryCells.newEntry RV a Value.none (rawInt L) Value.none pl
   setField (.ref e) 1 b) Q E s:=by
 have nfr:∀{b:Addr} {o:Obj},s.heap.get? b=some o->(∃ws:Array Q3,o.data=.fields ws)->b∉(env::outer).filterMap (·.frame):=λ{b o} g ⟨ws,hw⟩ z=>by
  let⟨_,o',g',nd⟩:=hff.mem z;rw[g]at g';cases g';exact nd ws hw
 refine Q2 (wpAny_frameOf_fun hfr hff hL λh1 so=>Q2 (wpAny_entryPlaceOf λpl hpl=>?_));let⟨sz,s1,s2⟩:=so;have e1:h1.get? e=some oe:=by rw[s1 e (nfr he ⟨vs,hd⟩)];exact he
 unfold EntryCells.newEntry;have psz:(if pl.isEmpty=true then QR 6 Value.none else pl).length<=6:=by
  rcases hpl with rfl|⟨_,_,_,_,_,_,_,rfl⟩;decide;exact QQ 6
 refine Q2 (wpAny_newObj_type ?_ (show(List.toArray _).size<=QU+2 by
  rw[QM,Z6];have:([RV,Value.ref L,.none,rawInt L,.none]:List Q3).length=5:=rfl;unfold QU;omega))
 obtain⟨tb,htb⟩:∃tb:Obj,tb={ cls:=.type "traceback",data:=.fields ([RV,.ref L,.none,rawInt L,.none]++if pl.isEmpty=true then QR 6 Value.none else pl).toArray }:=⟨_,rfl⟩;rw[<-htb];have e2:(h1.push tb).get? e=some oe:=Q5 _ e1;refine wpAny_setField e2 hd hv ?_;let⟨f1,f2,f3,f4⟩:=m7 (o:=oe) (vs:=vs) (f:=λx=>x.setIfInBounds 1 (.ref h1.objs.size)) hd;have gT:(h1.push tb).get? h1.objs.size=some tb:=Z0 _ (by rw[htb];rfl);have lt:e<h1.objs.size:=QY e1;have ne:∀{b:Addr} {o:Obj},h1.get? b=some o->b≠e->((h1.push tb).update e (Obj.mapFields λx=>x.setIfInBounds 1 (.ref h1.objs.size))).get? b=some o:=λ{b o} g n=>by
  rw[Zu _ _ (Ne.symm n)];exact Q5 _ g
 have up:s.heap.UpToSlots ((h1.push tb).update e (Obj.mapFields λx=>x.setIfInBounds 1 (.ref h1.objs.size))):=λb o g nd=>by
  let⟨sl,g1⟩:=s2 b o g;exact⟨sl,ne g1 λz=>by rw[z,he]at g;cases g;exact nd vs hd⟩
 refine q _ (λb o g=>?_) (.of_keeps (λb o g nd=>by let⟨sl,g1⟩:=up b o g nd;exact⟨_,g1,rfl⟩) hff) ?_ up;have g0:=hst b o g;have nb:b∉(env::outer).filterMap (·.frame):=λz=>by
  have:=(hff.mem z).1;rw[g]at this;cases this
 exact ne (by rw[s1 b nb];exact g0) λz=>by rw[z,hn]at g;cases g
 refine⟨_,_,h1.objs.size,tb,_,XC _ e2 f1,⟨f3.trans hc.1,f4.trans hc.2⟩,f2,?_,?_,Ne.symm (ZZ lt),?_,by rw[htb],rfl⟩;rw[Array.getElem?_setIfInBounds,XO rfl,XO hv];rw[sz];exact hst.fresh;rw[Zu _ _ (ZZ lt)];exact gT
theorem xN(hfr:A.frames=some (env::outer))(hff:s.heap.FunFrames B (env::outer))(hL:env.frame=some L)(he:s.heap.get? e=some oe)(hst:B.StaysIn s.heap)(hn:B.get? e=none)(hc:oe.cls=C/\oe.dict=none)(hd:oe.data=.fields vs)(h1:vs[1]?=some .none)
  (q:∀h',B.StaysIn h'->h'.FunFrames B (env::outer)->TrA h' B e C (rawInt L)->s.heap.UpToSlots h'->Q () { s with heap:=h' }):wpAny M A (noteFrame (.ref e) env) Q E s:=by
 unfold noteFrame;rw[hL];refine Q2 (wpAny_field he hd h1 ?_);exact rF hfr hff hL he hst hn hc hd (XI.mp h1).1 q
theorem rE(hfr:A.frames=some (env::outer))(hff:s.heap.FunFrames B (env::outer))(hL:env.frame=some L)(hst:B.StaysIn s.heap)(hn:B.get? e=none)(tr:TrA s.heap B e C .none)
  (q:∀h',B.StaysIn h'->h'.FunFrames B (env::outer)->TrA h' B e C (rawInt L)->s.heap.UpToSlots h'->Q () { s with heap:=h' }):wpAny M A (noteFrame (.ref e) env) Q E s:=by
 let⟨oe,vs,T,oT,ts,g1,g2,g3,g4,g5,g6,g7,g8,g9⟩:=tr;unfold noteFrame;rw[hL];refine Q2 (wpAny_field g1 g3 g4 ?_);show wpAny M A (if ((Value.ref T !=Value.none)=true)then _ else _) _ _ s;rw[XO (by rfl)];refine Q2 (wpAny_field g7 g8 g9 ?_);rw[XS (by intro z;exact absurd z (by simp[rawInt]))];refine Q2 (wpAny_setField g7 g8 (XI.mp g9).1 ?_);have he:(s.heap.update T (Obj.mapFields λx=>x.setIfInBounds 3 .none)).get? e=some oe:=by rw[Zu _ _ g6];exact g1
 have up:s.heap.UpToSlots (s.heap.update T (Obj.mapFields λx=>x.setIfInBounds 3 .none)):=λb o g nd=>by
  refine⟨o.slots,?_⟩;rw[Zu _ _ λz=>by rw[<-z,g7]at g;cases g;exact nd ts g8];exact g
 refine rF (s:={ s with heap:=s.heap.update T (Obj.mapFields λx=>x.setIfInBounds 3 .none) }) hfr (.of_keeps (λb o g nd=>by let⟨sl,g1⟩:=up b o g nd;exact⟨_,g1,rfl⟩) hff) hL he (λb o g=>?_) hn g2 g3 (XI.mp g4).1 λh' a1 a2 a3 a4=>q h' a1 a2 a3 λb o g nd=>?_;rw[Zu _ _ λz=>by rw[<-z,g5]at g;cases g];exact hst b o g;let⟨sl,g1⟩:=up b o g nd;let⟨sl2,g2⟩:=a4 b _ g1 nd;exact⟨sl2,g2⟩
theorem gW{l:List Env}{fl:Q3}(hst:B.StaysIn s.heap)(hff:s.heap.FunFrames B l)(hn:B.get? e=none)(tr:TrA s.heap B e C fl)(q:∀h',Fly B l e C h'->s.heap.UpToSlots h'->Q () { s with heap:=h' }):wpAny M A (setFlight (.ref e) none) Q E s:=by
 let⟨oe,vs,T,oT,ts,g1,g2,g3,g4,g5,g6,g7,g8,g9⟩:=tr;unfold setFlight;refine Q2 (wpAny_field g1 g3 g4 ?_);rw[XO (by rfl)];have h3:=(XI.mp g9).1;refine wpAny_setField g7 g8 h3 ?_;have up:s.heap.UpToSlots (s.heap.update T (Obj.mapFields λx=>x.setIfInBounds 3 .none)):=λb o g nd=>by
  refine⟨o.slots,?_⟩;rw[Zu _ _ λz=>by rw[<-z,g7]at g;cases g;exact nd ts g8];exact g
 let⟨f1,f2,f3,f4⟩:=m7 (o:=oT) (vs:=ts) (f:=λx=>x.setIfInBounds 3 .none) g8;refine q _ ⟨λb o g=>?_,hn,.of_keeps (λb o g nd=>by let⟨sl,g1⟩:=up b o g nd;exact⟨_,g1,rfl⟩) hff,⟨oe,vs,T,_,_,?_,g2,g3,g4,g5,g6,XC _ g7 f1,f2,?_⟩⟩ up;rw[Zu _ _ λz=>by rw[<-z,g5]at g;cases g];exact hst b o g;rw[Zu _ _ g6];exact g1;rw[Array.getElem?_setIfInBounds,XO rfl,XO h3]
theorem uC(hfr:A.frames=some (env::outer))(hff:s.heap.FunFrames B (env::outer))(hL:env.frame=some L)(he:s.heap.get? e=some oe)(hst:B.StaysIn s.heap)(hn:B.get? e=none)(hc:oe.cls=C/\oe.dict=none)(hd:oe.data=.fields vs)(h1:vs[1]?=some .none)
  (q:∀h',Fly B (env::outer) e C h'->s.heap.UpToSlots h'->Q () { s with heap:=h' }):wpAny M A (leaving env (.ref e)) Q E s:=by
 unfold leaving;refine Q2 (xN hfr hff hL he hst hn hc hd h1 λh' a1 a2 a3 a4=>gW (s:={ s with heap:=h' }) a1 a2 hn a3 λh2 b1 b2=>q h2 b1 λb o g nd=>?_);let⟨sl,g1⟩:=a4 b o g nd;let⟨sl2,g2⟩:=b2 b _ g1 nd;exact⟨sl2,g2⟩
theorem xS(hfr:A.frames=some (env::outer))(hL:env.frame=some L)(fl:Fly B (env::outer) e C s.heap)(q:∀h',Fly B (env::outer) e C h'->s.heap.UpToSlots h'->Q () { s with heap:=h' }):wpAny M A (leaving env (.ref e)) Q E s:=by
 unfold leaving;refine Q2 (rE hfr fl.ff hL fl.st fl.nw fl.tr λh' a1 a2 a3 a4=>gW (s:={ s with heap:=h' }) a1 a2 fl.nw a3 λh2 b1 b2=>q h2 b1 λb o g nd=>?_);let⟨sl,g1⟩:=a4 b o g nd;let⟨sl2,g2⟩:=b2 b _ g1 nd;exact⟨sl2,g2⟩
end
def CX1(P:Z7)(w:ZR):CXT:=λouter H s E e s'=>∃(ea CC:Addr) (H':Hp) (B:Heap),e=.ref ea/\s'.os=s.os/\AllBare s'.gens/\Un (frs outer) [] H H' s.heap s'.heap/\HOk P w H' B/\
 (∀b o,s.heap.get? b=some o->b∉frs outer->∃o',B.get? b=some o')/\(∀b o,s.heap.get? b=some o->H b=none->b∉frs outer->B.get? b=some o)/\Fly B outer ea (.ref CC) s'.heap/\E e (some CC) H'
def wU{h B:Heap}{env:Env}{l:List Env}(x:h.FunFrames B (env::l)):h.FunFrames B l:=x.2.2
theorem wW{env:Env}{l:List Env}{L:Addr}(h:env.frame=some L):frs (env::l)=L::frs l:=by
 show(env::l).filterMap (·.frame)=_;rw[List.filterMap_cons_some h];rfl
variable{P:Z7}{K:Q1}{mg:Str->Option Q3}{base:Heap}{N:List Str}{q:Str}{sc:XR}{f:Addr}{cd:Q3}{s0:Q4}{H0:Hp}{E:XK}
section
variable{w:ZR}
abbrev cx1(P:Z7)(w:ZR)(K:Q1)(mg:Str->Option Q3)(base:Heap)(N:List Str)(q:Str)(sc:XR)(f:Addr)(cd:Q3)(A:ZE)(outer:List Env)(s0:Q4)(H0:Hp)(E:XK):Cx:=sL (CX1 P w) P w K mg base N q sc f cd A outer s0 H0 E
theorem sM:(envOfC q sc s0.heap.objs.size f cd).frame=some s0.heap.objs.size\/∀b_ σ H s,¬Inv (cx1 P w K mg base N q sc f cd A outer s0 H0 E) b_ σ H s:=by
 by_cases h:(envOfC q sc s0.heap.objs.size f cd).frame=some s0.heap.objs.size;exact .inl h;refine .inr λb_ σ H s I=>?_;rcases I.ok.stk with e|⟨_,e⟩;have:=congrArg List.length (show(envOfC q sc s0.heap.objs.size f cd::outer)=outer from e);simp at this;exact h e
theorem xH:iq (CX1 P w) (cx1 P w K mg base N q sc f cd A outer s0 H0 E) E:=by
 intro b_ σ H s e s' I hq;let⟨ea,CC,H',B,rfl,os,bare,un,hok,old,keep,fl,hE⟩:=hq;have f3:=fl.ff;rcases sM (P:=P) (w:=w) (K:=K) (mg:=mg) (base:=base) (N:=N) (q:=q) (sc:=sc) (f:=f) (cd:=cd) (A:=A) (outer:=outer) (s0:=s0) (H0:=H0) (E:=E)with hL|no;case inr=>exact(no _ _ _ _ I).elim
 have hst:frs (envOfC q sc s0.heap.objs.size f cd::outer)=s0.heap.objs.size::frs outer:=wW hL;have nf:∀{b:Addr} {o:Obj},s0.heap.get? b=some o->b∉frs outer->b∉frs (envOfC q sc s0.heap.objs.size f cd::outer):=λ{b o} g n z=>by
  rw[hst]at z;rcases Z8.mp z with z|z;have:=QY g;rw[z]at this;exact Zm _ this;exact n z
 have hex:∀b:Addr,b∉([]:List Addr):=λb z=>by cases z
 have ub:Un (frs outer) [] H0 H s0.heap s.heap:=I.base;refine xS (B:=B) (outer:=outer) (L:=s0.heap.objs.size) I.ok.frames hL fl λh' fl' g4=>?_;have g1:=fl'.st;have g2:=fl'.ff;have old':∀b o,s0.heap.get? b=some o->b∉frs outer->∃o',B.get? b=some o':=λb o g n=>by
  let⟨o1,h1⟩:=ub.there b o g (hex b);exact old b o1 h1 (nf g n)
 have keep':∀b o,s0.heap.get? b=some o->H0 b=none->b∉frs outer->B.get? b=some o:=λb o g z n=>keep b o (ub.keep b o g z n (hex b)) (ub.free b o g z (hex b)) (nf g n);refine⟨ea,CC,H',B,rfl,os.trans I.os,bare,?_,hok,old',keep',⟨g1,fl'.nw,wU g2,fl'.tr⟩,hE⟩;refine⟨λb o g z n _=>g1 _ _ (keep' b o g z n),λb o g z n _=>?_,λb o g z _=>?_,λb o g _=>?_,λb xs z=>un.tups b xs (ub.tups b xs z),λb ob u z=>un.frzs b ob u (ub.frzs b ob u z),λb ps z=>?_⟩;let⟨sl,e1⟩:=ub.slot b o g z n (hex b);have hb:b∈frs (envOfC q sc s0.heap.objs.size f cd::outer):=by rw[hst];exact QZ _ n
 let⟨sl2,e2⟩:=un.slot b _ e1 (ub.free b o g z (hex b)) hb (hex b);let⟨_,o3,e3,nd⟩:=f3.mem hb;rw[e2]at e3;cases e3;let⟨sl3,e4⟩:=g4 b _ e2 nd;exact⟨sl3,e4⟩;let⟨o1,h1⟩:=ub.there b o g (hex b);exact un.free b o1 h1 (ub.free b o g z (hex b)) (hex b);by_cases n:b∈frs outer;have hb:b∈frs (envOfC q sc s0.heap.objs.size f cd::outer):=by rw[hst];exact QZ _ n
 let⟨_,o3,e3,_⟩:=g2.mem hb;exact⟨o3,e3⟩;let⟨o',e⟩:=old' b o g n;exact⟨o',g1 _ _ e⟩;let⟨m1,e1⟩:=ub.tbls b ps z;let⟨m2,e2⟩:=un.tbls b _ e1;exact⟨m1++m2,by rw[e2,Array.append_assoc]⟩
theorem B5{b_:List (Addr×Obj)}{σ:L2.St}{H:Hp}{s:Q4}{h':Heap}{e CC:Addr}{vs:List Q3}(I:Inv (cx1 P w K mg base N q sc f cd A outer s0 H0 E) b_ σ H s)(hm:s.heap.MadeExcOf h' e (.ref CC) vs)(hE:E (.ref e) (some CC) H) :
  (cx1 P w K mg base N q sc f cd A outer s0 H0 E).xe (.ref e) { s with heap:=h' }:=by
 rcases sM (P:=P) (w:=w) (K:=K) (mg:=mg) (base:=base) (N:=N) (q:=q) (sc:=sc) (f:=f) (cd:=cd) (A:=A) (outer:=outer) (s0:=s0) (H0:=H0) (E:=E)with hL|no;case inr=>exact(no _ _ _ _ I).elim
 have hst:frs (envOfC q sc s0.heap.objs.size f cd::outer)=s0.heap.objs.size::frs outer:=wW hL;have hex:∀b:Addr,b∉([]:List Addr):=λb z=>by cases z
 have ub:Un (frs outer) [] H0 H s0.heap s.heap:=I.base;have nf:∀{b:Addr} {o:Obj},s0.heap.get? b=some o->b∉frs outer->b∉frs (envOfC q sc s0.heap.objs.size f cd::outer):=λ{b o} g n z=>by
  rw[hst]at z;rcases Z8.mp z with z|z;have:=QY g;rw[z]at this;exact Zm _ this;exact n z
 obtain⟨B,hB⟩:∃B,B=PySem.W.hideAll s.heap (frs (envOfC q sc s0.heap.objs.size f cd::outer)):=⟨_,rfl⟩;have bs:B.StaysIn s.heap:=λb o g=>by rw[hB]at g;exact PySem.W.of_hideAll _ g
 have bg:∀{b:Addr} {o:Obj},s.heap.get? b=some o->b∉frs (envOfC q sc s0.heap.objs.size f cd::outer)->B.get? b=some o:=λg n=>by rw[hB];exact PySem.W.hideAll_get _ g n
 have bf:s.heap.FunFrames B (envOfC q sc s0.heap.objs.size f cd::outer):=by
  rw[hB];exact PySem.W.funFrames_hide I.stack λenv he a ha=>List.mem_filterMap.mpr ⟨env,he,ha⟩
 let⟨tt,om,_,_⟩:=hm.there;have ne:B.get? e=none:=by
  cases z:B.get? e with
  |none=>rfl
  |some o=>have:=bs e o z;rw[hm.new]at this;cases this
 refine uC (s:={ s with heap:=h' }) (B:=B) (outer:=outer) (L:=s0.heap.objs.size) I.ok.frames (.of_keeps (λb o g nd=>⟨o,hm.keeps b o g,rfl⟩) bf) hL om (λb o g=>hm.keeps b o (bs b o g)) ne ⟨rfl,rfl⟩ rfl rfl λh2 fly up=>?_;have up1:∀b o,s.heap.get? b=some o->(∀vs:Array Q3,o.data≠.fields vs)->∃sl,h2.get? b=some { o with slots:=sl }:=λb o g nd=>up b o (hm.keeps b o g) nd;have keep':∀b o,s0.heap.get? b=some o->H0 b=none->b∉frs outer->B.get? b=some o:=λb o g z n=>bg (ub.keep b o g z n (hex b)) (nf g n);have old':∀b o,s0.heap.get? b=some o->b∉frs outer->∃o',B.get? b=some o':=λb o g n=>by
  let⟨o1,h1⟩:=ub.there b o g (hex b);exact⟨o1,bg h1 (nf g n)⟩
 have hok:HOk P w H B:=λa o ha=>cU.stay (I.hok a o ha) (λb u hb g=>bg g λz=>by
  have hz:=I.stkFree b z;rcases hb with rfl|hb;rw[ha]at hz;cases hz;rw[hb]at hz;cases hz) (λ_ z=>z) λ_ _ z=>z
 refine⟨e,CC,H,B,rfl,I.os,I.bare,?_,hok,old',keep',⟨fly.st,fly.nw,wU fly.ff,fly.tr⟩,hE⟩;refine⟨λb o g z n _=>fly.st _ _ (keep' b o g z n),λb o g z n _=>?_,λb o g z _=>ub.free b o g z (hex b),λb o g _=>?_,ub.tups,ub.frzs,ub.tbls⟩;let⟨sl,e1⟩:=ub.slot b o g z n (hex b);have hb:b∈frs (envOfC q sc s0.heap.objs.size f cd::outer):=by rw[hst];exact QZ _ n
 let⟨_,o3,e3,nd⟩:=bf.mem hb;rw[e1]at e3;cases e3;let⟨sl3,e4⟩:=up1 b _ e1 nd;exact⟨sl3,e4⟩;by_cases n:b∈frs outer;have hb:b∈frs (envOfC q sc s0.heap.objs.size f cd::outer):=by rw[hst];exact QZ _ n
 let⟨_,o3,e3,nd⟩:=bf.mem hb;let⟨sl,e4⟩:=up1 b o3 e3 nd;exact⟨_,e4⟩;let⟨o',e⟩:=old' b o g n;exact⟨o',fly.st _ _ e⟩
end
abbrev bmV:List Q3:=[.type "ValueError",.type "Exception",.type "BaseException",.type "object"]
abbrev HS(K:Q1)(C:Addr):Prop:=PySem.W.excIn K C bmV "ValueError.__new__"=true
theorem AH{K:Q1}{h:Heap}{C:Addr}{bmB:List Q3}{RQ:String}(X:K.In h)(q:PySem.W.excIn K C bmB RQ=true) :
  ∃bm N nm q bs hdct sn sub ab col dd k0 k1 k2 k3 k5,∃mN:Str->Option Q3,h.get? C=some (excClassObj nm q C N bs bm hdct sn sub ab col dd k0 k1 k2 k3 k5 RQ)/\h.Ns N mN/\mN (Str.ofString "__init__")=none/\OwnTail h bmB bm:=by
 unfold PySem.W.excIn at q;split at q;rename_i dict cd sl ho;split at q;rename_i C' bm a b c d n e hm hs;simp only[Zl,beq_iff_eq,X9]at q;let⟨⟨⟨⟨⟨q1,q2⟩,q3⟩,q4⟩,q5⟩,q6⟩:=q;subst q1 q2;let⟨nm,bs,mro,ns,qn,hd,sn,sub,ab,col,del⟩:=cd;dsimp only at hm q3 q5 q6;subst hm q3;have hsl:sl=#[a,b,c,d,some (Value.builtin n),e]:=by
  let⟨l⟩:=sl;dsimp only at hs;rw[hs]
 subst hsl;have hns:h.isNs ns=true:=PySem.W.isNs_of_in X q5;exact⟨bm,ns,nm,qn,bs,hd,sn,sub,ab,col,dict,a,b,c,d,e,h.nsMap ns,X _ _ ho,Heap.Ns.of_isNs hns,PySem.W.nsMap_none_of_in X q5 q6,PySem.W.tail_of_in X q4⟩;cases q;cases q
theorem uw{P:Z7}{w:ZR}{H:Hp}{h:Heap}{a:Addr}{o:HO}(x:cU P w H h a o):∃ob,h.get? a=some ob:=by
 cases o with
 |lst xs=>let⟨_,_,_,_,e⟩:=x;exact⟨_,e⟩
 |tup xs=>let⟨_,_,_,_,e,_⟩:=x;exact⟨_,e⟩
 |dK kvs=>let⟨_,_,_,_,o,_,_,e,_⟩:=x;exact⟨_,e⟩
 |dT kvs=>let⟨_,_,_,_,o,_,_,e,_⟩:=x;exact⟨_,e⟩
 |set S n=>let⟨o,_,_,_,e,_⟩:=x;exact⟨_,e⟩
 |ins C dx fs=>let⟨_,_,_,e,_⟩:=x;exact⟨_,e⟩
 |own y=>exact x
 |xd fs=>let⟨_,⟨_,_,_,e,_⟩,_⟩:=x;exact⟨_,e⟩
 |rng lo hi=>let⟨_,_,_,e⟩:=x;exact⟨_,e⟩
 |frz ob u=>exact⟨_,x.1⟩
 |tbl ps=>exact⟨_,x⟩
 |met f y=>exact⟨_,x⟩
 |ext φ=>exact x.2.1
section
variable{w:ZR}
def Jt(C:Addr)(E:XK)(t:TA):TS:=λD σ H=>t σ H λvs H1=>vs.length<=QU/\∀e,H1 e=none->E (.ref e) (some C) H1
theorem Cg{x:Str}{C:Addr}{np j_ pos:Pos}{arg:QF}{es:List QF}{t:TA}(hg:Gl (cx1 P w K mg base N q sc f cd A outer s0 H0 E) x)(hm:mg x=some (.ref C))(hx:HS K C)(ha:PA (cx1 P w K mg base N q sc f cd A outer s0 H0 E) (arg::es) t)
  (hs:Q6 (arg::es) (cx1 P w K mg base N q sc f cd A outer s0 H0 E).env=(false,eval arg (cx1 P w K mg base N q sc f cd A outer s0 H0 E).env)::Q6 es (cx1 P w K mg base N q sc f cd A outer s0 H0 E).env:=by rfl)
  (hpl:(ZL j_ (Q6 es (cx1 P w K mg base N q sc f cd A outer s0 H0 E).env)).any (·.1)=false:=by rfl) (hd:(x == ("__debug__":Str))=false:=by decide) :
  PS (cx1 P w K mg base N q sc f cd A outer s0 H0 E) (.Raise (some (.Call (.Name x np) (arg::es) [] j_)) none pos) (Jt C E t):=by
 intro b_ s σ H D I h;let⟨bm,Nn,nm,qn,bs,hdct,sn,sub,ab,col,dd,k0,k1,k2,k3,k5,mN,o1,o2,o3,o4⟩:=AH I.ok.mod.kin hx;have hb:bm.contains (.type "BaseException")=true:=o4.hasType ∅;refine wpAny_Raise_call_subT (nm:=nm) (q:=qn) (C:=C) (N:=Nn) (bs:=bs) (bm:=bm) (hdct:=hdct) (sn:=sn) (sub:=sub) (ab:=ab) (col:=col) (dd:=dd) (k0:=k0) (k1:=k1) (k2:=k2) (k3:=k3) (k5:=k5) PySem.F.excBase_ValueError hb (I.ok.hd rfl) (by rw[hs];show(false||(ZL j_ (Q6 es _)).any (·.1))=false;rw[hpl];rfl) o3 (mV I hg hm ⟨rfl,?_⟩ hd);have hA:=ha j_ b_ s σ H _ I h;rw[hs]at hA ⊢;refine Calls.evalArgs_plain (thn hA λus s2 hz=>?_);let⟨vs,H2,I2,r2,hl,q⟩:=hz;refine⟨rfl,by rw[<-r2.length];exact hl,I2.bk _ _ o1,o2.keeps I2.bk,o4.keeps I2.bk,λh' e hm2=>?_⟩;have he:H2 e=none:=by
  cases hz:H2 e with
  |none=>rfl
  |some o=>
   have hlt:=I2.hok.lt hz;have hn:=hm2.new;obtain⟨ob,ho⟩:∃ob,s2.heap.get? e=some ob:=uw (I2.hok e o hz);rw[ho]at hn;cases hn
 exact B5 I2 hm2 (q e he)
end
theorem HD{i:Int}(h0:0<=i)(h1:i<1000):(Str.ofString (toString i)).length<=10:=by
 have key:∀k:Fin 1000,(Str.ofString (toString ((k.val:Nat):Int))).length<=10:=by decide +kernel
 have:=key ⟨i.toNat,⋯⟩;simp only[Int.toNat_of_nonneg h0]at this;exact this
variable{X:Cx}{e:QF}{pos:Pos}{ce:CE}
section
variable{v1 v2:QF}{fp:Pos}{x1 x2:Str}{te:TE}
def tFs(x1 x2:Str)(te:TE):TE:=λσ H Q=>te σ H λv H1=>∃i,v=.int i/\(0<=i/\i<1000)/\Q (.str (x1++Str.ofString (toString i)++x2)) H1
theorem NY(l1:x1.length<=500)(l2:x2.length<=500)(h1:PE X v1 (tC (.str x1)))(he:PE X e te)(h2:PE X v2 (tC (.str x2))):PE X (.JoinedStr [v1,.FormattedValue e (-1) none fp,v2] pos) (tFs x1 x2 te):=by
 intro b_ s σ H Q I h;have big:(2000:Nat)<=QU:=by unfold QU;decide
 refine wpAny_JoinedStr (Joins_cons (thn (h1 b_ s σ H (λv H1=>v=.str x1/\tFs x1 x2 te σ H1 Q) I ⟨rfl,h⟩) λv s1 hz=>?_));let⟨y,H1,I1,r1,rfl,h⟩:=hz;let⟨t1,rfl⟩:=(show ∃t,v=Value.str x1 t from r1);have hs0:(Str.empty++x1).length=x1.length:=by rw[Str.length_append];exact YR _
 refine⟨x1,t1,rfl,⋯,Joins_cons (wpAny_FormattedValue_plain (thn (he b_ s1 σ H1 _ I1 h) λw s2 hz=>?_))⟩;let⟨z,H2,I2,r2,i,rfl,⟨i0,i1⟩,q⟩:=hz;let⟨t2,rfl⟩:=(show ∃t,w=Value.int i t from r2);have dl:=HD i0 i1;have hlog:i.natAbs.log2<1920:=Nat.lt_of_le_of_lt (Nat.log2_le_self _) ⋯;have hs1:(Str.empty++x1++Str.ofString (toString i)).length<=510:=by rw[Str.length_append,hs0];omega
 refine wpAny_formatField_int hlog ⟨_,_,rfl,⋯,Joins_cons (thn (h2 b_ _ σ H2 (λv H1=>v=.str x2/\Q (.str (x1++Str.ofString (toString i)++x2)) H1) (I2.tok _) ⟨rfl,q⟩) λv s3 hz=>?_)⟩;let⟨y,H3,I3,r3,rfl,q⟩:=hz;let⟨t3,rfl⟩:=(show ∃t,v=Value.str x2 t from r3);have hs2:(Str.empty++x1++Str.ofString (toString i)++x2).length<=1010:=by rw[Str.length_append];omega
 refine⟨x2,t3,rfl,⋯,Joins_nil ⟨⋯,?_⟩⟩;have e0:Str.empty++x1=x1:=Str.empty_append _;rw[e0];exact⟨.str _,H3,I3.tok _,⟨_,rfl⟩,q⟩
def cFs(x1 x2:Str)(ce:CE):CE:=λρ S=>(ce ρ S).bind λp=>match p.1 with
 |.int i=>if 0<=i/\i<1000 then some (.str (x1++Str.ofString (toString i)++x2),p.2)else none
 |_=>none
theorem L7(l1:x1.length<=500)(l2:x2.length<=500)(h1:WE X v1 (tC (.str x1)))(he:QE X e ce)(h2:WE X v2 (tC (.str x2))):QE X (.JoinedStr [v1,.FormattedValue e (-1) none fp,v2] pos) (cFs x1 x2 ce):=
 (show WE X _ _ from⟨NY l1 l2 h1.h he.h h2.h⟩).imp λσ H Q hz=>kY hz λm ρ S u S' sr lr hc post=>by
 let⟨⟨x,S1⟩,h1,h⟩:=Q0.mp hc;refine⟨m,ρ,S,x,S1,sr,lr,h1,λm1 v1 H1 e1 sr1 i1=>?_⟩;cases x<;>simp only at h<;>(first|cases h|skip);split at h;rename_i hi;cases h;exact⟨_,i1.of_int,hi,post m1 _ H1 e1 sr1 .str_⟩;cases h
end
abbrev CR:=Rho->Sto->Option (Addr×Sto)
abbrev FnR:=List U->Sto->Option (Addr×Sto)
def Bj(K:Q1)(m:List Addr)(H:Hp)(E:XK)(c:Addr)(S':Sto):Prop:=∀m' ea H',Ext K m H m' H'->Sr K m' S' H'->H' ea=none->E (.ref ea) (some c) H'
theorem Bj.mono{K:Q1}{m m1:List Addr}{H H1:Hp}{E:XK}{c:Addr}{S':Sto}(h:Bj K m H E c S')(e:Ext K m H m1 H1):Bj K m1 H1 E c S':=λm' ea H' e'=>h m' ea H' (e.trans e')
def tX(K:Q1)(E:XK)(x:CR)(σ:L2.St)(H:Hp):Prop:=∃m ρ S c S',Sr K m S H/\Lr K m H ρ σ/\x ρ S=some (c,S')/\Bj K m H E c S'
abbrev RE(X:Cx)(E:XK)(e:QF)(x:CR):Prop:=WE X e λσ H _=>tX X.K E x σ H
abbrev RS(X:Cx)(E:XK)(st:ZC)(x:CR):Prop:=WS X st λ_=>tX X.K E x
abbrev RSs(X:Cx)(E:XK)(sts:List ZC)(x:CR):Prop:=WSs X sts λ_=>tX X.K E x
def spX(K:Q1)(f:FnR):Sp:=λvs H _ E=>∃m us S c S',IsL K m H vs us/\Sr K m S H/\f us S=some (c,S')/\Bj K m H E c S'
variable{st:ZC}{x x1 x2:CR}
section
variable{sts s1 s2:List ZC}{c1:CS}{c:QF}{t:CT}
def bZ(h:RS X E st x):RSs X E (st::sts) x:=(mr h (ot (X:=X) (sts:=sts))).imp λD σ H hz=>hz
def Jd(c1:CS)(x:CR):CR:=λρ S=>(c1 ρ S).bind λr=>match r.1 with
 |.nx=>x r.2.1 r.2.2
 |_=>none
theorem Ex(h1:QS X st c1)(h2:RSs X E sts x):RSs X E (st::sts) (Jd c1 x):=(mr h1 h2).imp λD σ H hz=>by
 let⟨m,ρ,S,c,S',sr,lr,hc,post⟩:=hz;let⟨⟨o1,ρ1,S1⟩,h1,h2⟩:=Q0.mp hc;refine⟨m,ρ,S,o1,ρ1,S1,sr,lr,h1,?_⟩;cases o1 with
 |nx=>exact λm1 σ1 H1 e1 sr1 lr1=>⟨m1,ρ1,S1,c,S',sr1,lr1,h2,post.mono e1⟩
 |_=>cases h2
def xIf(t:CT)(x1 x2:CR):CR:=λρ S=>(t ρ S).bind λp=>if p.1=true then x1 ρ p.2 else x2 ρ p.2
theorem BZ(hc:QT X c t)(h1:RSs X E s1 x1)(h2:RSs X E s2 x2):RS X E (.If c s1 s2 pos) (xIf t x1 x2):=(Em hc h1 h2).imp λD σ H hz=>by
 let⟨m,ρ,S,c,S',sr,lr,hc,post⟩:=hz;let⟨⟨k,S1⟩,h1,h2⟩:=Q0.mp hc;refine⟨m,ρ,S,k,S1,sr,lr,h1,λm1 H1 e1 sr1=>?_⟩;cases k with
 |true=>exact HZ ⟨m1,ρ,S1,c,S',sr1,lr.mono e1,h2,post.mono e1⟩
 |false=>exact Ia ⟨m1,ρ,S1,c,S',sr1,lr.mono e1,h2,post.mono e1⟩
def xNo:CR:=λ_ _=>none
theorem BY:RSs X E sts xNo:=(ot (X:=X) (sts:=sts)).imp λD σ H hz=>by
 let⟨m,ρ,S,c,S',sr,lr,hc,post⟩:=hz;cases hc
theorem ra{i:Nat}{y:Str}{np:Pos}(nd:X.N.Nodup)(hi:X.N[i]?=some y)(hx:Loc X.env.scope y)(he:RE X E e x)(hs:Zc e (some (.Name y np)) pos.line X.env=pure false:=by rfl)(hf:X.fn y=true\/X.env.scope.names.lookup y=some .local:=by first|exact .inl rfl|exact .inr rfl|assumption):RS X E (.Assign [.Name y np] e pos) x:=(yD nd hi hx he hs hf).imp λD σ H hz=>hz
theorem Gi(he:RE X E e x)(hs:Zc e none pos.line X.env=pure false:=by rfl):RS X E (.Expr e pos) x:=(vF he hs).imp λD σ H hz=>hz
end
structure eO(P:Z7)(w:ZR)(K:Q1)(mg:Str->Option Q3)(base:Heap)(c:Cl)(mn:Str)(k:Nat)(ps:List Str)(f:FnR):Prop where
 ex:∃fa fd,Ed K c.C mn fa/\kF P w K mg base (CX1 P w) k fa fd ps (spX K f)/\gR K fd ps []
open Classical in
def iE(c:Cl)(f:FnR)(ca:CE)(cr:CA):CR:=λρ S=>(ca ρ S).bind λp=>match p.1 with
 |.ref l=>match p.2[l]? with
  |some (.ins c' _)=>if c'=c then(cr ρ p.2).bind λq=>f (.ref l::q.1) q.2 else none
  |_=>none
 |_=>none
variable{c:Cl}{mn:Str}{g:FnR}{ps:List Str}{o:QF}{es:List QF}{co:CE}{i_:Pos}{pl:Sem Bool}
section
variable{k:Nat}{cr:CA}
theorem rG{K:Q1}{Q:VK}{σ:L2.St}{H:Hp}(hmn:mn∉c.ns)(h:tX K E (iE c g co cr) σ H):ud c.C mn (spX K g) [] E (tE K co) (tA K cr) σ H Q:=by
 let⟨m,ρ,S,cl,S',sr,lr,hc,post⟩:=h;let⟨⟨x,S1⟩,h1,h2⟩:=Q0.mp hc;refine⟨m,ρ,S,x,S1,sr,lr,h1,λm1 v1 H1 e1 sr1 i1=>?_⟩;cases x with
 |ref l=>
  simp only at h2;split at h2<;>try cases h2
  rename_i c' fus hS;split at h2<;>try cases h2
  rename_i hc';subst hc';let⟨⟨us,S2⟩,h3,h4⟩:=Q0.mp h2;let⟨a,ha,rfl⟩:=i1.of_ref;let⟨a',ha',dx,fs,hx,inf⟩:=sr1.get hS;rw[ha]at ha';cases ha';refine⟨a,dx,fs,rfl,hx,inf.none_ hmn,m1,ρ,S1,us,S2,sr1,lr.mono e1,h3,λm2 vs H2 e2 sr2 i2=>?_⟩;exact⟨m2,_,S2,cl,S',.cons_ (i1.mono e2) ‹i2›,sr2,h4,post.mono (e1.trans e2)⟩
 |_=>cases h2
theorem kM(hcl:Cls X.K c.C)(F:eO X.prog X.w X.K X.mg X.base c mn k ps g)(hr:eN k X.A)(hp:iq (CX1 X.prog X.w) X E)(hmn:mn∉c.ns)(ho:QE X o co)(ha:QA X (e::es) cr)
  (hst:Q6 (e::es) X.env=(false,eval e X.env)::Q6 es X.env:=by rfl) (hpl:(ZL pos (Q6 es X.env)).any (·.1)=false:=by rfl) (ht:eval (.Call (.Attribute o mn i_) (e::es) [] pos) X.env=(do
   let ov <-eval o X.env
   standAt i_.atName
   let (f,first) <-holding [ov] (getMethod ov mn pl)
   callWith pos f first (ZL pos (Q6 (e::es) X.env)) (backToKw pos (keywordEach [] X.env))):=by rfl):RE X E (.Call (.Attribute o mn i_) (e::es) [] pos) (iE c g co cr):=by
 let⟨fa,fd,hm,F,hb⟩:=F.ex;exact(vG ho hcl hm F hr hb .nil hp ha.h hst hpl ht).imp λσ H Q h=>rG hmn h
end
def fnX(n k:Nat)(x:CR):FnR:=λus S=>if us.length=k then x (oz n us) S else none
section
variable{w:ZR}{y:Str}{k:Nat}{cl:Cl}
theorem Ga{vs:List V}{H:Hp}{Q:VK}{E:XK}{n k:Nat}(h:spX K (fnX n k x) vs H Q E):vs.length=k:=by
 let⟨m,us,S,u,S',i,sr,hf,post⟩:=h;unfold fnX at hf;split at hf;rename_i e;rw[i.length,e];cases hf
theorem Dx{vs:List V}{H:Hp}{Q:VK}{E:XK}(h:spX K (fnX N.length ps.length x) vs H Q E):tX K E x (L2.jC N vs) H:=by
 let⟨m,us,S,c,S',i,sr,hf,post⟩:=h;unfold fnX at hf;split at hf;exact⟨m,_,S,c,S',sr,wD i,hf,post⟩;cases hf
theorem MtD.pureR(d:MtD K cl.C y q st ps)(S:aN N ps (ax st))
  (hb:∀(f:Addr) (cdv:Q3) (A:ZE) (outer:List Env) (s:Q4) (H:Hp) (E:XK),eN k (A.deeper (envOfC q (ax st) s.heap.objs.size f cdv))->RSs (cx1 P w K mg base N q (ax st) f cdv A outer s H E) E (cM st) x) :
  eO P w K mg base cl y (k+1) ps (fnX N.length ps.length x):=by
 let⟨fa,fd,F,b,m⟩:=d;let⟨oc,od,kV,doc,pm,an,cdv,ct,osl,rfl,lk,hcd⟩:=F.ex;exact⟨fa,_,m,Hx lk hcd S (λvs H Q E h=>Ga h) λA outer s H vs Q E hr h=>⟨_,(hb fa cdv A outer s H E hr).h,Dx h⟩,b⟩
def mq(C:Addr)(cr:CA):CR:=λρ S=>(cr ρ S).bind λp=>some (C,p.2)
theorem me{sc:XR}{f:Addr}{cd:Q3}{A:ZE}{outer:List Env}{s0:Q4}{H0:Hp}{E:XK}{C:Addr}{np j_ pos:Pos}{arg:QF}{z:Str}{cr:CA}(hg:Gl (cx1 P w K mg base N q sc f cd A outer s0 H0 E) z)(hm:mg z=some (.ref C))(hx:HS K C)(ha:QA (cx1 P w K mg base N q sc f cd A outer s0 H0 E) [arg] cr)
  (hs:Q6 [arg] (cx1 P w K mg base N q sc f cd A outer s0 H0 E).env=(false,eval arg (cx1 P w K mg base N q sc f cd A outer s0 H0 E).env)::Q6 [] (cx1 P w K mg base N q sc f cd A outer s0 H0 E).env:=by rfl) (hd:(z == ("__debug__":Str))=false:=by decide) :
  RS (cx1 P w K mg base N q sc f cd A outer s0 H0 E) E (.Raise (some (.Call (.Name z np) [arg] [] j_)) none pos) (mq C cr):=
 (show WS _ _ _ from⟨Cg hg hm hx ha.h.h hs rfl hd⟩).imp λD σ H hz=>by
 let⟨m,ρ,S,c,S',sr,lr,hc,post⟩:=hz;let⟨⟨us,S1⟩,h1,h2⟩:=Q0.mp hc;cases h2;refine⟨m,ρ,S,us,_,sr,lr,h1,λm1 vs H1 e1 sr1 i1=>⟨?_,λe he=>post m1 e H1 e1 sr1 he⟩⟩;rw[i1.length,ha.len _ _ _ _ h1];unfold QU;simp
end
abbrev xU(X:Cx)(ea:Addr):Cx:={ X with A:=X.A.mark (some (.ref ea)),calm:=false }
section
variable{b_:List (Addr×Obj)}{σ:L2.St}{H H':Hp}{ea CC:Addr}
theorem Inv.hold(I:Inv X b_ σ H s)(ea:Addr):Inv (xU X ea) b_ σ H s:=
 ⟨⟨I.ok.mod,I.ok.kind,I.ok.glob,I.ok.blt,I.ok.above,I.ok.inj,I.ok.has,I.ok.cab,(λz=>by cases z),I.ok.frames,I.ok.stk,I.ok.exf,I.ok.bs,I.ok.bsz,I.ok.noex,I.ok.exfs,I.ok.funs,I.ok.frf⟩,I.os,I.bare,I.base,I.loc,I.cell,I.free,I.freeC,I.pin,I.hok,I.len⟩
theorem Inv.unhold(hh:X.Ok)(I:Inv (xU X ea) b_ σ H s):Inv X b_ σ H s:=⟨hh,I.os,I.bare,I.base,I.loc,I.cell,I.free,I.freeC,I.pin,I.hok,I.len⟩
theorem Inv.unset{i:Nat}{x:Str}{h':Heap}{m:Str->Option Q3}{u:Option Q3}(I:Inv X b_ σ H s)(hN:X.N.Nodup)(hi:X.N[i]?=some x)(hk:X.env.scope.names.lookup x=some .local)(hn:s.heap.Ns X.env.locals m)
  (hl:∀(j:Nat) (y:Str) (v:V),X.N[j]?=some y->σ[j]?=some (some v)->Vis X.env.scope y->∃u,bS v u/\P7 X.env s.heap m y u)
  (hn':h'.Ns X.env.locals λy=>if y=x then u else m y) (hs:Heap.SameBut X.env.locals s.heap h'):Inv X b_ (σ.set i none) H { s with heap:=h' }:=by
 have cne:=I.cne;let⟨oL,_,_,hoL,_⟩:=id hn;have tracked:HOk X.prog X.w H h':=λb ob e=>by
  refine(I.hok b ob e).stay (λc w' hc q=>(hs.2 c ?_).trans q) (λ_ q=>q) λ_ _ q=>q;rintro rfl;rcases hc with rfl|hc;rw[I.free]at e;cases e;rw[I.free]at hc;cases hc
 refine⟨I.ok,I.os,I.bare,⟨λb o e n hb hx=>?_,λb o e n hb hx=>?_,I.base.free,λb o e hx=>?_,I.base.tups,I.base.frzs,I.base.tbls⟩,⟨_,hn',λj y v' e1 e2 e3=>?_⟩,λy c e=>?_,I.free,I.freeC,λp hp=>?_,tracked,by simpa using I.len⟩;exact(hs.2 b (ZZ (QN (QY e) I.ok.above))).trans (I.base.keep b o e n hb hx);let⟨sl,e1⟩:=I.base.slot b o e n hb hx;exact⟨sl,(hs.2 b (ZZ (QN (QY e) I.ok.above))).trans e1⟩;let⟨o',e1⟩:=I.base.there b o e hx;exact⟨o',(hs.2 b (ZZ (QN (QY e) I.ok.above))).trans e1⟩;by_cases hj:j=i;subst hj;have hiσ:j < σ.length:=by rw[I.len];exact(Q8.mp hi).1
 rw[XX hiσ]at e2;cases e2;rw[ZK (Ne.symm hj)]at e2;let⟨u',r',q⟩:=hl j y v' e1 e2 e3;refine⟨u',r',?_⟩;rcases q with⟨k,e⟩|⟨k,c,e,z⟩;refine .inl ⟨k,?_⟩;have:y≠x:=λe=>hj (pN hN e1 (e▸hi));simp[this,e];exact .inr ⟨k,c,e,z.sameBut hs (cne y c e)⟩;let⟨w',z⟩:=I.cell y c e;exact⟨w',z.sameBut hs (cne y c e)⟩;let⟨e,n,ne,nf,d⟩:=I.pin p hp;exact⟨(hs.2 p.1 ne).trans e,n,ne,nf,d⟩
theorem Eo{l:List Env}{s1:Q4}{h h3 B:Heap}{H1:Hp}{C:Q3}(un:Un (frs l) [] H1 H' s1.heap h)(old:∀b o,s1.heap.get? b=some o->b∉frs l->∃o',B.get? b=some o')(keep:∀b o,s1.heap.get? b=some o->H1 b=none->b∉frs l->B.get? b=some o)
  (ff:h.FunFrames B l) (fl:Fly B l ea C h3) (up:h.UpToSlots h3):Un (frs l) [] H1 H' s1.heap h3:=by
 refine⟨λb o g z n _=>fl.st _ _ (keep b o g z n),λb o g z n hx=>?_,un.free,λb o g _=>?_,un.tups,un.frzs,un.tbls⟩;let⟨sl,e1⟩:=un.slot b o g z n hx;let⟨_,o3,e3,nd⟩:=ff.mem n;rw[e1]at e3;cases e3;let⟨sl3,e4⟩:=up b _ e1 nd;exact⟨sl3,e4⟩;by_cases n:b∈frs l;let⟨_,o3,e3,_⟩:=fl.ff.mem n;exact⟨o3,e3⟩;let⟨o',e⟩:=old b o g n;exact⟨o',fl.st _ _ e⟩
theorem Jo{l:List Env}{s1:Q4}{h3 B:Heap}{H1:Hp}{C:Q3}(un:Un (frs l) [] H1 H' s1.heap h3)(old:∀b o,s1.heap.get? b=some o->b∉frs l->∃o',B.get? b=some o')(he:H' ea=none)(fl:Fly B l ea C h3)(o:HO):Un (frs l) [] H1 (upd H' ea o) s1.heap h3:=by
 have ne:∀b ob,s1.heap.get? b=some ob->b≠ea:=λb ob g z=>by
  by_cases n:b∈frs l;let⟨_,o3,e3,nd⟩:=fl.ff.mem n;let⟨oe,vs,_,_,_,g1,_,g3,_⟩:=fl.tr;rw[z,g1]at e3;cases e3;exact nd vs g3;let⟨o',e⟩:=old b ob g n;rw[z,fl.nw]at e;cases e
 have nt:∀b u,H' b=some u->b≠ea:=λb u g z=>by rw[z,he]at g;cases g
 refine⟨un.keep,un.slot,λb ob g z hx=>by rw[aH (ne b ob g)];exact un.free b ob g z hx,un.there,λb xs z=>?_,λb ob u z=>?_,λb ps z=>?_⟩;have:=un.tups b xs z;rw[aH (nt b _ this)];exact this;have:=un.frzs b ob u z;rw[aH (nt b _ this)];exact this;let⟨mo,this⟩:=un.tbls b ps z;exact⟨mo,by rw[aH (nt b _ this)];exact this⟩
theorem Hu{P:Z7}{w:ZR}{B h3:Heap}{l:List Env}(hok:HOk P w H' B)(he:H' ea=none)(fl:Fly B l ea (.ref CC) h3):HOk P w (upd H' ea (tQ ea CC)) h3:=λb o e=>by
 by_cases hb:b=ea;subst hb;rw[aF]at e;cases e;let⟨oe,vs,_,_,_,g1,g2,g3,_⟩:=fl.tr;exact⟨⟨oe,g1,g2.1,g2.2,vs,g3⟩,⟨oe,g1⟩,λh1 h2 ⟨o,g,r⟩ m=>⟨o,m o g,r⟩⟩;rw[aH hb]at e;refine(hok b o e).stay (λc u _ g=>fl.st c u g) (λc z=>?_) λc xs z=>?_;rw[aH λy=>by rw[y,he]at z;cases z];exact z;rw[aH λy=>by rw[y,he]at z;cases z];exact z
end
def LL(X:Cx)(b_:List (Addr×Obj))(σ:L2.St)(E:XK)(e:Q3)(s':Q4):Prop:=∃H1 s1,Inv X b_ σ H1 s1/\CX1 X.prog X.w X.stack H1 s1 E e s'
def PXE(X:Cx)(e:QF)(te:L2.St->Hp->XK->Prop):Prop:=∀(b_:List (Addr×Obj)) (s:Q4) (σ:L2.St) (H:Hp) (E:XK),Inv X b_ σ H s->te σ H E->wpAny (ZQ X.prog X.w) X.A (eval e X.env) (λ_ _=>False) (LL X b_ σ E) s
def PXs(X:Cx)(sts:List ZC)(te:L2.St->Hp->XK->Prop):Prop:=∀(b_:List (Addr×Obj)) (s:Q4) (σ:L2.St) (H:Hp) (E:XK),Inv X b_ σ H s->te σ H E->wpAny (ZQ X.prog X.w) X.A (execs sts X.env) (λ_ _=>False) (LL X b_ σ E) s
variable{C:Addr}{te:L2.St->Hp->XK->Prop}
section
variable{k:Nat}{fd:Zo}{sp:Sp}{m:Str}{ta:TE}{t:TA}{te2:L2.St->Hp->XK->Prop}
theorem Gu{pl:Sem Bool}(hx:∀e s,¬X.xe e s)(he:PE X o ta)(c:Cls X.K C)(hm:Ed X.K C m f)(F:kF X.prog X.w X.K X.mg X.base (CX1 X.prog X.w) k f fd ps sp)(hr:eN k X.A)(hb:gR X.K fd ps [])(ha:PA X (e::es) t)
  (hst:Q6 (e::es) X.env=(false,eval e X.env)::Q6 es X.env:=by rfl) (hpl:(ZL pos (Q6 es X.env)).any (·.1)=false:=by rfl)
  (ht:eval (.Call (.Attribute o m i_) (e::es) [] pos) X.env=(do
   let ov <-eval o X.env
   standAt i_.atName
   let (f,first) <-holding [ov] (getMethod ov m pl)
   callWith pos f first (ZL pos (Q6 (e::es) X.env)) (backToKw pos (keywordEach [] X.env))):=by rfl) :
  PXE X (.Call (.Attribute o m i_) (e::es) [] pos) (λσ H E=>ud C m sp [] E ta t σ H λ_ _=>False):=by
 intro b_ s σ H E I h;refine PySem.W.methodCall_KW (pl:=pl) (ZN (he b_ s σ H _ I h) (λu s1 hz=>?_) λe s x=>(hx e s x).elim) ht;let⟨x,H1,I1,rx,a,dx,fs,ex,ea,l,q⟩:=hz;subst ex;obtain rfl:u=Value.ref a:=rx;refine kX I1 ea c hm l ?_;refine PySem.W.callWith_K (first:=[.ref a]) (h₀:=X.base) I.ok.mod.kin hm.kp (ZN (ha pos b_ s1 σ H1 _ I1 q) (λus s2 hz=>?_) λe s x=>(hx e s x).elim) hst hpl;let⟨vs,H2,I2,r,q2⟩:=hz;refine⟨I2.kIn,?_⟩;have r2:bE (.ref a::vs) (.ref a::us):=.cons rfl r;rw[Zv]at q2;have hl:(Value.ref a::us).length=ps.length:=by rw[<-r2.length];exact F.len _ _ _ _ q2
 have hb':=hb s2 (.ref a::us) I2.kIn (by rw[Zv];exact hl);rw[Zv]at hb';refine wpAny_call (codeAny_mono (F.run X.A X.stack s2 H2 ⟨.ref a::us,[]⟩ (.ref a::us) (.ref a::vs) _ E hr I2.env0 hb' r2 q2) λr s' hq=>?_);cases r with
 |error e=>exact⟨H2,s2,I2,hq⟩
 |ok fl=>
  cases fl with
  |ret u=>let⟨_,_,_,_,_,_,_,z⟩:=hq;exact z
  |next=>exact False.elim hq
  |brk=>exact False.elim hq
  |cont=>exact False.elim hq
theorem JU{x:Str}{g_:Pos}(he:PXE X e te)(hs:Zc e (some (.Name x g_)) pos.line X.env=pure false:=by rfl):PXs X [.Assign [.Name x g_] e pos] te:=by
 intro b_ s σ H E I h;refine wpAny_execs_cons ?_;exact wpAny_Assign_Name (ZN (he b_ s σ H E I h) (λ_ _ z=>z.elim) λ_ _ z=>z) hs
theorem NQ{c:QF}{s1 s2:List ZC}{tc:TT}(hx:∀e s,¬X.xe e s)(hc:PT X c tc)(h1:PXs X s1 te)(h2:PXs X s2 te2):PXs X [.If c s1 s2 pos] (λσ H E=>tc σ H λb H1=>if b=true then te σ H1 E else te2 σ H1 E):=by
 intro b_ s σ H E I h;refine wpAny_execs_cons (wpAny_If (ZN (hc b_ s σ H _ I h) (λb s1' hz=>?_) λe s x=>(hx e s x).elim));let⟨H1,I1,q⟩:=hz;cases b with
 |true=>exact ZN (h1 b_ s1' σ H1 E I1 ‹q›) (λ_ _ z=>z.elim) λ_ _ z=>z
 |false=>exact ZN (h2 b_ s1' σ H1 E I1 ‹q›) (λ_ _ z=>z.elim) λ_ _ z=>z
end
def Lq(i:Nat)(D:yk):yk:={ nx:=λσ' H'=>D.nx (σ'.set i none) H',rt:=λ_ _=>False }
def eX(X:Cx)(CG:Addr)(i:Nat)(ts:TS)(D:yk)(σ:L2.St):XK:=λe c H'=>∃ea CC,e=.ref ea/\c=some CC/\H' ea=none/\PySem.W.exmOne X.K (.ref CC) (.ref CG)=some true/\ts (Lq i D) (σ.set i (some (.ref ea))) (upd H' ea (tQ ea CC))
theorem oY{h1 h2 h3:Heap}(a:h1.UpToSlots h2)(b:h2.UpToSlots h3):h1.UpToSlots h3:=λc o g nd=>by
 let⟨sl,g1⟩:=a c o g nd;let⟨sl2,g2⟩:=b c _ g1 nd;exact⟨sl2,g2⟩
theorem Dy{B h:Heap}{l:List Env}{ea CC:Addr}(fl:Fly B l ea (.ref CC) h):∃ox,PySem.W.InstAt h ea ox CC none:=by
 let⟨oe,vs,_,_,_,g1,g2,g3,_⟩:=fl.tr;refine⟨oe,g1,g2.1,by unfold PySem.W.notCls;rw[g3],?_⟩;rw[g2.2];trivial
variable{body RB:List ZC}{b0:ZC}{n:Str}{i:Nat}{gp R7:Pos}
section
variable{tb ts:TS}{g:Str}{CG:Addr}
theorem GA(hx:∀e s,¬X.xe e s)(hst:X.stack=X.env::X.outer)(hfr:X.env.frame=some X.env.locals)(hN:X.N.Nodup)(hi:X.N[i]?=some n)(hk:X.env.scope.names.lookup n=some .local)(hg:L2.Gl X g)(hm:X.mg g=some (.ref CG))
  (hbN:PSs X body tb) (hbR:PXs X body te) (hsu:∀ea,PSs (xU X ea) (b0::RB) ts) (hd:(g == ("__debug__":Str))=false:=by decide) :
  PS X (.Try body [.ExceptHandler (some (.Name g gp)) (some n) (b0::RB) R7] [] [] pos) (λD σ H=>tb D σ H\/te σ H (eX X CG i ts D σ)):=by
 intro b_ s σ H D I h;rcases h with h|h
 ·refine wpAny_Try_except (ZN (hbN b_ s σ H D I h) (λf s1 q=>?_) λe s1 x=>(hx e s1 x).elim);cases f with
  |next=>exact wpAny_execs_nil q
  |_=>exact q
 refine wpAny_Try_except (ZN (hbR b_ s σ H _ I h) (λf s1 z=>z.elim) λe s1 hz=>?_);let⟨H1,s0,I1,ea,CC,H',B,rfl,os,bare,un,hok,old,keep,fl,ea2,CC2,e1,e2,he,hex,hts⟩:=hz;cases e1;cases e2;rw[hst]at un old keep fl;have hfs:X.A.frames=some (X.env::X.outer):=by rw[<-hst];exact I.ok.frames
 refine rE (B:=B) (outer:=X.outer) (L:=X.env.locals) hfs fl.ff hfr fl.st fl.nw fl.tr λh2 a1 a2 a3 a4=>?_;refine gW (s:={ s1 with heap:=h2 }) a1 a2 fl.nw a3 λh3 fl3 up3=>?_;have u3:=Eo un old keep fl.ff fl3 (oY a4 up3);have I3:Inv X b_ σ H' { s1 with heap:=h3 }:=I1.call' (s':={ s1 with heap:=h3 }) os (by rw[hst];exact u3) (hok.kept fl3.st) bare (λb z=>by cases z);refine wpAny_handleBy_cons (codeAny_handlers_test ?_) (by unfold byPass;intro z;cases z);refine mV (X:=xU X ea) (Inv.hold I3 ea) hg hm ?_ hd;let⟨ox,hin⟩:=Dy fl3;refine(PySem.W.exm_one (K:=X.K) I3.kIn hin.type hex) _ _ _ _ (λb o z=>z) ?_;show codeAny _ _ _ _ _;refine codeAny_handlers_suite_as (gW (s:={ s1 with heap:=h3 }) fl3.st fl3.ff fl3.nw fl3.tr λh4 fl4 up4=>?_);have u4:=Jo (Eo un old keep fl.ff fl4 (oY (oY a4 up3) up4)) old he fl4 (tQ ea CC);have I4:Inv X b_ σ (upd H' ea (tQ ea CC)) { s1 with heap:=h4 }:=I1.call' (s':={ s1 with heap:=h4 }) os (by rw[hst];exact u4) (Hu hok he fl4) bare (λb z=>by cases z);refine l7 (X:=xU X ea) (Inv.hold I4 ea) hN hi (.inl hk) (v:=.ref ea) rfl (λs5 I5=>?_) (.inr hk);refine ZN (hsu ea b_ s5 _ _ (Lq i D) I5 hts) (λf s6 hz=>?_) λe s x=>(hx e s x).elim;cases f with
 |next=>
  let⟨σ',H6,I6,q⟩:=hz;have I6':=Inv.unhold I.ok I6;refine Q2 (wpAny_bindName (l7 I6' hN hi (.inl hk) (v:=.non) rfl (λs7 I7=>?_) (.inr hk)));unfold unbindBehindTheSuite;refine wpAny_onRaise ?_;let⟨m,hn,hl⟩:=id I7.loc;have hiσ:i < σ'.length:=by rw[I6.len];exact(Q8.mp hi).1
  let⟨u,ru,lk⟩:=hl i n .non hi (by rw[XX hiσ]) (.inl hk);have hmn:∃v,m n=some v:=by
   rcases lk with⟨_,z⟩|⟨z,_⟩;exact⟨_,z⟩;rcases z with z|z;have z':X.env.scope.names.lookup n=some .cell:=z;rw[hk]at z';cases z';have z':X.env.scope.names.lookup n=some .free:=z;rw[hk]at z';cases z'
  let⟨v,hmn⟩:=hmn;refine wpAny_unbindName_local hk hn hmn (by rw[I.ok.kind];rfl) λh8 u hn8 hs8=>?_;refine⟨_,H6,Inv.unset I7 hN hi hk hn hl hn8 hs8,?_⟩;rw[List.set_set];exact q
 |brk=>let⟨_,_,_,q⟩:=hz;exact q.elim
 |cont=>let⟨_,_,_,q⟩:=hz;exact q.elim
 |ret u=>let⟨_,_,_,_,_,q⟩:=hz;exact q.elim
end
abbrev RXs(X:Cx)(sts:List ZC)(x:CR):Prop:=PXs X sts λσ H E=>tX X.K E x σ H
abbrev RXE(X:Cx)(e:QF)(x:CR):Prop:=PXE X e λσ H E=>tX X.K E x σ H
open Classical in
def DQ(Cs:List Addr)(i:Nat)(c:CS)(x:CR)(h:CS):CS:=λρ S=>match c ρ S with
 |some r=>some r
 |none=>(x ρ S).bind λp=>if p.1∈Cs then(h (ρ.set i (some (.ref p.2.length))) (p.2++[.exc p.1])).bind λr=>match r.1 with
  |.nx=>some (.nx,r.2.1.set i none,r.2.2)
  |_=>none else none
theorem Lr.unset{K:Q1}{m:List Addr}{H:Hp}{ρ:Rho}{σ:L2.St}(h:Lr K m H ρ σ)(i:Nat):Lr K m H (ρ.set i none) (σ.set i none):=by
 refine⟨by simp[h.len],λj w e=>?_⟩;by_cases c:i=j;subst c;rw[Zr]at e;simp at e;rw[ZK c]at e;rw[ZK c];exact h.at_ j w e
section
variable{c h:CS}{g:Str}{CG:Addr}{Cs:List Addr}
theorem Gn(hx:∀e s,¬X.xe e s)(hst:X.stack=X.env::X.outer)(hfr:X.env.frame=some X.env.locals)(hN:X.N.Nodup)(hi:X.N[i]?=some n)(hk:X.env.scope.names.lookup n=some .local)(hg:L2.Gl X g)(hm:X.mg g=some (.ref CG))
  (hCs:∀C∈Cs,PySem.W.exmOne X.K (.ref C) (.ref CG)=some true)
  (hbN:QSs X body c) (hbR:RXs X body x) (hsu:∀ea,QSs (xU X ea) (b0::RB) h) (hd:(g == ("__debug__":Str))=false:=by decide) :
  QS X (.Try body [.ExceptHandler (some (.Name g gp)) (some n) (b0::RB) R7] [] [] pos) (DQ Cs i c x h):=
 (show WS X _ _ from⟨GA (ts:=tS X.K h) hx hst hfr hN hi hk hg hm hbN.h hbR (λea=>(hsu ea).h) hd⟩).imp λD σ H hz=>xZ hz λm ρ S o ρ' S' sr lr hc post=>by
 unfold DQ at hc;split at hc;rename_i r hr;cases hc;exact .inl ⟨m,ρ,S,o,ρ',S',sr,lr,hr,post⟩;let⟨⟨CC,S1⟩,h1,h2⟩:=Q0.mp hc;dsimp only at h2;split at h2;rename_i hin;let⟨⟨o2,ρ2,S2⟩,h3,h4⟩:=Q0.mp h2;cases o2 with
 |nx=>
  cases h4;refine .inr ⟨m,ρ,S,CC,S1,sr,lr,h1,λm' ea H' e1 sr1 he=>⟨ea,CC,rfl,rfl,he,hCs CC hin,?_⟩⟩;have en:Ext X.K m' H' (m'++[ea]) (upd H' ea (tQ ea CC)):=.new (bO he _);refine⟨m'++[ea],_,S1++[.exc CC],.nx,ρ2,S2,sr1.new (o:=.exc CC) he (show upd H' ea (tQ ea CC) ea=some (tQ ea CC)from aF),(lr.mono (e1.trans en)).set i (.ref_ (ed sr1.len)),h3,λm1 σ1 H1 e2 sr2 lr2=>?_⟩;exact post m1 (σ1.set i none) H1 ((e1.trans en).trans e2) sr2 (lr2.unset i)
 |_=>cases h4
 cases h2
end
section
variable{k:Nat}{cr:CA}
theorem kL(hx:∀e s,¬X.xe e s)(hcl:Cls X.K c.C)(F:eO X.prog X.w X.K X.mg X.base c mn k ps g)(hr:eN k X.A)(hmn:mn∉c.ns)(ho:QE X o co)(ha:QA X (e::es) cr)
  (hst:Q6 (e::es) X.env=(false,eval e X.env)::Q6 es X.env:=by rfl) (hpl:(ZL pos (Q6 es X.env)).any (·.1)=false:=by rfl) (ht:eval (.Call (.Attribute o mn i_) (e::es) [] pos) X.env=(do
   let ov <-eval o X.env
   standAt i_.atName
   let (f,first) <-holding [ov] (getMethod ov mn pl)
   callWith pos f first (ZL pos (Q6 (e::es) X.env)) (backToKw pos (keywordEach [] X.env))):=by rfl):RXE X (.Call (.Attribute o mn i_) (e::es) [] pos) (iE c g co cr):=by
 let⟨fa,fd,hm,F,hb⟩:=F.ex;exact λb_ s σ H E I h=>Gu hx ho.h hcl hm F hr hb ha.h.h hst hpl ht b_ s σ H E I (rG hmn h)
theorem oC{y:Str}{g_:Pos}(he:RXE X e x)(hs:Zc e (some (.Name y g_)) pos.line X.env=pure false:=by rfl):RXs X [.Assign [.Name y g_] e pos] x:=JU he hs
theorem yY{s1 s2:List ZC}{q:QF}{t:CT}(hx:∀e s,¬X.xe e s)(hc:QT X q t)(h1:RXs X s1 x1)(h2:RXs X s2 x2):RXs X [.If q s1 s2 pos] (xIf t x1 x2):=λb_ s σ H E I h=>by
 refine NQ hx hc.h h1 h2 b_ s σ H E I ?_;let⟨m,ρ,S,cl,S',sr,lr,hc,post⟩:=h;let⟨⟨k,S1⟩,h1,h2⟩:=Q0.mp hc;refine⟨m,ρ,S,k,S1,sr,lr,h1,λm1 H1 e1 sr1=>?_⟩;cases k with
 |true=>exact HZ ⟨m1,ρ,S1,cl,S',sr1,lr.mono e1,h2,post.mono e1⟩
 |false=>exact Ia ⟨m1,ρ,S1,cl,S',sr1,lr.mono e1,h2,post.mono e1⟩
end
structure yn(K:Q1)(C:Addr):Prop where
 ga:Y0 K (.ref C) "__getattribute__"=some (some (.builtin "BaseException.__getattribute__"))
 gn:Y0 K (.ref C) "__getattr__"=some none
 mb:PySem.W.mroIn K C (.type "BaseException")=some true
 hd:PySem.W.hasDictIn K C=true
 fc:Y0 K (.ref C) "__class__"=some (some (.builtin "object.__class__"))
 sp:PySem.W.specialIn K (.builtin "object.__class__") "__get__"=some (some (.builtin "getset_descriptor.__get__"))
 tk:PySem.W.takesIn K (.builtin "object.__class__")=some true
 mo:PySem.W.mroIn K C (.type "object")=some true
 ks:PySem.W.kitCls K (.ref C) (.ref C)=some true
 ex:HS K C
theorem uP{K:Q1}{C:Addr}{odo:Option Obj}{name:Str}{a g:Q3}(hc:(PySem.W.clsIn K C).isSome=true)(ha:Y0 K (.ref C) name=some (some a))(hs:PySem.W.specialIn K a "__get__"=some (some g))(ht:PySem.W.takesIn K a=some true):PySem.W.findObj K C odo name=some (.bind g a):=by
 let⟨cd,hc⟩:=Zz.mp hc;unfold PySem.W.findObj;have hs':PySem.W.specialIn K a (Str.ofString "__get__")=some (some g):=hs;simp only[hc,ha,Q9,hs',ht]
theorem AI{prog:Z7}{w:ZR}{A:ZE}{E:Q3->Q4->Prop}{s:Q4}{K:Q1}{x C:Addr}{ox:Obj}{Q:Option Q3->Q4->Prop}(X:K.In s.heap)(I:PySem.W.InstAt s.heap x ox C none)
  (hga:Y0 K (.ref C) "__getattribute__"=some (some (.builtin "BaseException.__getattribute__"))) (hgn:Y0 K (.ref C) "__getattr__"=some none) (hb:PySem.W.mroIn K C (.type "BaseException")=some true) (hm:PySem.W.mroIn K C (.type "object")=some true)
  (hf:PySem.W.findObj K C none "__class__"=some (.bind (.builtin "getset_descriptor.__get__") (.builtin "object.__class__")))
  (k:Q (some (.ref C)) { s with toks:=s.toks+1 }):wpAny (ZQ prog w) A (getAttr? (.ref x) "__class__") Q E s:=by
 let⟨hh,g,d,t,os⟩:=s;have L0:=I.type (M:=ZQ prog w);have L1:=PySem.W.looks_findIn (M:=ZQ prog w) X hga;have L2:=PySem.W.looks_findIn (M:=ZQ prog w) X hgn;have L3:=PySem.W.looks_find (M:=ZQ prog w) X I hf;have L4:=PySem.W.looks_mroIn (M:=ZQ prog w) X hb;have LI:PySem.W.Looks (ZQ prog w) hh (isInstance (.ref x) (.type "BaseException")) true:=L0.andThen L4;have f3:=PySem.F.attr_ValueError.ga.bind (.ref x);have nn:(onTheHeap (Value.ref C)&&Value.builtin "BaseException.__getattribute__" == Value.builtin "object.__getattribute__")=false:=by
  have h2:(Value.builtin "BaseException.__getattribute__" == Value.builtin "object.__getattribute__")=false:=by decide +kernel
  rw[h2];rfl
 unfold getAttr? getAttrBy? getAttrBy;refine Q2 (wpAny_mkText (Q2 (wpAny_attempt (wpAny_holding (Q2 (L0.at ?_))))));refine Q2 (L1.at ?_);dsimp only;rw[nn,XS QV];unfold getAttrByItsOwn;refine Q2 (L2.at ?_);refine Q2 (wpAny_attempt (wpAny_holding ?_));show wpAny _ _ (boundAndCalled _ _ _) _ _ _;unfold boundAndCalled;rw[f3];refine Q2 (QJ ?_);refine wpAny_call (codeAny_call_builtin PySem.F.attr_ValueError.ga.plain F.entry_bexc_ga ?_);have hk:builtinKind "BaseException.__getattribute__"=some .slot:=by decide +kernel
 have hsplit:splitId "BaseException.__getattribute__"=some ("BaseException","__getattribute__"):=by decide +kernel
 have ha:=F.args_bexc_ga (.ref x) (.str "__class__" t);simp only[checkBuiltinCall,hk,hsplit];refine Q2 (LI.at ?_);rw[XS ∅];unfold argsOk at ha;refine Eq.mpr (congrArg (λm=>wpAny (ZQ prog w) A.in1 m _ _ _) ha) (QJ ?_);unfold Builtin.«object.__getattribute__»;refine Q2 (QJ ?_);refine Q2 (QJ ?_);refine Q2 (L0.at ?_);refine Q2 (L3.at ?_);show wpAny _ _ (holding [.builtin "object.__class__"] (call (.builtin "getset_descriptor.__get__") [.builtin "object.__class__",.ref x,.ref C]) >>= ret) _ _ _;refine Q2 (wpAny_holding (wpAny_call (PySem.W.class_get X I hm ?_)));refine QJ (PySem.W.handed_on rfl (QJ k))
theorem pW{K:Q1}{C e:Addr}(x:yn K C):PySem.W.KitX K (.ref e) (.ref C) (λh=>∃ox,PySem.W.InstAt h e ox C none) where
 ty:=λM h X ⟨ox,I⟩=>I.type
 it:=λM h X _=>(PySem.W.kit_cls X x.ks).2.1
 ne:=λh tp dd its n sl X htp=>by
  rw[Bool.eq_false_iff];intro q;have e:=Value.ref.inj (beq_iff_eq.mp q);subst e;let⟨_,_,_,_,_,_,_,_,_,_,_,_,_,_,_,_,_,o1,_⟩:=AH X x.ex;rw[o1]at htp;have z:Value.type "type"=Value.type "tuple":=congrArg Obj.cls (Yc htp);exact absurd z ∅
 ca:=λ{prog w A E Q s} X ⟨ox,I⟩ k=>by
  have hf:=uP (K:=K) (C:=C) (odo:=none) (by
   have:=x.hd;unfold PySem.W.hasDictIn at this;cases hz:PySem.W.clsIn K C with
   |none=>rw[hz]at this;cases this
   |some cd=>rfl) x.fc x.sp x.tk
  exact AI X I x.ga x.gn x.mb x.mo hf k
theorem DB{P:Z7}{w:ZR}{H:Hp}{h:Heap}{a D:Addr}(hok:HOk P w H h)(hH:H a=some (tQ a D)):∃ox,PySem.W.InstAt h a ox D none:=by
 obtain⟨⟨o,g1,g2,g3,vs,g4⟩,_,_⟩:cU P w H h a (tQ a D):=hok a _ hH;refine⟨o,g1,g2,by unfold PySem.W.notCls;rw[g4],?_⟩;rw[g3];trivial
def NG(K:Q1):List V->Hp->VK->Prop:=λxs H Q=>∃a D,H a=some (tQ a D)/\yn K D/\((∃c b,xs=[.ref a,.ref c]/\PySem.W.kitOne K (.ref D) (.ref c)=some b/\Q (.bl b) H)\/(∃T b,xs=[.ref a,.ty T]/\PySem.W.kitOne K (.ref D) (.type T)=some b/\Q (.bl b) H)\/
 ∃(p:Addr) (cs:List Addr) (b:Bool),xs=[.ref a,.ref p]/\SqT K H p (cs.map V.ref)/\PySem.W.kitAny K (.ref D) (cs.map Value.ref)=some b/\Q (.bl b) H)
theorem qT:∀{cs:List Addr} {us:List Q3},bE (cs.map V.ref) us->us=cs.map Value.ref
 |[],us,r=>by cases r;rfl
 |c::cs,us,r=>by
  cases r with
  |cons r1 r2=>
   cases r1;rw[qT r2];rfl
theorem zP:ft X (.builtin "isinstance") (NG X.K):=by
 rintro b_ s σ H xs us Q I r ⟨a,D,hH,xc,h⟩;have hin:=DB I.hok hH;rcases h with⟨c,b,rfl,hk,q⟩|⟨T,b,rfl,hk,q⟩|⟨p,cs,b,rfl,sq,hk,q⟩;let⟨u,w',rfl,ru,rw'⟩:=yO r;cases ru;cases rw';exact PySem.W.kia_one (pW xc) I.kIn hin hk (λz=>nomatch z) λtk=>⟨.bl b,H,I.tok tk,rfl,q⟩;let⟨u,w',rfl,ru,rw'⟩:=yO r;cases ru;cases rw';exact PySem.W.kia_one (pW xc) I.kIn hin hk (λz=>nomatch z) λtk=>⟨.bl b,H,I.tok tk,rfl,q⟩;let⟨u,w',rfl,ru,rw'⟩:=yO r;cases ru;cases rw';let⟨its,rv,⟨ob,g,c,n,d⟩,_⟩:=I.tuple sq;let⟨oc,od,oda,osl⟩:=ob;dsimp only at c d;subst c d;have ei:=qT rv;subst ei;exact PySem.W.kia_tup (pW xc) I.kIn hin g hk (λz=>nomatch z) λtk=>⟨.bl b,H,I.tok tk,rfl,q⟩
theorem DC{prog:Z7}{w:ZR}{A:ZE}{E:Q3->Q4->Prop}{s:Q4}{a b:Bool}{Q:Bool->Q4->Prop}(q:Q (a == b) s):wpAny (ZQ prog w) A (eqBool (.bool a) (.bool b)) Q E s:=by
 unfold eqBool;refine wpAny_holding ?_;by_cases h:a=b;subst h;rw[XO nofun];refine Q2 (wpAny_rule (QJ ?_));simpa using q;rw[XS ‹h›];show wpAny _ _ (do let v <-richCompare .Eq (.bool a) (.bool b);truthOfDropped v) _ _ s;refine Q2 (PyProof.Rows.eq_bool ?_);have e:decide (a=b)=(a == b):=by rw[Zf];simp
 wp_walk
 simpa [e] using q
section
def JL:V->List V->Hp->VK->Prop:=λx vs H Q=>∃(l:Addr) (bs:List Bool),x=.ref l/\vs=[.bl true]/\H l=some (.lst (bs.map V.bl))/\Q (.int (bs.count true:Nat)) H
def JK:V->List V->Hp->VK->Prop:=λx vs H Q=>∃(l:Addr) (bs:List Bool),x=.ref l/\vs=[.bl true]/\H l=some (.lst (bs.map V.bl))/\true∈bs/\bs.length<1000/\Q (.int (bs.idxOf true:Nat)) H
theorem oW:∀{bs:List Bool} {us:List Q3},bE (bs.map V.bl) us->us=bs.map Value.bool
 |[],us,r=>by cases r;rfl
 |c::cs,us,r=>by
  cases r with
  |cons r1 r2=>
   cases r1;rw[oW r2];rfl
def Ib:Q3->Bool
 |.bool b=>b
 |_=>false
theorem Jr{A:ZE}{s:Q4}{bs:List Bool}:∀y∈bs.map Value.bool,SeqAt.EqAt A s y (.bool true) (Ib y):=λy hy=>by
 let⟨b,_,rfl⟩:=ZT.mp hy;intro prog w E Q q;refine DC ?_;have:(b == true)=Ib (.bool b):=by cases b<;>rfl
 rw[this];exact q
theorem Ha:MtM X "list.count" JL:=by
 intro b_ s σ H x vs v us Q I rx rv h;let⟨l,bs,rfl,rfl,hH,q⟩:=h;cases rx;let⟨u,rfl,ru⟩:=rv.one;cases ru;let⟨_,its,n,r,hl,e⟩:=I.lstM hH;have ei:=oW r;subst ei;refine call_meets PySem.F.slot_list_count ⟨_,e,rfl⟩ PySem.F.entry_list_count (PySem.F.args_list_count_2 _ _) (SeqAt.list_countAt l _ n none #[] (.bool true) Ib) ⟨e,λy hy=>Jr y ‹hy›,?_⟩;have ec:List.countP Ib (bs.map Value.bool).toArray.toList=bs.count true:=by
  show List.countP Ib (bs.map Value.bool)=_;rw[List.countP_map,List.count];exact congrFun (congrArg List.countP (funext λb=>by cases b<;>rfl)) bs
 rw[ec];exact⟨.int _,H,I.tok _,⟨_,rfl⟩,q⟩
theorem G9:MtM X "list.index" JK:=by
 intro b_ s σ H x vs v us Q I rx rv h;let⟨l,bs,rfl,rfl,hH,hin,p_,q⟩:=h;cases rx;let⟨u,rfl,ru⟩:=rv.one;cases ru;let⟨_,its,n,r,hl,e⟩:=I.lstM hH;have ei:=oW r;subst ei;have hj:bs.idxOf true<bs.length:=List.idxOf_lt_length_iff.mpr hin;refine call_meets PySem.F.slot_list_index ⟨_,e,rfl⟩ PySem.F.entry_list_index (PySem.F.args_list_index_2 _ _) (SeqAt.list_indexAt l _ n none #[] (.bool true) Ib (bs.idxOf true) ‹hj› ⋯ ?_ λm hm1 hm2=>?_) ⟨e,λy hy=>Jr y ‹hy›,⟨.int _,H,I.tok _,⟨_,rfl⟩,q⟩⟩;have:(bs.map Value.bool).toArray[bs.idxOf true]'‹hj›=.bool true:=by simp
 rw[this];rfl;have hm:m<bs.length:=by simpa using hm1
 have hne:bs[m]≠true:=λz=>by
  have:=List.not_of_lt_findIdx (p:=(· == true)) (xs:=bs) hm2;simp[z]at this
 have:(bs.map Value.bool).toArray[m]'hm1=.bool bs[m]:=by simp
 rw[this];cases hb:bs[m]with
 |true=>exact absurd hb hne
 |false=>rfl
def uV:U->List U->Sto->Option (U×Sto)
 |.ref l,[.bl true],S=>match S[l]? with
  |some (.lst us)=>(Bs us).bind λbs=>some (.int (bs.count true:Nat),S)
  |_=>none
 |_,_,_=>none
def uT:U->List U->Sto->Option (U×Sto)
 |.ref l,[.bl true],S=>match S[l]? with
  |some (.lst us)=>(Bs us).bind λbs=>if true∈bs/\bs.length<1000 then some (.int (bs.idxOf true:Nat),S)else none
  |_=>none
 |_,_,_=>none
theorem qE:∀{us:List U} {bs:List Bool},Bs us=some bs->us=bs.map U.bl
 |[],bs,h=>by cases h;rfl
 |.bl b::us,bs,h=>by
  simp only[Bs]at h;let⟨r,h1,h2⟩:=Zq.mp h;rw[<-h2,qE h1];rfl
 |.non::_,_,h=>by cases h
 |.int _::_,_,h=>by cases h
 |.str _::_,_,h=>by cases h
 |.tup _::_,_,h=>by cases h
 |.ref _::_,_,h=>by cases h
 |.kl _::_,_,h=>by cases h
theorem Ku:MtP K JL uV:=by
 intro m S H x v us vs u S' Q sr ix i hf post;unfold uV at hf;split at hf;rename_i l;split at hf;rename_i ws hS;let⟨bs,hb,h2⟩:=Q0.mp hf;cases h2;let⟨a,ha,rfl⟩:=ix.of_ref;let⟨a',ha',xs,hx,la⟩:=sr.get hS;rw[ha]at ha';cases ha';rw[qE hb]at la;let⟨y,rfl,iy⟩:=i.one;exact⟨a,bs,rfl,by rw[iy.of_bl],by rw[hx,IsL.bls la],post m _ H .refl sr .int_⟩;cases hf;cases hf
theorem Ks:MtP K JK uT:=by
 intro m S H x v us vs u S' Q sr ix i hf post;unfold uT at hf;split at hf;rename_i l;split at hf;rename_i ws hS;let⟨bs,hb,h2⟩:=Q0.mp hf;split at h2;rename_i hc;cases h2;let⟨a,ha,rfl⟩:=ix.of_ref;let⟨a',ha',xs,hx,la⟩:=sr.get hS;rw[ha]at ha';cases ha';rw[qE hb]at la;let⟨y,rfl,iy⟩:=i.one;exact⟨a,bs,rfl,by rw[iy.of_bl],by rw[hx,IsL.bls la],hc.1,hc.2,post m _ H .refl sr .int_⟩;cases h2;cases hf;cases hf
variable{cr:CA}{j_:Pos}
theorem JT (ho : QE X o co) (ha : QA X (e :: es) cr) (K_ : attributeBase o "count" X.env (eval o X.env) = eval o X.env := by rfl) (R8 : ((ZL j_ (Q6 (e :: es) X.env)).all (λx => !x.1) && (backToKw j_ (keywordEach [] X.env)).all (λx => x.1.isSome)
   && decide ((e::es).length+([]:List Keyword).length+(if ([]:List Keyword).isEmpty then 0 else 1)<30))=true:=by rfl) (J_:(i_.endLine == j_.line)=true:=by rfl) (hs:Q6 (e::es) X.env=(false,eval e X.env)::Q6 es X.env:=by rfl) (E_:(ZL j_ (Q6 es X.env)).any (·.1)=false:=by rfl) :
  QE X (.Call (.Attribute o "count" i_) (e::es) [] j_) (cBM uV co cr):=(vI YJ PySem.F.slot_list_count PySem.F.type_list_count Ha ho ha.h K_ R8 J_ hs E_).imp (xi Ku)
theorem JR (ho : QE X o co) (ha : QA X (e :: es) cr) (K_ : attributeBase o "index" X.env (eval o X.env) = eval o X.env := by rfl) (R8 : ((ZL j_ (Q6 (e :: es) X.env)).all (λx => !x.1) && (backToKw j_ (keywordEach [] X.env)).all (λx => x.1.isSome)
   && decide ((e::es).length+([]:List Keyword).length+(if ([]:List Keyword).isEmpty then 0 else 1)<30))=true:=by rfl) (J_:(i_.endLine == j_.line)=true:=by rfl) (hs:Q6 (e::es) X.env=(false,eval e X.env)::Q6 es X.env:=by rfl) (E_:(ZL j_ (Q6 es X.env)).any (·.1)=false:=by rfl) :
  QE X (.Call (.Attribute o "index" i_) (e::es) [] j_) (cBM uT co cr):=(vI YJ PySem.F.slot_list_index PySem.F.type_list_index G9 ho ha.h K_ R8 J_ hs E_).imp (xi Ks)
end
section
variable{ec:QF}{f:Addr->Option Bool}{p:Pos}
def ye(f:Addr->Option Bool)(ce:CE):CE:=λρ S=>(ce ρ S).bind λp=>match p.1 with
 |.ref l=>match p.2[l]? with
  |some (.exc D)=>(f D).bind λb=>some (.bl b,p.2)
  |_=>none
 |_=>none
theorem ED(hk:∀D b,f D=some b->yn X.K D/\PySem.W.kitOne X.K (.ref D) (.ref C)=some b)(he:QE X e ce)(hc:WE X ec (tC (.ref C)))(hg:Gl X "isinstance")(hm:X.mg "isinstance"=none)
  (h1:Q6 [e,ec] X.env=(false,eval e X.env)::Q6 [ec] X.env:=by rfl) (h2:Q6 [ec] X.env=(false,eval ec X.env)::Q6 [] X.env:=by rfl) (hpl:(ZL pos (Q6 [ec] X.env)).any (·.1)=false:=by rfl) :
  QE X (.Call (.Name "isinstance" p) [e,ec] [] pos) (ye f ce):=(jV zP hg hm OG.fM (dj he (dj hc kG h2) h1) ∅ ∅ h1 hpl).imp λσ H Q hz=>kY hz λm ρ S u S' sr lr hc post=>by
 let⟨⟨x,S1⟩,h1,h2⟩:=Q0.mp hc;refine⟨m,ρ,S,x,S1,sr,lr,h1,λm1 v1 H1 e1 sr1 i1=>?_⟩;cases x with
 |ref l=>
  simp only at h2;split at h2<;>try cases h2
  rename_i D hS;let⟨b,hb,h3⟩:=Q0.mp h2;cases h3;let⟨a,ha,rfl⟩:=i1.of_ref;let⟨a',ha',ho⟩:=sr1.get hS;rw[ha]at ha';cases ha';let⟨xc,hk⟩:=hk D b hb;exact⟨a,D,ho,xc,.inl ⟨C,b,rfl,hk,post m1 _ H1 e1 sr1 .bl_⟩⟩
 |_=>cases h2
theorem JQ{T:String}(hk:∀D b,f D=some b->yn X.K D/\PySem.W.kitOne X.K (.ref D) (.type T)=some b)(he:QE X e ce)(hc:WE X ec (tC (.ty T)))(hg:Gl X "isinstance")(hm:X.mg "isinstance"=none)
  (h1:Q6 [e,ec] X.env=(false,eval e X.env)::Q6 [ec] X.env:=by rfl) (h2:Q6 [ec] X.env=(false,eval ec X.env)::Q6 [] X.env:=by rfl) (hpl:(ZL pos (Q6 [ec] X.env)).any (·.1)=false:=by rfl) :
  QE X (.Call (.Name "isinstance" p) [e,ec] [] pos) (ye f ce):=(jV zP hg hm OG.fM (dj he (dj hc kG h2) h1) ∅ ∅ h1 hpl).imp λσ H Q hz=>kY hz λm ρ S u S' sr lr hc post=>by
 let⟨⟨x,S1⟩,h1,h2⟩:=Q0.mp hc;refine⟨m,ρ,S,x,S1,sr,lr,h1,λm1 v1 H1 e1 sr1 i1=>?_⟩;cases x with
 |ref l=>
  simp only at h2;split at h2<;>try cases h2
  rename_i D hS;let⟨b,hb,h3⟩:=Q0.mp h2;cases h3;let⟨a,ha,rfl⟩:=i1.of_ref;let⟨a',ha',ho⟩:=sr1.get hS;rw[ha]at ha';cases ha';let⟨xc,hk⟩:=hk D b hb;exact⟨a,D,ho,xc,.inr (.inl ⟨T,b,rfl,hk,post m1 _ H1 e1 sr1 .bl_⟩)⟩
 |_=>cases h2
theorem JP{C1 C2 C3:Addr}{e1 e2 e3:QF}{x1}{tp:Pos}(hk:∀D b,f D=some b->yn X.K D/\PySem.W.kitAny X.K (.ref D) [.ref C1,.ref C2,.ref C3]=some b)(he:QE X e ce)(hc1:WE X e1 (tC (.ref C1)))(hc2:WE X e2 (tC (.ref C2)))(hc3:WE X e3 (tC (.ref C3)))(hg:Gl X "isinstance")(hm:X.mg "isinstance"=none)
  (h1:Q6 [e,.Tuple [e1,e2,e3] x1 tp] X.env=(false,eval e X.env)::Q6 [.Tuple [e1,e2,e3] x1 tp] X.env:=by rfl) (h2:Q6 [.Tuple [e1,e2,e3] x1 tp] X.env=(false,eval (.Tuple [e1,e2,e3] x1 tp) X.env)::Q6 [] X.env:=by rfl) (hpl:(ZL pos (Q6 [.Tuple [e1,e2,e3] x1 tp] X.env)).any (·.1)=false:=by rfl)
  (g1:Q6 [e1,e2,e3] X.env=(false,eval e1 X.env)::Q6 [e2,e3] X.env:=by rfl) (g2:Q6 [e2,e3] X.env=(false,eval e2 X.env)::Q6 [e3] X.env:=by rfl) (g3:Q6 [e3] X.env=(false,eval e3 X.env)::Q6 [] X.env:=by rfl) :
  QE X (.Call (.Name "isinstance" p) [e,.Tuple [e1,e2,e3] x1 tp] [] pos) (ye f ce):=(jV zP hg hm OG.fM (dj he (dj (yH (dj hc1 (dj hc2 (dj hc3 kG g3) g2) g1)) kG h2) h1) ∅ ∅ h1 hpl).imp λσ H Q hz=>kY hz λm ρ S u S' sr lr hc post=>by
 let⟨⟨x,S1⟩,h1,h2⟩:=Q0.mp hc;refine⟨m,ρ,S,x,S1,sr,lr,h1,λm1 v1 H1 e1 sr1 i1=>⟨by show 3<=QU;unfold QU;decide,λq hq=>?_⟩⟩;cases x with
 |ref l=>
  simp only at h2;split at h2<;>try cases h2
  rename_i D hS;let⟨b,hb,h3⟩:=Q0.mp h2;cases h3;let⟨a,ha,rfl⟩:=i1.of_ref;let⟨a',ha',ho⟩:=sr1.get hS;rw[ha]at ha';cases ha';let⟨xc,hk⟩:=hk D b hb;have ho':H1 a=some (tQ a D):=ho;have ne:a≠q:=λz=>by rw[z,hq]at ho';cases ho'
  have sm:D8 H1 (upd H1 q (.tup [.ref C1,.ref C2,.ref C3])):=fQ hq _;exact⟨a,D,by rw[aH ne];exact ho',xc,.inr (.inr ⟨q,[C1,C2,C3],b,rfl,SqT.of aF,hk,post m1 _ _ (e1.trans (.of (cq sm))) (sr1.same sm) .bl_⟩)⟩
 |_=>cases h2
end
structure yr(K:Q1)(mg:Str->Option Q3)(CA CS CG CR CT CM:Addr):Prop where
 ga:mg "NoAttempt"=some (.ref CA)
 gs:mg "NoStep"=some (.ref CS)
 gg:mg "GlanceError"=some (.ref CG)
 gr:mg "NoRow"=some (.ref CR)
 gt:mg "NoText"=some (.ref CT)
 gm:mg "TooMany"=some (.ref CM)
 gv:mg "ValueError"=none
 xa:yn K CA
 xs:yn K CS
 ea:PySem.W.exmOne K (.ref CA) (.ref CG)=some true
 es:PySem.W.exmOne K (.ref CS) (.ref CG)=some true
 aa:PySem.W.kitOne K (.ref CA) (.ref CA)=some true
 as:PySem.W.kitOne K (.ref CA) (.ref CS)=some false
 sa:PySem.W.kitOne K (.ref CS) (.ref CA)=some false
 ss:PySem.W.kitOne K (.ref CS) (.ref CS)=some true
 va:PySem.W.kitOne K (.ref CA) (.type "ValueError")=some true
 vs:PySem.W.kitOne K (.ref CS) (.type "ValueError")=some true
 oa:PySem.W.kitAny K (.ref CA) [.ref CR,.ref CT,.ref CM]=some false
 os:PySem.W.kitAny K (.ref CS) [.ref CR,.ref CT,.ref CM]=some false
theorem yr.cs{K:Q1}{mg:Str->Option Q3}{CA CS CG CR CT CM:Addr}(V:yr K mg CA CS CG CR CT CM):∀C∈[CA,CS],PySem.W.exmOne K (.ref C) (.ref CG)=some true:=λC hC=>by
 simp only[Z8,XY,or_false]at hC;rcases hC with rfl|rfl;exact V.ea;exact V.es
def fX(CA CS:Addr)(a b:Bool):Addr->Option Bool:=λD=>if D=CA then some a else if D=CS then some b else none
theorem hkX{K:Q1}{CA CS:Addr}{a b:Bool}{φ:Addr->Bool->Prop}(xa:yn K CA)(xs:yn K CS)(ha:φ CA a)(hb:φ CS b):∀D c,fX CA CS a b D=some c->yn K D/\φ D c:=λD c h=>by
 unfold fX at h;split at h;rename_i e;subst e;cases h;exact⟨xa,ha⟩;split at h;rename_i e;subst e;cases h;exact⟨xs,hb⟩;cases h
def El(x1 x2:CR):CR:=λρ S=>match x1 ρ S with
 |some r=>some r
 |none=>x2 ρ S
theorem Ey{X:Cx}{E:XK}{sts:List ZC}{x1 x2:CR}(h1:RSs X E sts x1)(h2:RSs X E sts x2):RSs X E sts (El x1 x2):=⟨λb_ s σ H D I h=>by
 let⟨m,ρ,S,c,S',sr,lr,hc,post⟩:=h;unfold El at hc;split at hc;rename_i r hr;cases hc;exact h1.h b_ s σ H D I ⟨m,ρ,S,c,S',sr,lr,hr,post⟩;exact h2.h b_ s σ H D I ⟨m,ρ,S,c,S',sr,lr,hc,post⟩⟩
theorem eO.mono{P:Z7}{w:ZR}{K:Q1}{mg:Str->Option Q3}{base:Heap}{c:Cl}{mn:Str}{j k:Nat}{ps:List Str}{f:FnR}(h:eO P w K mg base c mn j ps f)(l:j<=k):eO P w K mg base c mn k ps f:=by
 let⟨fa,fd,a,b,d⟩:=h.ex;exact⟨fa,fd,a,b.mono l,d⟩
structure O5(K:Q1)(CA CS CG CR CT CM:Addr):Prop where
 ga:PySem.W.nsIn K mainGlobals "NoAttempt"=some (some (.ref CA))
 gs:PySem.W.nsIn K mainGlobals "NoStep"=some (some (.ref CS))
 gg:PySem.W.nsIn K mainGlobals "GlanceError"=some (some (.ref CG))
 gr:PySem.W.nsIn K mainGlobals "NoRow"=some (some (.ref CR))
 gt:PySem.W.nsIn K mainGlobals "NoText"=some (some (.ref CT))
 gm:PySem.W.nsIn K mainGlobals "TooMany"=some (some (.ref CM))
 gv:PySem.W.nsIn K mainGlobals "ValueError"=some none
 xa:yn K CA
 xs:yn K CS
 ea:PySem.W.exmOne K (.ref CA) (.ref CG)=some true
 es:PySem.W.exmOne K (.ref CS) (.ref CG)=some true
 aa:PySem.W.kitOne K (.ref CA) (.ref CA)=some true
 as:PySem.W.kitOne K (.ref CA) (.ref CS)=some false
 sa:PySem.W.kitOne K (.ref CS) (.ref CA)=some false
 ss:PySem.W.kitOne K (.ref CS) (.ref CS)=some true
 va:PySem.W.kitOne K (.ref CA) (.type "ValueError")=some true
 vs:PySem.W.kitOne K (.ref CS) (.type "ValueError")=some true
 oa:PySem.W.kitAny K (.ref CA) [.ref CR,.ref CT,.ref CM]=some false
 os:PySem.W.kitAny K (.ref CS) [.ref CR,.ref CT,.ref CM]=some false
theorem O5.k{K:Q1}{mg:Str->Option Q3}{h:Heap}{CA CS CG CR CT CM:Addr}(V:O5 K CA CS CG CR CT CM)(X:K.In h)(G:h.Ns mainGlobals mg):yr K mg CA CS CG CR CT CM:=
 ⟨PySem.W.mg_of X G V.ga,PySem.W.mg_of X G V.gs,PySem.W.mg_of X G V.gg,PySem.W.mg_of X G V.gr,PySem.W.mg_of X G V.gt,PySem.W.mg_of X G V.gm,PySem.W.mg_none_of X G V.gv,V.xa,V.xs,V.ea,V.es,V.aa,V.as,V.sa,V.ss,V.va,V.vs,V.oa,V.os⟩
end OP
namespace OQ
open PySem PySem.Spec PyProof.Rows L2 OG OP
def fq:CS:=
 (aT (cH 3 (cOp uS (cOp sG (cOp sG (cOp sG (cOp n9 (ah 3) (ah 3)) (cOp n9 (cC (.int 50021)) (ah 3))) (cOp n9 (cC (.int 19)) (ah 5))) (cC (.int 7))) (cC (.int 2147483563))))
  (cH 4 (cOp sG (cOp n9 (ah 4) (cC (.int 2147483563))) (ah 3))))
def hU:CS:=
 (aT (cH 2 (cOp sG (cOp n9 (cC (.int 5)) (ah 1)) (cC (.int 3))))
  (aT (dh (aG (cOp fLt (ah 1) (cCB sF (ag (ah 0) aE)))) (cH 2 (cOp fIx (ah 0) (ah 1))) bI)
  (aT (dh (aG (cOp fEq (cOp uS (ah 2) (cC (.int 2))) (cC (.int 0)))) (bV (jn (ag (cOp EX (ah 2) (cC (.int 2))) aE))) bI)
  (aT (cH 3 (cOp uS (cOp sG (cOp sG (cOp n9 (ah 2) (cC (.int 30011))) (cOp n9 (cC (.int 977)) (ah 1))) (cC (.int 41))) (cC (.int 2147483563))))
  (aT (cH 4 (cC (.int 0)))
  (aT (oQ (c6 (ag (cC (.int 60)) aE)) (gNm 5) (fq ))
  (bV (jn (ag (ah 4) aE)))))))))
def k6:CS:=
 (aT (cH 2 (cOp uS (cOp fIx (ah 0) (cC (.int 0))) (ah 1)))
  (aT (dM (ah 0) (cC (.int 0)) (cOp EX (cOp fIx (ah 0) (cC (.int 0))) (ah 1)))
  (bV (ah 2))))
def gC(c_:Cl):CS:=
 (aT (gO c_ 0 (ah 0) (ah 1))
  (aT (gO c_ 1 (ah 0) oo)
  (aT (gO c_ 2 (ah 0) oo)
  (aT (gO c_ 3 (ah 0) (cC .non))
  (aT (gO c_ 4 (ah 0) (jn aE))
  (gO c_ 5 (ah 0) (cC (.bl true))))))))
def hX(a_:Cl):CS:=
 (aT (gO a_ 0 (ah 0) (cCB sE (ag (ah 2) aE)))
  (aT (gO a_ 1 (ah 0) (cOp sD (jn (ag (cC (.int 0)) aE)) (cCB sF (ag (ah 2) aE))))
  (aT (gO a_ 2 (ah 0) oo)
  (aT (gO a_ 3 (ah 0) (cC (.int 0)))
  (aT (gO a_ 4 (ah 0) (jn aE))
  (gO a_ 5 (ah 0) oo))))))
def jg(a_ c_:Cl):CS:=
 (aT (cH 3 (cOp fIx (bD a_ 5 (ah 0)) (ah 1)))
  (aT (gO c_ 5 (ah 3) (cC (.bl false)))
  (gP (cBM c7 (bD a_ 4 (ah 0)) (ag (jh (ag (ah 2) (ag (ah 1) aE))) aE)))))
def eG(a_ c_:Cl):CS:=
 (aT (dh (cOr (aG (cOp (fIn true) (ah 1) (bD a_ 5 (ah 0)))) (sS (aG (bD c_ 5 (cOp fIx (bD a_ 5 (ah 0)) (ah 1)))))) oP bI)
  (bV (cOp fIx (bD a_ 5 (ah 0)) (ah 1))))
def bX(aA:Fn)(a_ c_:Cl):CS:=
 (aT (cH 2 (bA a_ aA (ah 0) (ag (ah 1) aE)))
  (aT (dh (aG (cOp uQ (bD c_ 3 (ah 2)) (cC .non))) oP bI)
  (bV (ah 2))))
def f9(a_:Cl):CS:=
 (bV (cCB ym (ag (qA (ji (iTp (ah 2)) (gNm 0) (cOp fNe (yg (bD a_ 2 (ah 2)) (ah 0) (ah 1)) (ah 1)) 1 [1,0]) (fK (ah 2) (gNm 0) (cOp fNe (yg (bD a_ 2 (ah 2)) (ah 0) (ah 1)) (ah 1)) 1 [1,0])) aE)))
def cN(a_ c_:Cl):CS:=
 (aT (cH 2 (cOp fIx (bD a_ 5 (ah 0)) (ah 1)))
  (bV (cCB ym (ag (fK (bD c_ 1 (ah 2)) (gNm 0) (cOp fGt (cOp fIx (bD a_ 1 (ah 2)) (ah 0)) (bD c_ 0 (ah 1))) 1 [2,0]) aE))))
def bc(aL aM:Fn)(a_ c_:Cl):CS:=
 (aT (dh (aG (bA a_ aL (ah 0) (ag (ah 1) (ag (jn (ag (ah 2) aE)) aE)))) (bV (cC (.bl true))) bI)
  (aT (dh (aG (cOp fLe (cOp fIx (bD a_ 1 (ah 0)) (ah 2)) (bD c_ 0 (cOp fIx (bD a_ 5 (ah 0)) (ah 1))))) (bV (cC (.bl false))) bI)
  (bV (Mu (bA a_ aL (ah 0) (ag (ah 1) (ag (bD c_ 1 (cOp fIx (bD a_ 5 (ah 0)) (ah 1))) aE))) (bA a_ aM (ah 0) (ag (ah 1) aE))))))
def b8(a_ c_:Cl):CS:=
 (aT (dh (aG (cOp fGt (cOp fIx (bD a_ 1 (ah 0)) (ah 2)) (bD c_ 0 (ah 1)))) (gO c_ 0 (ah 1) (bD a_ 3 (ah 0))) bI)
  (aT (dM (bD c_ 1 (ah 1)) (ah 2) (cC (.bl true)))
  (bV (cOp fIx (bD a_ 0 (ah 0)) (ah 2)))))
def eI(eF:Fn)(a_ c_:Cl):CS:=
 (aT (dh (aG (cOp (fIn false) (ah 1) (bD a_ 5 (ah 0)))) oP bI)
  (aT (dM (bD a_ 5 (ah 0)) (ah 1) (cCB (qj c_ eF) (ag (bD a_ 3 (ah 0)) aE)))
  (gP (cBM c7 (bD a_ 4 (ah 0)) (ag (jh (ag (cC (.str "begin")) (ag (ah 1) aE))) aE)))))
def cE(aC bU aI b7:Fn)(a_ c_:Cl):CS:=
 (aT (cH 3 (bA a_ aC (ah 0) (ag (ah 1) aE)))
  (aT (dh (aG (cOp (fIn false) (ah 2) (bD c_ 2 (ah 3)))) (cH 4 (cOp fIx (bD c_ 2 (ah 3)) (ah 2))) (dh (aG (bA a_ bU (ah 0) (ag (ah 1) (ag (ah 2) aE)))) (aT (gP (bA a_ aI (ah 0) (ag (ah 1) (ag (cC (.str "fall")) aE))))
  (bV (jh (ag (cC (.str "falls")) aE)))) (cH 4 (bA a_ b7 (ah 0) (ag (ah 3) (ag (ah 2) aE))))))
  (aT (gP (cBM c7 (bD a_ 4 (ah 0)) (ag (jh (ag (cC (.str "look")) (ag (ah 1) (ag (ah 2) (ag (ah 4) aE))))) aE)))
  (bV (jh (ag (cC (.str "number")) (ag (ah 4) aE)))))))
def f7(aC:Fn)(a_ c_:Cl):CS:=
 (aT (cH 4 (bA a_ aC (ah 0) (ag (ah 1) aE)))
  (aT (dM (bD c_ 2 (ah 4)) (ah 2) (ah 3))
  (gP (cBM c7 (bD a_ 4 (ah 0)) (ag (jh (ag (cC (.str "put")) (ag (ah 1) (ag (ah 2) (ag (ah 3) aE))))) aE)))))
def dF(aC aI aL aM:Fn)(a_ c_:Cl):CS:=
 (dM (bD a_ 2 (ah 0)) (ah 3) (ah 1))
def fj(aC aI aL aM:Fn)(a_ c_:Cl):CS:=
 (aT (cH 2 (bA a_ aC (ah 0) (ag (ah 1) aE)))
  (aT (dh (aG (cOp fEq (cCB sF (ag (bD c_ 2 (ah 2)) aE)) (cC (.int 0)))) (aT (gP (bA a_ aI (ah 0) (ag (ah 1) (ag (cC (.str "done")) aE))))
  (bV (cC (.str "done")))) bI)
  (aT (dh (cOr (aG (bA a_ aL (ah 0) (ag (ah 1) (ag (bD c_ 1 (ah 2)) aE)))) (cOr (aG (bA a_ aL (ah 0) (ag (ah 1) (ag (bD c_ 2 (ah 2)) aE)))) (aG (bA a_ aM (ah 0) (ag (ah 1) aE))))) (aT (gP (bA a_ aI (ah 0) (ag (ah 1) (ag (cC (.str "fall")) aE))))
  (bV (cC (.str "falls")))) bI)
  (aT (gO a_ 3 (ah 0) (cOp sG (bD a_ 3 (ah 0)) (cC (.int 1))))
  (aT (gO c_ 3 (ah 2) (bD a_ 3 (ah 0)))
  (aT (gO c_ 4 (ah 2) (cCB iX (ag (bD c_ 2 (ah 2)) aE)))
  (aT (oQ (iTp (bD c_ 4 (ah 2))) (gNm 3) (dF aC aI aL aM a_ c_))
  (bV (cC (.str "taken"))))))))))
def eP(aA aI:Fn)(a_ c_:Cl):CS:=
 (gP (A3 (bD a_ 2 (ah 0)) (ah 4)))
def cS(aA aI:Fn)(a_ c_:Cl):CS:=
 (aT (cH 2 (bA a_ aA (ah 0) (ag (ah 1) aE)))
  (aT (dh (aG (cOp Dz (bD c_ 3 (ah 2)) (cC .non))) oP bI)
  (aT (cH 3 (cBM m9 (bD c_ 4 (ah 2)) (ag (cC (.int 0)) aE)))
  (aT (dM (bD a_ 0 (ah 0)) (ah 3) (cOp fIx (bD c_ 2 (ah 2)) (ah 3)))
  (aT (dM (bD a_ 1 (ah 0)) (ah 3) (bD c_ 3 (ah 2)))
  (aT (dh (aG (cOp fGt (cCB sF (ag (bD c_ 4 (ah 2)) aE)) (cC (.int 0)))) (bV (cC (.str "written"))) bI)
  (aT (sT (bD c_ 2 (ah 2)) (gNm 4) (eP aA aI a_ c_))
  (aT (gP (bA a_ aI (ah 0) (ag (ah 1) (ag (cC (.str "done")) aE))))
  (bV (cC (.str "done")))))))))))
def je(a_:Cl):CS:=
 (bV (cCB kx (ag (bD a_ 0 (ah 0)) aE)))
def cG(c_:Cl):CS:=
 (aT (dh (aG (cOp Dz (bD c_ 3 (ah 0)) (cC .non))) (bV (jh (ag (bD c_ 0 (ah 0)) (ag (cC (.int 1)) aE)))) bI)
  (bV (jh (ag (bD c_ 3 (ah 0)) (ag (cC (.int 0)) aE)))))
def jf(a_:Cl):CS:=
 (bV (cCB sE (ag (bD a_ 4 (ah 0)) aE)))
def gz(cD:Fn)(a_ c_:Cl)(zO:O):CS:=
 bV (xh zO 0 (bD a_ 5 (ah 0)) (bA c_ cD (cOp fIx (bD a_ 5 (ah 1)) (ah 0)) aE))
def gB(a_:Cl):CS:=
 (bV (bD a_ 3 (ah 0)))
end OQ
namespace OL
open PySem PySem.Spec PyProof.Rows L2 OG OP OQ
def top(i:Nat):ZC:=PySem.Challenge.pw_oneglance_k33_keeper_refusals.main.body.getD i (.Pass ⟨0,0,0,0⟩)
abbrev gu:ZC:=bR (top 9) 0
abbrev dR:ZC:=bR (top 9) 1
abbrev gU:ZC:=bR (top 10) 0
abbrev d8:ZC:=bR (top 10) 1
abbrev eZ:ZC:=bR (top 10) 2
abbrev cX:ZC:=bR (top 10) 3
abbrev dA:ZC:=bR (top 10) 4
abbrev fR:ZC:=bR (top 10) 5
abbrev eY:ZC:=bR (top 10) 6
abbrev dY:ZC:=bR (top 10) 7
abbrev e8:ZC:=bR (top 10) 8
abbrev dZ:ZC:=bR (top 10) 9
abbrev cV:ZC:=bR (top 10) 10
abbrev iS:ZC:=bR (top 10) 11
abbrev dB:ZC:=bR (top 10) 12
abbrev cI:ZC:=bR (top 10) 13
abbrev iR:ZC:=bR (top 10) 15
abbrev gi:ZC:=bR (top 10) 16
abbrev iQ:ZC:=bR (top 10) 17
abbrev gq:ZC:=bR (top 10) 18
abbrev jD:ZC:=top 12
abbrev kJ:ZC:=top 13
abbrev iJ:ZC:=top 14
abbrev jG:ZC:=top 15
abbrev iK:ZC:=top 16
abbrev iN:ZC:=top 17
abbrev iO:ZC:=top 18
abbrev jF:ZC:=top 19
abbrev jE:ZC:=top 20
abbrev iI:ZC:=top 21
abbrev jH:ZC:=top 22
abbrev iM:ZC:=top 23
abbrev iP:ZC:=top 24
abbrev dQ:ZC:=top 25
abbrev fD:ZC:=top 26
abbrev kK:ZC:=top 27
abbrev iL:ZC:=top 28
abbrev Gh:ZC:=top 29
section
variable{P:Z7}{w:ZR}{K:Q1}{mg:Str->Option Q3}{base:Heap}
abbrev nK:List Str:=["boxes","marks","holders","ticks","events","known"]
abbrev nA:List Str:=["glance","looked","puts","stamp","unwritten","is_open"]
def iH:aN ["self","glance"] ["self","glance"] (ax gu):=fsc
theorem n6{k:Nat}{c_:Cl}(d:MkD K mg c_.C "Attempt" "Attempt.__init__" gu ["self","glance"])(B:Blt mg)(f_:TC K c_ nA):CMk P w K mg base c_ "Attempt" (k+1) ["self","glance"] (fnU 2 2 (gC c_)):=
 d.pure f_ iH λf _ A _ s H E hr=>(by
  have hu:=bH hr;have nd:=iH.nd;exact(aw (qsf f_ rfl (qv 0) (qv 1))
   (aw (qsf f_ rfl (qv 0) mG)
   (aw (qsf f_ rfl (qv 0) mG)
   (aw (qsf f_ rfl (qv 0) qN)
   (aw (qsf f_ rfl (qv 0) (e9 ay))
   (aY (qsf f_ rfl (qv 0) qB))))))))
def fP:aN ["self"] ["self"] (ax dR):=fsc
theorem kW{k:Nat}{c_:Cl}(d:MtD K c_.C "instant" "Attempt.instant" dR ["self"])(B:Blt mg)(f_:TC K c_ nA):dP P w K mg base c_ "instant" (k+1) ["self"] (fnU 1 1 (cG c_)):=
 d.pure fP λf _ A _ s H E hr=>(by
  have hu:=bH hr;have nd:=fP.nd;exact(aw (bB (aU wy CD (qf f_ rfl (qv 0)) qN (aR _)) (qr (cZ (ae (qf f_ rfl (qv 0)) (ae qI ay)))) ba)
   (qr (cZ (ae (qf f_ rfl (qv 0)) (ae qI ay))))))
def jv:aN ["self","world","state"] ["self","world","state"] (ax gU):=fsc
theorem qd{k:Nat}{a_:Cl}(d:MkD K mg a_.C "Keeper" "Keeper.__init__" gU ["self","world","state"])(B:Blt mg)(d_:TC K a_ nK):CMk P w K mg base a_ "Keeper" (k+1) ["self","world","state"] (fnU 3 3 (hX a_)):=
 d.pure d_ jv λf _ A _ s H E hr=>(by
  have hu:=bH hr;have nd:=jv.nd;exact(aw (qsf d_ rfl (qv 0) (fb i6 zG rfl B.list OG.ny (ae (qv 2) ay)))
   (aw (qsf d_ rfl (qv 0) (kE EI EH (e9 (ae qI ay)) (cL rD rA rfl B.len YH (ae (qv 2) ay))))
   (aw (qsf d_ rfl (qv 0) mG)
   (aw (qsf d_ rfl (qv 0) qI)
   (aw (qsf d_ rfl (qv 0) (e9 ay))
   (aY (qsf d_ rfl (qv 0) mG))))))))
def j7:aN ["self","a","word","attempt"] ["self","a","word"] (ax iS):=fsc
theorem sC{k:Nat}{a_ c_:Cl}(d:MtD K a_.C "end" "Keeper.end" iS ["self","a","word"])(B:Blt mg)(d_:TC K a_ nK)(f_:TC K c_ nA):dP P w K mg base a_ "end" (k+1) ["self","a","word"] (fnU 4 3 (jg a_ c_)):=
 d.pure j7 λf _ A _ s H E hr=>(by
  have hu:=bH hr;have nd:=j7.nd;exact(aw (qss 3 nd (qx hu (qf d_ rfl (qv 0)) (qv 1)))
   (aw (qsf f_ rfl (qv 3) qB)
   (aY (cm (d9 (qf d_ rfl (qv 0)) (ae (cZ (ae (qv 2) (ae (qv 1) ay))) ay)))))))
def dw:aN ["self","a"] ["self","a"] (ax dZ):=fsc
theorem nZ{k:Nat}{a_ c_:Cl}(d:MtD K a_.C "found" "Keeper.found" dZ ["self","a"])(B:Blt mg)(d_:TC K a_ nK)(f_:TC K c_ nA):dP P w K mg base a_ "found" (k+1) ["self","a"] (fnU 2 2 (eG a_ c_)):=
 d.pure dw λf _ A _ s H E hr=>(by
  have hu:=bH hr;have nd:=dw.nd;exact(aw (bB (wb (Bq (pG hu (qv 1) (qf d_ rfl (qv 0)) (by with_unfolding_all rfl)) (pH (lH (eK (qf f_ rfl (qx hu (qf d_ rfl (qv 0)) (qv 1)))))))) (aY mf) ba)
   (qr (qx hu (qf d_ rfl (qv 0)) (qv 1)))))
def cy:aN ["self","a","attempt"] ["self","a"] (ax cV):=fsc
theorem lR{k:Nat}{aA:Fn}{a_ c_:Cl}(d:MtD K a_.C "untaken" "Keeper.untaken" cV ["self","a"])(B:Blt mg)(d_:TC K a_ nK)(f_:TC K c_ nA)(m_:dP P w K mg base a_ "found" (k) ["self","a"] aA):dP P w K mg base a_ "untaken" (k+1) ["self","a"] (fnU 3 2 (bX aA a_ c_)):=
 d.pure cy λf _ A _ s H E hr=>(by
  have hu:=bH hr;have nd:=cy.nd;exact(aw (qss 2 nd (qm d_ m_ hr (qv 0) (ae (qv 1) ay)))
   (aw (bB (aU uq zE (qf f_ rfl (qv 2)) qN (aR _)) (aY mf) ba)
   (qr (qv 2)))))
def fC:aN ["self","a","boxes"] ["self","a","boxes"] (ax dB):=fsc
theorem kq{k:Nat}{a_:Cl}(d:MtD K a_.C "is_barred" "Keeper.is_barred" dB ["self","a","boxes"])(B:Blt mg)(d_:TC K a_ nK):dP P w K mg base a_ "is_barred" (k+1) ["self","a","boxes"] (fnU 3 3 (f9 a_)):=
 d.pure fC λf _ A _ s H E hr=>(by
  have hu:=bH hr;have nd:=fC.nd;exact(qr (cL (qz rfl) GY rfl B.any OG.qD (ae (B8 (zu (Nc:=["b","a","self"]) (tn:=["b"]) (capN:=["a","self"]) (caps:=[1,0]) rfl (v8 (qv 2)) (λ_ _ _=>cY (a8 (i:=0) (show(["b","a","self"]:List Str).Nodup by decide +kernel) rfl (by trivial))) (λ_ _ _=>pI zH Kq (EF hu (qf d_ rfl (qv 2)) (qv 0) (qv 1) ⟨rfl,rfl,rfl,rfl⟩) (qv 1) (aR _)) rfl rfl ∅ ∅ ⟨rfl,rfl,trivial⟩ rfl (.cons ⟨rfl,rfl,rfl,_,rfl⟩ (.cons ⟨rfl,rfl,rfl,_,rfl⟩ .nil)) rfl rfl) (ui (Nc:=["b","a","self"]) (tn:=["b"]) (capN:=["a","self"]) (caps:=[1,0]) rfl (qv 2) (λ_ _ _=>cY (a8 (i:=0) (show(["b","a","self"]:List Str).Nodup by decide +kernel) rfl (by trivial))) (λ_ _ _=>pI zH Kq (EF hu (qf d_ rfl (qv 2)) (qv 0) (qv 1) ⟨rfl,rfl,rfl,rfl⟩) (qv 1) (aR _)) rfl rfl ∅ ∅ ⟨rfl,rfl,trivial⟩ rfl (.cons ⟨rfl,rfl,rfl,_,rfl⟩ (.cons ⟨rfl,rfl,rfl,_,rfl⟩ .nil)) rfl rfl)) ay))))
def eJ:aN ["self","a","attempt"] ["self","a"] (ax cI):=fsc
theorem ju{k:Nat}{a_ c_:Cl}(d:MtD K a_.C "has_changed" "Keeper.has_changed" cI ["self","a"])(B:Blt mg)(d_:TC K a_ nK)(f_:TC K c_ nA):dP P w K mg base a_ "has_changed" (k+1) ["self","a"] (fnU 3 2 (cN a_ c_)):=
 d.pure eJ λf _ A _ s H E hr=>(by
  have hu:=bH hr;have nd:=eJ.nd;exact(aw (qss 2 nd (qx hu (qf d_ rfl (qv 0)) (qv 1)))
   (qr (cL (qz rfl) GY rfl B.any OG.qD (ae (ui (Nc:=["b","attempt","self"]) (tn:=["b"]) (capN:=["attempt","self"]) (caps:=[2,0]) rfl (qf f_ rfl (qv 2)) (λ_ _ _=>cY (a8 (i:=0) (show(["b","attempt","self"]:List Str).Nodup by decide +kernel) rfl (by trivial))) (λ_ _ _=>pI xJ HX (qx hu (qf d_ rfl (qv 2)) (qv 0)) (qf f_ rfl (qv 1)) (aR _)) rfl rfl ∅ ∅ ⟨rfl,rfl,trivial⟩ rfl (.cons ⟨rfl,rfl,rfl,_,rfl⟩ (.cons ⟨rfl,rfl,rfl,_,rfl⟩ .nil)) rfl rfl) ay)))))
def eU:aN ["self","a","b"] ["self","a","b"] (ax cX):=fsc
theorem jL{k:Nat}{aL aM:Fn}{a_ c_:Cl}(d:MtD K a_.C "would_fall" "Keeper.would_fall" cX ["self","a","b"])(B:Blt mg)(d_:TC K a_ nK)(f_:TC K c_ nA)(n_:dP P w K mg base a_ "is_barred" (k) ["self","a","boxes"] aL)(t_:dP P w K mg base a_ "has_changed" (k) ["self","a"] aM):dP P w K mg base a_ "would_fall" (k+1) ["self","a","b"] (fnU 3 3 (bc aL aM a_ c_)):=
 d.pure eU λf _ A _ s H E hr=>(by
  have hu:=bH hr;have nd:=eU.nd;exact(aw (bB (eK (qm d_ n_ hr (qv 0) (ae (qv 1) (ae (e9 (ae (qv 2) ay)) ay)))) (qr qB) ba)
   (aw (bB (aU Og Qv (qx hu (qf d_ rfl (qv 0)) (qv 2)) (qf f_ rfl (qx hu (qf d_ rfl (qv 0)) (qv 1))) (aR _)) (qr qB) ba)
   (qr (NL (qm d_ n_ hr (qv 0) (ae (qv 1) (ae (qf f_ rfl (qx hu (qf d_ rfl (qv 0)) (qv 1))) ay))) (NM (qm d_ t_ hr (qv 0) (ae (qv 1) ay))))))))
def fB:aN ["self","attempt","b"] ["self","attempt","b"] (ax dA):=fsc
theorem ko{k:Nat}{a_ c_:Cl}(d:MtD K a_.C "look_anew" "Keeper.look_anew" dA ["self","attempt","b"])(B:Blt mg)(d_:TC K a_ nK)(f_:TC K c_ nA):dP P w K mg base a_ "look_anew" (k+1) ["self","attempt","b"] (fnU 3 3 (b8 a_ c_)):=
 d.pure fB λf _ A _ s H E hr=>(by
  have hu:=bH hr;have nd:=fB.nd;exact(aw (bB (aU xJ HX (qx hu (qf d_ rfl (qv 0)) (qv 2)) (qf f_ rfl (qv 1)) (aR _)) (aY (qsf f_ rfl (qv 1) (qf d_ rfl (qv 0)))) ba)
   (aw (bN hu (qf f_ rfl (qv 1)) (qv 2) qB)
   (qr (qx hu (qf d_ rfl (qv 0)) (qv 2))))))
def dz:aN ["self","a"] ["self","a"] (ax d8):=fsc
theorem n5{k:Nat}{eF:Fn}{a_ c_:Cl}(d:MtD K a_.C "begin" "Keeper.begin" d8 ["self","a"])(B:Blt mg)(d_:TC K a_ nK)(f_:TC K c_ nA)(RF:CMk P w K mg base c_ "Attempt" k ["self","glance"] eF):dP P w K mg base a_ "begin" (k+1+1) ["self","a"] (fnU 2 2 (eI eF a_ c_)):=
 d.pure dz λf _ A _ s H E hr=>(by
  have hu:=bH hr;have nd:=dz.nd;exact(aw (bB (xD hu (qv 1) (qf d_ rfl (qv 0)) (by with_unfolding_all rfl)) (aY mf) ba)
   (aw (bN hu (qf d_ rfl (qv 0)) (qv 1) (EC RF hr rfl (ae (qf d_ rfl (qv 0)) ay)))
   (aY (cm (d9 (qf d_ rfl (qv 0)) (ae (cZ (ae qS (ae (qv 1) ay))) ay)))))))
def dW:aN ["self","a","b","attempt","number"] ["self","a","b"] (ax eZ):=fsc
theorem qc{k:Nat}{aC bU aI b7:Fn}{a_ c_:Cl}(d:MtD K a_.C "look" "Keeper.look" eZ ["self","a","b"])(B:Blt mg)(d_:TC K a_ nK)(f_:TC K c_ nA)(k_:dP P w K mg base a_ "untaken" (k) ["self","a"] aC)(L_:dP P w K mg base a_ "would_fall" (k) ["self","a","b"] bU)(o_:dP P w K mg base a_ "end" (k) ["self","a","word"] aI)(N_:dP P w K mg base a_ "look_anew" (k) ["self","attempt","b"] b7):dP P w K mg base a_ "look" (k+1) ["self","a","b"] (fnU 5 3 (cE aC bU aI b7 a_ c_)):=
 d.pure dW λf _ A _ s H E hr=>(by
  have hu:=bH hr;have nd:=dW.nd;exact(aw (qss 3 nd (qm d_ k_ hr (qv 0) (ae (qv 1) ay)))
   (aw (bB (xD hu (qv 2) (qf f_ rfl (qv 3)) (by with_unfolding_all rfl)) (aY (qss 4 nd (qx hu (qf f_ rfl (qv 3)) (qv 2)))) (aY (bB (eK (qm d_ L_ hr (qv 0) (ae (qv 1) (ae (qv 2) ay)))) (aw (cm (qm d_ o_ hr (qv 0) (ae (qv 1) (ae qS ay))))
   (qr (cZ (ae qS ay)))) (aY (qss 4 nd (qm d_ N_ hr (qv 0) (ae (qv 3) (ae (qv 2) ay))))))))
   (aw (cm (d9 (qf d_ rfl (qv 0)) (ae (cZ (ae qS (ae (qv 1) (ae (qv 2) (ae (qv 4) ay))))) ay)))
   (qr (cZ (ae qS (ae (qv 4) ay))))))))
def eW:aN ["self","a","b","v","attempt"] ["self","a","b","v"] (ax fR):=fsc
theorem sk{k:Nat}{aC:Fn}{a_ c_:Cl}(d:MtD K a_.C "put" "Keeper.put" fR ["self","a","b","v"])(B:Blt mg)(d_:TC K a_ nK)(f_:TC K c_ nA)(k_:dP P w K mg base a_ "untaken" (k) ["self","a"] aC):dP P w K mg base a_ "put" (k+1) ["self","a","b","v"] (fnU 5 4 (f7 aC a_ c_)):=
 d.pure eW λf _ A _ s H E hr=>(by
  have hu:=bH hr;have nd:=eW.nd;exact(aw (qss 4 nd (qm d_ k_ hr (qv 0) (ae (qv 1) ay)))
   (aw (bN hu (qf f_ rfl (qv 4)) (qv 2) (qv 3))
   (aY (cm (d9 (qf d_ rfl (qv 0)) (ae (cZ (ae qS (ae (qv 1) (ae (qv 2) (ae (qv 3) ay))))) ay)))))))
def dU:aN ["self","a","attempt","b"] ["self","a"] (ax eY):=fsc
theorem qb{k:Nat}{aC aI aL aM:Fn}{a_ c_:Cl}(d:MtD K a_.C "take" "Keeper.take" eY ["self","a"])(B:Blt mg)(d_:TC K a_ nK)(f_:TC K c_ nA)(k_:dP P w K mg base a_ "untaken" (k) ["self","a"] aC)(o_:dP P w K mg base a_ "end" (k) ["self","a","word"] aI)(n_:dP P w K mg base a_ "is_barred" (k) ["self","a","boxes"] aL)(t_:dP P w K mg base a_ "has_changed" (k) ["self","a"] aM):dP P w K mg base a_ "take" (k+1) ["self","a"] (fnU 4 2 (fj aC aI aL aM a_ c_)):=
 d.pure dU λf _ A _ s H E hr=>(by
  have hu:=bH hr;have nd:=dU.nd;exact(aw (qss 2 nd (qm d_ k_ hr (qv 0) (ae (qv 1) ay)))
   (aw (bB (aU gw nT (cL rD rA rfl B.len YH (ae (qf f_ rfl (qv 2)) ay)) qI (aR _)) (aw (cm (qm d_ o_ hr (qv 0) (ae (qv 1) (ae qS ay))))
   (qr qS)) ba)
   (aw (bB (wb (Bq (eK (qm d_ n_ hr (qv 0) (ae (qv 1) (ae (qf f_ rfl (qv 2)) ay)))) (Bq (eK (qm d_ n_ hr (qv 0) (ae (qv 1) (ae (qf f_ rfl (qv 2)) ay)))) (pH (eK (qm d_ t_ hr (qv 0) (ae (qv 1) ay))))))) (aw (cm (qm d_ o_ hr (qv 0) (ae (qv 1) (ae qS ay))))
   (qr qS)) ba)
   (aw (qsf d_ rfl (qv 0) (kE mO mM (qf d_ rfl (qv 0)) qI))
   (aw (qsf f_ rfl (qv 2) (qf d_ rfl (qv 0)))
   (aw (qsf f_ rfl (qv 2) (cL (wA rfl) wk rfl B.sorted OG.hZ (ae (qf f_ rfl (qv 2)) ay)))
   (aw (oE PassesOwn.never rfl (v8 (qf f_ rfl (qv 2))) (cY (a8 (i:=3) nd rfl (by trivial))) (aY (bN hu (qf d_ rfl (qv 0)) (qv 3) (qv 1))))
   (qr qS)))))))))
def du:aN ["self","a","attempt","b","held"] ["self","a"] (ax dY):=fsc
theorem nX{k:Nat}{aA aI:Fn}{a_ c_:Cl}(d:MtD K a_.C "write" "Keeper.write" dY ["self","a"])(B:Blt mg)(d_:TC K a_ nK)(f_:TC K c_ nA)(m_:dP P w K mg base a_ "found" (k) ["self","a"] aA)(o_:dP P w K mg base a_ "end" (k) ["self","a","word"] aI):dP P w K mg base a_ "write" (k+1) ["self","a"] (fnU 5 2 (cS aA aI a_ c_)):=
 d.pure du λf _ A _ s H E hr=>(by
  have hu:=bH hr;have nd:=du.nd;exact(aw (qss 2 nd (qm d_ m_ hr (qv 0) (ae (qv 1) ay)))
   (aw (bB (aU wy CD (qf f_ rfl (qv 2)) qN (aR _)) (aY mf) ba)
   (aw (qss 3 nd (zq (qf f_ rfl (qv 2)) (ae qI ay)))
   (aw (bN hu (qf d_ rfl (qv 0)) (qv 3) (qx hu (qf f_ rfl (qv 2)) (qv 3)))
   (aw (bN hu (qf d_ rfl (qv 0)) (qv 3) (qf f_ rfl (qv 2)))
   (aw (bB (aU xJ HX (cL rD rA rfl B.len YH (ae (qf f_ rfl (qv 2)) ay)) qI (aR _)) (qr qS) ba)
   (aw (zh PassesOwn.never rfl (qf f_ rfl (qv 2)) (cY (a8 (i:=4) nd rfl (by trivial))) (aY (cm (JS (qf d_ rfl (qv 0)) (qv 4) ⟨rfl,rfl,rfl,rfl⟩))))
   (aw (cm (qm d_ o_ hr (qv 0) (ae (qv 1) (ae qS ay))))
   (qr qS))))))))))
def dX:aN ["self","a"] ["self","a"] (ax e8):=fsc
def fk(aC aI:Fn)(a_:Cl):CS:=
 (aT (gP (bA a_ aC (ah 0) (ag (ah 1) aE)))
  (gP (bA a_ aI (ah 0) (ag (ah 1) (ag (cC (.str "fall")) aE)))))
theorem qe{k:Nat}{aC aI:Fn}{a_:Cl}(d:MtD K a_.C "fall" "Keeper.fall" e8 ["self","a"])(B:Blt mg)(d_:TC K a_ nK)(k_:dP P w K mg base a_ "untaken" (k) ["self","a"] aC)(o_:dP P w K mg base a_ "end" (k) ["self","a","word"] aI):dP P w K mg base a_ "fall" (k+1) ["self","a"] (fnU 2 2 (fk aC aI a_)):=
 d.pure dX λf _ A _ s H E hr=>(by
  have hu:=bH hr;have nd:=dX.nd;exact(aw (cm (qm d_ k_ hr (qv 0) (ae (qv 1) ay)))
   (aY (cm (qm d_ o_ hr (qv 0) (ae (qv 1) (ae qS ay)))))))
def j6:aN ["self"] ["self"] (ax iR):=fsc
theorem sy{k:Nat}{a_:Cl}(d:MtD K a_.C "log" "Keeper.log" iR ["self"])(B:Blt mg)(d_:TC K a_ nK):dP P w K mg base a_ "log" (k+1) ["self"] (fnU 1 1 (jf a_)):=
 d.pure j6 λf _ A _ s H E hr=>(by
  have hu:=bH hr;have nd:=j6.nd;exact(qr (fb i6 zG rfl B.list OG.ny (ae (qf d_ rfl (qv 0)) ay))))
def mC:aN ["self"] ["self"] (ax gi):=fsc
abbrev zOf(p:Addr):O:=.cod p ⟨144,38,144,71⟩ ("Keeper.order"++".<locals>."++"<lambda>")
theorem nY{k:Nat}{cD:Fn}{a_ c_:Cl}{cO pO:Addr}(d:MtD K a_.C "order" "Keeper.order" gi ["self"])(cd:HV K a_.C "order" cO pO)(bm:Bo mg base)(B:Blt mg)(d_:TC K a_ nK)(f_:TC K c_ nA)(P_:dP P w K mg base c_ "instant" k ["self"] cD):dP P w K mg base a_ "order" (k+3+1) ["self"] (fnU 1 1 (gz cD a_ c_ (zOf pO))):=by
 have hC:=cd;let⟨_,_,_,_,_,_,_,hC⟩:=hC;exact d.pureC cd mC λf A outer s H E hr=>aY (EA (Gr (x:="self") (pa:="a") (k:=0) (kr:=k) (cx:=s.heap.objs.size+1) ⟨rfl,rfl,rfl,rfl,rfl,rfl,rfl,∅,λ_ _ _ _ _=>rfl,λf' cd' A' s' H' hr'=>zr f_.cl P_ hr' (f_.nm ∅) (Pp (bH hr') (Gs d_.cl (d_.na 5 rfl) (d_.ix rfl) (B7 (wpv 1))) (B7 (wpv 0)) (λ_ _=>rfl) (λ_ _=>rfl))⟩ hr rfl rfl B.sorted OG.hZ (Gs d_.cl (d_.na 5 rfl) (d_.ix rfl) (B7 (wpv 0))) rfl hC bm rfl rfl))
def j5:aN ["self"] ["self"] (ax iQ):=fsc
theorem sx{k:Nat}{a_:Cl}(d:MtD K a_.C "now" "Keeper.now" iQ ["self"])(B:Blt mg)(d_:TC K a_ nK):dP P w K mg base a_ "now" (k+1) ["self"] (fnU 1 1 (je a_)):=
 d.pure j5 λf _ A _ s H E hr=>(by
  have hu:=bH hr;have nd:=j5.nd;exact(qr (fb hJ uj rfl B.tuple OG.k9 (ae (qf d_ rfl (qv 0)) ay))))
def iG:aN ["self"] ["self"] (ax gq):=fsc
theorem n4{k:Nat}{a_:Cl}(d:MtD K a_.C "clock" "Keeper.clock" gq ["self"])(B:Blt mg)(d_:TC K a_ nK):dP P w K mg base a_ "clock" (k+1) ["self"] (fnU 1 1 (gB a_)):=
 d.pure iG λf _ A _ s H E hr=>(by
  have hu:=bH hr;have nd:=iG.nd;exact(qr (qf d_ rfl (qv 0))))
def lC:aN ["script","k","number","stir","found","turn"] ["script","k"] (ax jD):=fsc
theorem uH{k:Nat}(d:Def K mg "_law_well" jD ["script","k"])(B:Blt mg):gG P w K mg base "_law_well" (k+1) ["script","k"] (fnU 6 2 (hU )):=
 d.pure lC λf _ A _ s H E hr=>(by
  have hu:=bH hr;have nd:=lC.nd;exact(aw (qss 2 nd (kE mO mM (kE kg rq qI (qv 1)) qI))
   (aw (bB (aU CJ L8 (qv 1) (cL rD rA rfl B.len YH (ae (qv 0) ay)) (aR _)) (aY (qss 2 nd (qx hu (qv 0) (qv 1)))) ba)
   (aw (bB (aU gw nT (kE rC zF (qv 2) qI) qI (aR _)) (qr (e9 (ae (kE wz Kt (qv 2) qI) ay))) ba)
   (aw (qss 3 nd (kE rC zF (kE mO mM (kE mO mM (kE kg rq (qv 2) qI) (kE kg rq qI (qv 1))) qI) qI))
   (aw (qss 4 nd qI)
   (aw (oE PassesOwn.never rfl (iT rfl B.range (ae qI ay)) (cY (a8 (i:=5) nd rfl (by trivial))) (aw (qss 3 nd (kE rC zF (kE mO mM (kE mO mM (kE mO mM (kE kg rq (qv 3) (qv 3)) (kE kg rq qI (qv 3))) (kE kg rq qI (qv 5))) qI) qI))
   (aY (qss 4 nd (kE mO mM (kE kg rq (qv 4) qI) (qv 3))))))
   (qr (e9 (ae (qv 4) ay))))))))))
def mz:aN ["well","many","digit"] ["well","many"] (ax kJ):=fsc
theorem xV{k:Nat}(d:Def K mg "_law_sip" kJ ["well","many"])(B:Blt mg):gG P w K mg base "_law_sip" (k+1) ["well","many"] (fnU 3 2 (k6 )):=
 d.pure mz λf _ A _ s H E hr=>(by
  have hu:=bH hr;have nd:=mz.nd;exact(aw (qss 2 nd (kE rC zF (qx hu (qv 0) qI) (qv 1)))
   (aw (bN hu (qv 0) qI (kE wz Kt (qx hu (qv 0) qI) (qv 1)))
   (qr (qv 2)))))
def jY:aN ["well","n","w"] ["well"] (ax iJ):=fsc
def i8(aQ:Fn):CS:=
 (aT (cH 1 (cOp sG (cC (.int 1)) (cCB aQ (ag (ah 0) (ag (cOp fIx (jn (ag (cC (.int 2)) (ag (cC (.int 3)) (ag (cC (.int 6)) aE)))) (cCB aQ (ag (ah 0) (ag (cC (.int 3)) aE)))) aE)))))
  (aT (cH 2 (cOp fIx (jn (ag (cC (.int 2)) (ag (cC (.int 3)) (ag (cC (.int 7)) (ag (cC (.int 1000)) aE))))) (cCB aQ (ag (ah 0) (ag (cC (.int 4)) aE)))))
  (bV (jh (ag (jh (ag (ah 1) (ag (ah 2) aE))) (ag (cCB kx (ag (ji (c6 (ag (ah 1) aE)) (gNm 0) (cCB aQ (ag (ah 1) (ag (ah 2) aE))) 1 [0,2]) aE)) aE))))))
theorem sd{k:Nat}{aQ:Fn}(d:Def K mg "_law_world" iJ ["well"])(B:Blt mg)(a9:gG P w K mg base "_law_sip" (k) ["well","many"] aQ):gG P w K mg base "_law_world" (k+1) ["well"] (fnU 3 1 (i8 aQ)):=
 d.pure jY λf _ A _ s H E hr=>(by
  have hu:=bH hr;have nd:=jY.nd;exact(aw (qss 1 nd (kE mO mM qI (a6 a9 hr rfl (ae (qv 0) (ae (qx hu (e9 (ae qI (ae qI (ae qI ay)))) (a6 a9 hr rfl (ae (qv 0) (ae qI ay)))) ay)))))
   (aw (qss 2 nd (qx hu (e9 (ae qI (ae qI (ae qI (ae qI ay))))) (a6 a9 hr rfl (ae (qv 0) (ae qI ay)))))
   (qr (cZ (ae (cZ (ae (qv 1) (ae (qv 2) ay))) (ae (fb hJ uj rfl B.tuple OG.k9 (ae (zu (Nc:=["box","well","w"]) (tn:=["box"]) (capN:=["well","w"]) (caps:=[0,2]) rfl (iT rfl B.range (ae (qv 1) ay)) (λ_ _ _=>cY (a8 (i:=0) (show(["box","well","w"]:List Str).Nodup by decide +kernel) rfl (by trivial))) (λ_ _ _=>a6 a9 hr rfl (ae (qv 1) (ae (qv 2) ay))) rfl rfl ∅ ∅ ⟨rfl,rfl,trivial⟩ rfl (.cons ⟨rfl,rfl,rfl,_,rfl⟩ (.cons ⟨rfl,rfl,rfl,_,rfl⟩ .nil)) rfl rfl) ay)) ay)))))))
def lF:aN ["model","a","box","other","one"] ["model","a","box"] (ax jG):=fsc
def bW:CS:=
 (aT (cH 4 (cOp fIx (cOp fIx (ah 0) (cC (.str "tries"))) (ah 3)))
  (dh (A4 (aG (cOp fNe (ah 3) (ah 1))) (A4 (aG (cOp (ql true) (cOp fIx (ah 4) (cC (.str "left"))) (jn aE))) (aG (cOp (fIn false) (ah 2) (cOp fIx (ah 4) (cC (.str "puts"))))))) (bV (cC (.bl true))) bI))
def jP:CS:=
 (aT (sT (cOp fIx (ah 0) (cC (.str "tries"))) (gNm 3) (bW ))
  (bV (cC (.bl false))))
theorem uL{k:Nat}(d:Def K mg "_law_held" jG ["model","a","box"])(B:Blt mg):gG P w K mg base "_law_held" (k+1) ["model","a","box"] (fnU 5 3 (jP )):=
 d.pure lF λf _ A _ s H E hr=>(by
  have hu:=bH hr;have nd:=lF.nd;exact(aw (zh PassesOwn.never rfl (qx hu (qv 0) qS) (cY (a8 (i:=3) nd rfl (by trivial))) (aw (qss 4 nd (qx hu (qx hu (qv 0) qS) (qv 3)))
   (aY (bB (wb (xE (aU zH Kq (qv 3) (qv 1) (aR _)) (xE (aU (wx hr.units) um (qx hu (qv 4) qS) (e9 ay) (aR _)) (rm (xD hu (qv 2) (qx hu (qv 4) qS) (by with_unfolding_all rfl)))))) (qr qB) ba))))
   (qr qB)))
def jZ:aN ["model","a","one","box"] ["model","a"] (ax iK):=fsc
def bY(aV:Fn):CS:=
 (dh (cOr (aG (cCB aV (ag (ah 0) (ag (ah 1) (ag (ah 3) aE))))) (aG (cOp fGt (cOp fIx (cOp fIx (ah 0) (cC (.str "marks"))) (ah 3)) (cOp fIx (ah 2) (cC (.str "glance")))))) (bV (cC (.bl false))) bI)
def i9(aV:Fn):CS:=
 (aT (cH 2 (cOp fIx (cOp fIx (ah 0) (cC (.str "tries"))) (ah 1)))
  (aT (oQ (iTp (cOp fIx (ah 2) (cC (.str "looked")))) (gNm 3) (bY aV))
  (bV (cC (.bl true)))))
theorem se{k:Nat}{aV:Fn}(d:Def K mg "_law_still" iK ["model","a"])(B:Blt mg)(fN:gG P w K mg base "_law_held" (k) ["model","a","box"] aV):gG P w K mg base "_law_still" (k+1) ["model","a"] (fnU 4 2 (i9 aV)):=
 d.pure jZ λf _ A _ s H E hr=>(by
  have hu:=bH hr;have nd:=jZ.nd;exact(aw (qss 2 nd (qx hu (qx hu (qv 0) qS) (qv 1)))
   (aw (oE PassesOwn.never rfl (v8 (qx hu (qv 2) qS)) (cY (a8 (i:=3) nd rfl (by trivial))) (aY (bB (wb (Bq (eK (a6 fN hr rfl (ae (qv 0) (ae (qv 1) (ae (qv 3) ay))))) (pH (aU xJ HX (qx hu (qx hu (qv 0) qS) (qv 3)) (qx hu (qv 2) qS) (aR _))))) (qr qB) ba)))
   (qr qB))))
def j2:aN ["state"] ["state"] (ax iN):=fsc
def jc:CS:=
 (bV (yf [((cC (.str "boxes")),(cCB sE (ag (ah 0) aE))),((cC (.str "marks")),(cOp sD (jn (ag (cC (.int 0)) aE)) (cCB sF (ag (ah 0) aE)))),((cC (.str "clock")),(cC (.int 0))),((cC (.str "tries")),oo),((cC (.str "log")),(jn aE))]))
theorem sh{k:Nat}(d:Def K mg "_law_model" iN ["state"])(B:Blt mg):gG P w K mg base "_law_model" (k+1) ["state"] (fnU 1 1 (jc )):=
 d.pure j2 λf _ A _ s H E hr=>(by
  have hu:=bH hr;have nd:=j2.nd;exact(qr (EE (fE qS (fb i6 zG rfl B.list OG.ny (ae (qv 0) ay)) (fE qS (kE EI EH (e9 (ae qI ay)) (cL rD rA rfl B.len YH (ae (qv 0) ay))) (fE qS qI (fE qS mG (fE qS (e9 ay) EB))))) rfl rfl nofun (by exact ZG rfl) (by exact ZG rfl))))
def j3:aN ["model","a","word","told"] ["model","a","word","told"] (ax iO):=fsc
def jd:CS:=
 (aT (dM (cOp fIx (cOp fIx (ah 0) (cC (.str "tries"))) (ah 1)) (cC (.str "open")) (cC (.bl false)))
  (aT (gP (cBM c7 (cOp fIx (ah 0) (cC (.str "log"))) (ag (jh (ag (ah 2) (ag (ah 1) aE))) aE)))
  (bV (ah 3))))
theorem si{k:Nat}(d:Def K mg "_law_ended" iO ["model","a","word","told"])(B:Blt mg):gG P w K mg base "_law_ended" (k+1) ["model","a","word","told"] (fnU 4 4 (jd )):=
 d.pure j3 λf _ A _ s H E hr=>(by
  have hu:=bH hr;have nd:=j3.nd;exact(aw (bN hu (qx hu (qx hu (qv 0) qS) (qv 1)) qS qB)
   (aw (cm (d9 (qx hu (qv 0) qS) (ae (cZ (ae (qv 2) (ae (qv 1) ay))) ay)))
   (qr (qv 3)))))
def lE:aN ["model","a","box","one","number"] ["model","a","box"] (ax jF):=fsc
def hV(aV bK aP:Fn):CS:=
 (aT (cH 3 (cOp fIx (cOp fIx (ah 0) (cC (.str "tries"))) (ah 1)))
  (aT (cH 4 (cOp fIx (cOp fIx (ah 0) (cC (.str "boxes"))) (ah 2)))
  (aT (dh (aG (cOp (fIn false) (ah 2) (cOp fIx (ah 3) (cC (.str "puts"))))) (cH 4 (cOp fIx (cOp fIx (ah 3) (cC (.str "puts"))) (ah 2))) (dh (cOr (aG (cCB aV (ag (ah 0) (ag (ah 1) (ag (ah 2) aE))))) (A4 (aG (cOp fGt (cOp fIx (cOp fIx (ah 0) (cC (.str "marks"))) (ah 2)) (cOp fIx (ah 3) (cC (.str "glance"))))) (sS (aG (cCB bK (ag (ah 0) (ag (ah 1) aE))))))) (bV (cCB aP (ag (ah 0) (ag (ah 1) (ag (cC (.str "fall")) (ag (jh (ag (cC (.str "falls")) aE)) aE)))))) (aT (dh (aG (cOp fGt (cOp fIx (cOp fIx (ah 0) (cC (.str "marks"))) (ah 2)) (cOp fIx (ah 3) (cC (.str "glance"))))) (dM (ah 3) (cC (.str "glance")) (cOp fIx (ah 0) (cC (.str "clock")))) bI)
  (gP (cBM c7 (cOp fIx (ah 3) (cC (.str "looked"))) (ag (ah 2) aE))))))
  (aT (gP (cBM c7 (cOp fIx (ah 0) (cC (.str "log"))) (ag (jh (ag (cC (.str "look")) (ag (ah 1) (ag (ah 2) (ag (ah 4) aE))))) aE)))
  (bV (jh (ag (cC (.str "number")) (ag (ah 4) aE))))))))
theorem uK{k:Nat}{aV bK aP:Fn}(d:Def K mg "_law_look" jF ["model","a","box"])(B:Blt mg)(fN:gG P w K mg base "_law_held" (k) ["model","a","box"] aV)(jj:gG P w K mg base "_law_still" (k) ["model","a"] bK)(bT:gG P w K mg base "_law_ended" (k) ["model","a","word","told"] aP):gG P w K mg base "_law_look" (k+1) ["model","a","box"] (fnU 5 3 (hV aV bK aP)):=
 d.pure lE λf _ A _ s H E hr=>(by
  have hu:=bH hr;have nd:=lE.nd;exact(aw (qss 3 nd (qx hu (qx hu (qv 0) qS) (qv 1)))
   (aw (qss 4 nd (qx hu (qx hu (qv 0) qS) (qv 2)))
   (aw (bB (xD hu (qv 2) (qx hu (qv 3) qS) (by with_unfolding_all rfl)) (aY (qss 4 nd (qx hu (qx hu (qv 3) qS) (qv 2)))) (aY (bB (wb (Bq (eK (a6 fN hr rfl (ae (qv 0) (ae (qv 1) (ae (qv 2) ay))))) (pH (wb (xE (aU xJ HX (qx hu (qx hu (qv 0) qS) (qv 2)) (qx hu (qv 3) qS) (aR _)) (rm (lH (eK (a6 jj hr rfl (ae (qv 0) (ae (qv 1) ay))))))))))) (qr (a6 bT hr rfl (ae (qv 0) (ae (qv 1) (ae qS (ae (cZ (ae qS ay)) ay)))))) (aw (bB (aU xJ HX (qx hu (qx hu (qv 0) qS) (qv 2)) (qx hu (qv 3) qS) (aR _)) (aY (bN hu (qv 3) qS (qx hu (qv 0) qS))) ba)
   (aY (cm (d9 (qx hu (qv 3) qS) (ae (qv 2) ay))))))))
   (aw (cm (d9 (qx hu (qv 0) qS) (ae (cZ (ae qS (ae (qv 1) (ae (qv 2) (ae (qv 4) ay))))) ay)))
   (qr (cZ (ae qS (ae (qv 4) ay)))))))))
def lD:aN ["model","a","one"] ["model","a"] (ax jE):=fsc
def jO(aP bK aV:Fn):CS:=
 (aT (cH 2 (cOp fIx (cOp fIx (ah 0) (cC (.str "tries"))) (ah 1)))
  (aT (dh (aG (cOp Lm (cOp fIx (ah 2) (cC (.str "puts"))) oo)) (bV (cCB aP (ag (ah 0) (ag (ah 1) (ag (cC (.str "done")) (ag (cC (.str "done")) aE)))))) bI)
  (aT (dh (cOr (sS (aG (cCB bK (ag (ah 0) (ag (ah 1) aE))))) (aG (cCB ym (ag (fK (cOp fIx (ah 2) (cC (.str "puts"))) (gNm 0) (cCB aV (ag (ah 1) (ag (ah 2) (ag (ah 0) aE)))) 1 [0,1]) aE)))) (bV (cCB aP (ag (ah 0) (ag (ah 1) (ag (cC (.str "fall")) (ag (cC (.str "falls")) aE)))))) bI)
  (aT (dM (ah 0) (cC (.str "clock")) (cOp sG (cOp fIx (ah 0) (cC (.str "clock"))) (cC (.int 1))))
  (aT (dM (ah 2) (cC (.str "stamp")) (cOp fIx (ah 0) (cC (.str "clock"))))
  (aT (dM (ah 2) (cC (.str "left")) (cCB iX (ag (cOp fIx (ah 2) (cC (.str "puts"))) aE)))
  (bV (cC (.str "taken")))))))))
theorem uJ{k:Nat}{aP bK aV:Fn}(d:Def K mg "_law_take" jE ["model","a"])(B:Blt mg)(bT:gG P w K mg base "_law_ended" (k) ["model","a","word","told"] aP)(jj:gG P w K mg base "_law_still" (k) ["model","a"] bK)(fN:gG P w K mg base "_law_held" (k) ["model","a","box"] aV):gG P w K mg base "_law_take" (k+1) ["model","a"] (fnU 3 2 (jO aP bK aV)):=
 d.pure lD λf _ A _ s H E hr=>(by
  have hu:=bH hr;have nd:=lD.nd;exact(aw (qss 2 nd (qx hu (qx hu (qv 0) qS) (qv 1)))
   (aw (bB (aU (KA hr.units) Of (qx hu (qv 2) qS) mG (aR _)) (qr (a6 bT hr rfl (ae (qv 0) (ae (qv 1) (ae qS (ae qS ay)))))) ba)
   (aw (bB (wb (Bq (lH (eK (a6 jj hr rfl (ae (qv 0) (ae (qv 1) ay))))) (pH (eK (cL (qz rfl) GY rfl B.any OG.qD (ae (ui (Nc:=["box","model","a"]) (tn:=["box"]) (capN:=["model","a"]) (caps:=[0,1]) rfl (qx hu (qv 2) qS) (λ_ _ _=>cY (a8 (i:=0) (show(["box","model","a"]:List Str).Nodup by decide +kernel) rfl (by trivial))) (λ_ _ _=>a6 fN hr rfl (ae (qv 1) (ae (qv 2) (ae (qv 0) ay)))) rfl rfl ∅ ∅ ⟨rfl,rfl,trivial⟩ rfl (.cons ⟨rfl,rfl,rfl,_,rfl⟩ (.cons ⟨rfl,rfl,rfl,_,rfl⟩ .nil)) rfl rfl) ay)))))) (qr (a6 bT hr rfl (ae (qv 0) (ae (qv 1) (ae qS (ae qS ay)))))) ba)
   (aw (bN hu (qv 0) qS (kE mO mM (qx hu (qv 0) qS) qI))
   (aw (bN hu (qv 2) qS (qx hu (qv 0) qS))
   (aw (bN hu (qv 2) qS (cL (wA rfl) wk rfl B.sorted OG.hZ (ae (qx hu (qv 2) qS) ay)))
   (qr qS))))))))
def jX:aN ["model","a","one","box"] ["model","a"] (ax iI):=fsc
def i7(aP:Fn):CS:=
 (aT (cH 2 (cOp fIx (cOp fIx (ah 0) (cC (.str "tries"))) (ah 1)))
  (aT (cH 3 (cBM m9 (cOp fIx (ah 2) (cC (.str "left"))) (ag (cC (.int 0)) aE)))
  (aT (dM (cOp fIx (ah 0) (cC (.str "boxes"))) (ah 3) (cOp fIx (cOp fIx (ah 2) (cC (.str "puts"))) (ah 3)))
  (aT (dM (cOp fIx (ah 0) (cC (.str "marks"))) (ah 3) (cOp fIx (ah 2) (cC (.str "stamp"))))
  (aT (dh (aG (cOp (ql true) (cOp fIx (ah 2) (cC (.str "left"))) (jn aE))) (bV (cC (.str "written"))) bI)
  (bV (cCB aP (ag (ah 0) (ag (ah 1) (ag (cC (.str "done")) (ag (cC (.str "done")) aE)))))))))))
theorem rZ{k:Nat}{aP:Fn}(d:Def K mg "_law_write" iI ["model","a"])(B:Blt mg)(bT:gG P w K mg base "_law_ended" (k) ["model","a","word","told"] aP):gG P w K mg base "_law_write" (k+1) ["model","a"] (fnU 4 2 (i7 aP)):=
 d.pure jX λf _ A _ s H E hr=>(by
  have hu:=bH hr;have nd:=jX.nd;exact(aw (qss 2 nd (qx hu (qx hu (qv 0) qS) (qv 1)))
   (aw (qss 3 nd (zq (qx hu (qv 2) qS) (ae qI ay)))
   (aw (bN hu (qx hu (qv 0) qS) (qv 3) (qx hu (qx hu (qv 2) qS) (qv 3)))
   (aw (bN hu (qx hu (qv 0) qS) (qv 3) (qx hu (qv 2) qS))
   (aw (bB (aU (wx hr.units) um (qx hu (qv 2) qS) (e9 ay) (aR _)) (qr qS) ba)
   (qr (a6 bT hr rfl (ae (qv 0) (ae (qv 1) (ae qS (ae qS ay))))))))))))
def lG:aN ["model","call","word","a"] ["model","call"] (ax jH):=fsc
def bC(gY gX fU aP:Fn):CS:=
 (aT (HI (LC (ah 1) none (some (cC (.int 2)))) (gTp [2,3]))
  (aT (dh (aG (cOp fEq (ah 2) (cC (.str "begin")))) (aT (dh (aG (cOp (fIn false) (ah 3) (cOp fIx (ah 0) (cC (.str "tries"))))) (bV (cC (.str "noattempt"))) bI)
  (aT (dM (cOp fIx (ah 0) (cC (.str "tries"))) (ah 3) (yf [((cC (.str "glance")),(cOp fIx (ah 0) (cC (.str "clock")))),((cC (.str "looked")),(jn aE)),((cC (.str "puts")),oo),((cC (.str "left")),(jn aE)),((cC (.str "stamp")),(Mv (cC (.int 1)))),((cC (.str "open")),(cC (.bl true)))]))
  (aT (gP (cBM c7 (cOp fIx (ah 0) (cC (.str "log"))) (ag (ah 1) aE)))
  (bV (cC .non))))) bI)
  (aT (dh (cOr (aG (cOp (fIn true) (ah 3) (cOp fIx (ah 0) (cC (.str "tries"))))) (sS (aG (cOp fIx (cOp fIx (cOp fIx (ah 0) (cC (.str "tries"))) (ah 3)) (cC (.str "open")))))) (bV (cC (.str "noattempt"))) bI)
  (aT (dh (aG (cOp fNe (cOp fGe (cOp fIx (cOp fIx (cOp fIx (ah 0) (cC (.str "tries"))) (ah 3)) (cC (.str "stamp"))) (cC (.int 0))) (cOp fEq (ah 2) (cC (.str "write"))))) (bV (cC (.str "nostep"))) bI)
  (aT (dh (aG (cOp fEq (ah 2) (cC (.str "look")))) (bV (cCB gY (ag (ah 0) (ag (ah 3) (ag (cOp fIx (ah 1) (cC (.int 2))) aE))))) bI)
  (aT (dh (aG (cOp fEq (ah 2) (cC (.str "take")))) (bV (cCB gX (ag (ah 0) (ag (ah 3) aE)))) bI)
  (aT (dh (aG (cOp fEq (ah 2) (cC (.str "write")))) (bV (cCB fU (ag (ah 0) (ag (ah 3) aE)))) bI)
  (aT (dh (aG (cOp fEq (ah 2) (cC (.str "fall")))) (bV (cCB aP (ag (ah 0) (ag (ah 3) (ag (cC (.str "fall")) (ag (cC .non) aE)))))) bI)
  (aT (dM (cOp fIx (cOp fIx (cOp fIx (ah 0) (cC (.str "tries"))) (ah 3)) (cC (.str "puts"))) (cOp fIx (ah 1) (cC (.int 2))) (cOp fIx (ah 1) (cC (.int 3))))
  (aT (gP (cBM c7 (cOp fIx (ah 0) (cC (.str "log"))) (ag (ah 1) aE)))
  (bV (cC .non))))))))))))
theorem uM{k:Nat}{gY gX fU aP:Fn}(d:Def K mg "_law_call" jH ["model","call"])(B:Blt mg)(vw:gG P w K mg base "_law_look" (k) ["model","a","box"] gY)(vv:gG P w K mg base "_law_take" (k) ["model","a"] gX)(tH:gG P w K mg base "_law_write" (k) ["model","a"] fU)(bT:gG P w K mg base "_law_ended" (k) ["model","a","word","told"] aP):gG P w K mg base "_law_call" (k+1) ["model","call"] (fnU 4 2 (bC gY gX fU aP)):=
 d.pure lG λf _ A _ s H E hr=>(by
  have hu:=bH hr;have nd:=lG.nd;exact(aw (zi (JN (qv 1) zm (zj qI)) (wa rfl (fT (a8 (i:=2) nd rfl (by trivial)) (fT (a8 (i:=3) nd rfl (by trivial)) pF))))
   (aw (bB (aU gw nT (qv 2) qS (aR _)) (aw (bB (xD hu (qv 3) (qx hu (qv 0) qS) (by with_unfolding_all rfl)) (qr qS) ba)
   (aw (bN hu (qx hu (qv 0) qS) (qv 3) (EE (fE qS (qx hu (qv 0) qS) (fE qS (e9 ay) (fE qS mG (fE qS (e9 ay) (fE qS (NO qI) (fE qS qB EB)))))) rfl rfl nofun (by exact ZG rfl) (by exact ZG rfl)))
   (aw (cm (d9 (qx hu (qv 0) qS) (ae (qv 1) ay)))
   (qr qN)))) ba)
   (aw (bB (wb (Bq (pG hu (qv 3) (qx hu (qv 0) qS) (by with_unfolding_all rfl)) (pH (lH (eK (qx hu (qx hu (qx hu (qv 0) qS) (qv 3)) qS)))))) (qr qS) ba)
   (aw (bB (aU zH Kq (pI G3 Oe (qx hu (qx hu (qx hu (qv 0) qS) (qv 3)) qS) qI (aR _)) (pI gw nT (qv 2) qS (aR _)) (aR _)) (qr qS) ba)
   (aw (bB (aU gw nT (qv 2) qS (aR _)) (qr (a6 vw hr rfl (ae (qv 0) (ae (qv 3) (ae (qx hu (qv 1) qI) ay))))) ba)
   (aw (bB (aU gw nT (qv 2) qS (aR _)) (qr (a6 vv hr rfl (ae (qv 0) (ae (qv 3) ay)))) ba)
   (aw (bB (aU gw nT (qv 2) qS (aR _)) (qr (a6 tH hr rfl (ae (qv 0) (ae (qv 3) ay)))) ba)
   (aw (bB (aU gw nT (qv 2) qS (aR _)) (qr (a6 bT hr rfl (ae (qv 0) (ae (qv 3) (ae qS (ae qN ay)))))) ba)
   (aw (bN hu (qx hu (qx hu (qx hu (qv 0) qS) (qv 3)) qS) (qx hu (qv 1) qI) (qx hu (qv 1) qI))
   (aw (cm (d9 (qx hu (qv 0) qS) (ae (qv 1) ay)))
   (qr qN))))))))))))
def j1:aN ["model","rows","turn","a","one"] ["model"] (ax iM):=fsc
def cT:CS:=
 (aT (cH 4 (cOp fIx (cOp fIx (ah 0) (cC (.str "tries"))) (ah 3)))
  (gP (cBM c7 (ah 1) (ag (cOp fIx (jn (ag (jh (ag (cOp fIx (ah 4) (cC (.str "glance"))) (ag (cC (.int 1)) (ag (ah 2) (ag (ah 3) aE))))) (ag (jh (ag (cOp fIx (ah 4) (cC (.str "stamp"))) (ag (cC (.int 0)) (ag (ah 2) (ag (ah 3) aE))))) aE))) (cCB Lk (ag (cOp fGe (cOp fIx (ah 4) (cC (.str "stamp"))) (cC (.int 0))) aE))) aE))))
def jb:CS:=
 (aT (cH 1 (jn aE))
  (aT (A2 (cOp fIx (ah 0) (cC (.str "tries"))) (gTp [2,3]) (cT ))
  (bV (ji (iTp (cCB jm (ag (ah 1) aE))) (gNm 0) (cOp fIx (ah 0) (cC (.int 3))) 1 []))))
theorem sg{k:Nat}(d:Def K mg "_law_order" iM ["model"])(B:Blt mg):gG P w K mg base "_law_order" (k+1) ["model"] (fnU 5 1 (jb )):=
 d.pure j1 λf _ A _ s H E hr=>(by
  have hu:=bH hr;have nd:=j1.nd;exact(aw (qss 1 nd (e9 ay))
   (aw (Gq PassesOwn.never rfl rfl B.enumerate (qx hu (qv 0) qS) (wa rfl (fT (a8 (i:=2) nd rfl (by trivial)) (fT (a8 (i:=3) nd rfl (by trivial)) pF))) (aw (qss 4 nd (qx hu (qx hu (qv 0) qS) (qv 3)))
   (aY (cm (d9 (qv 1) (ae (qx hu (e9 (ae (cZ (ae (qx hu (qv 4) qS) (ae qI (ae (qv 2) (ae (qv 3) ay))))) (ae (cZ (ae (qx hu (qv 4) qS) (ae qI (ae (qv 2) (ae (qv 3) ay))))) ay))) (fb nv GX rfl B.int OG.qC (ae (pI G3 Oe (qx hu (qv 4) qS) qI (aR _)) ay))) ay))))))
   (qr (zu (Nc:=["row"]) (tn:=["row"]) (capN:=[]) (caps:=[]) rfl (v8 (cL (xM rfl) zD rfl B.sorted OG.hZ (ae (qv 1) ay))) (λ_ _ _=>cY (a8 (i:=0) (show(["row"]:List Str).Nodup by decide +kernel) rfl (by trivial))) (λ_ _ _=>qx hu (qv 0) qI) rfl rfl ∅ ∅ trivial rfl .nil rfl rfl)))))
def bQ(a_ c_:Cl)(CA CP:Addr):CR:=
 (xIf (cOr (aG (cOp (fIn true) (ah 1) (bD a_ 5 (ah 0)))) (sS (aG (bD c_ 5 (cOp fIx (bD a_ 5 (ah 0)) (ah 1)))))) (mq CA (ag (cFs "attempt " " is not under way" (ah 1)) aE)) xNo)
theorem iZ{a_ c_:Cl}{CA CP:Addr}{a0 a1:U}{S:Sto}:fnX 2 2 (bQ a_ c_ CA CP) [a0,a1] S=(bQ a_ c_ CA CP) [some a0,some a1] S:=rfl
theorem nQ{k:Nat}{a_ c_:Cl}{CA CP:Addr}{CG CR CT CM:Addr}(d:MtD K a_.C "found" "Keeper.found" dZ ["self","a"])(B:Blt mg)(V:yr K mg CA CP CG CR CT CM)(d_:TC K a_ nK)(f_:TC K c_ nA):eO P w K mg base a_ "found" (k+1) ["self","a"] (fnX 2 2 (bQ a_ c_ CA CP)):=
 d.pureR dw λf _ A _ s H E hr=>(by
  have hu:=bH hr;have nd:=dw.nd;exact(bZ (BZ (wb (Bq (pG hu (qv 1) (qf d_ rfl (qv 0)) (by with_unfolding_all rfl)) (pH (lH (eK (qf f_ rfl (qx hu (qf d_ rfl (qv 0)) (qv 1)))))))) (bZ (me rfl V.ga V.xa.ex (ae (L7 (ZG rfl) (ZG rfl) gS (qv 1) gS) ay))) BY)))
def bz(aA:Fn)(h_:FnR)(a_ c_:Cl)(CA CP:Addr):CR:=
 (El (iE a_ h_ (ah 0) (ag (ah 1) aE)) (Jd (cH 2 (bA a_ aA (ah 0) (ag (ah 1) aE))) (xIf (aG (cOp uQ (bD c_ 3 (ah 2)) (cC .non))) (mq CP (ag (cFs "attempt " " has taken" (ah 1)) aE)) xNo)))
theorem gM{aA:Fn}{h_:FnR}{a_ c_:Cl}{CA CP:Addr}{a0 a1:U}{S:Sto}:fnX 3 2 (bz aA h_ a_ c_ CA CP) [a0,a1] S=(bz aA h_ a_ c_ CA CP) [some a0,some a1,none] S:=rfl
theorem lO{k:Nat}{aA:Fn}{h_:FnR}{a_ c_:Cl}{CA CP:Addr}{CG CR CT CM:Addr}(d:MtD K a_.C "untaken" "Keeper.untaken" cV ["self","a"])(B:Blt mg)(V:yr K mg CA CP CG CR CT CM)(d_:TC K a_ nK)(f_:TC K c_ nA)(m_:dP P w K mg base a_ "found" k ["self","a"] aA)(D_:eO P w K mg base a_ "found" k ["self","a"] h_):eO P w K mg base a_ "untaken" (k+1) ["self","a"] (fnX 3 2 (bz aA h_ a_ c_ CA CP)):=
 d.pureR cy λf _ A _ s H E hr=>(by
  have hu:=bH hr;have nd:=cy.nd;exact(Ey (bZ (ra (i:=2) nd rfl (by trivial) (kM d_.cl D_ hr xH (d_.nm ∅) (qv 0) (ae (qv 1) ay)))) (Ex (qss 2 nd (qm d_ m_ hr (qv 0) (ae (qv 1) ay))) (bZ (BZ (aU uq zE (qf f_ rfl (qv 2)) qN (aR _)) (bZ (me rfl V.gs V.xs.ex (ae (L7 (ZG rfl) (ZG rfl) gS (qv 1) gS) ay))) BY)))))
def cf(a_:Cl)(CA CP:Addr):CR:=
 (xIf (aG (cOp (fIn false) (ah 1) (bD a_ 5 (ah 0)))) (mq CA (ag (cFs "attempt " " began already" (ah 1)) aE)) xNo)
theorem nj{a_:Cl}{CA CP:Addr}{a0 a1:U}{S:Sto}:fnX 2 2 (cf a_ CA CP) [a0,a1] S=(cf a_ CA CP) [some a0,some a1] S:=rfl
theorem nR{k:Nat}{a_:Cl}{CA CP:Addr}{CG CR CT CM:Addr}(d:MtD K a_.C "begin" "Keeper.begin" d8 ["self","a"])(B:Blt mg)(V:yr K mg CA CP CG CR CT CM)(d_:TC K a_ nK):eO P w K mg base a_ "begin" (k+1) ["self","a"] (fnX 2 2 (cf a_ CA CP)):=
 d.pureR dz λf _ A _ s H E hr=>(by
  have hu:=bH hr;have nd:=dz.nd;exact(bZ (BZ (xD hu (qv 1) (qf d_ rfl (qv 0)) (by with_unfolding_all rfl)) (bZ (me rfl V.ga V.xa.ex (ae (L7 (ZG rfl) (ZG rfl) gS (qv 1) gS) ay))) BY)))
def cQ(e_:FnR)(a_:Cl)(CA CP:Addr):CR:=
 (iE a_ e_ (ah 0) (ag (ah 1) aE))
theorem oh{e_:FnR}{a_:Cl}{CA CP:Addr}{a0 a1 a2:U}{S:Sto}:fnX 5 3 (cQ e_ a_ CA CP) [a0,a1,a2] S=(cQ e_ a_ CA CP) [some a0,some a1,some a2,none,none] S:=rfl
theorem pA{k:Nat}{e_:FnR}{a_:Cl}{CA CP:Addr}{CG CR CT CM:Addr}(d:MtD K a_.C "look" "Keeper.look" eZ ["self","a","b"])(B:Blt mg)(V:yr K mg CA CP CG CR CT CM)(d_:TC K a_ nK)(l_:eO P w K mg base a_ "untaken" k ["self","a"] e_):eO P w K mg base a_ "look" (k+1) ["self","a","b"] (fnX 5 3 (cQ e_ a_ CA CP)):=
 d.pureR dW λf _ A _ s H E hr=>(by
  have hu:=bH hr;have nd:=dW.nd;exact(bZ (ra (i:=3) nd rfl (by trivial) (kM d_.cl l_ hr xH (d_.nm ∅) (qv 0) (ae (qv 1) ay)))))
def di(e_:FnR)(a_:Cl)(CA CP:Addr):CR:=
 (iE a_ e_ (ah 0) (ag (ah 1) aE))
theorem qo{e_:FnR}{a_:Cl}{CA CP:Addr}{a0 a1 a2 a3:U}{S:Sto}:fnX 5 4 (di e_ a_ CA CP) [a0,a1,a2,a3] S=(di e_ a_ CA CP) [some a0,some a1,some a2,some a3,none] S:=rfl
theorem rl{k:Nat}{e_:FnR}{a_:Cl}{CA CP:Addr}{CG CR CT CM:Addr}(d:MtD K a_.C "put" "Keeper.put" fR ["self","a","b","v"])(B:Blt mg)(V:yr K mg CA CP CG CR CT CM)(d_:TC K a_ nK)(l_:eO P w K mg base a_ "untaken" k ["self","a"] e_):eO P w K mg base a_ "put" (k+1) ["self","a","b","v"] (fnX 5 4 (di e_ a_ CA CP)):=
 d.pureR eW λf _ A _ s H E hr=>(by
  have hu:=bH hr;have nd:=eW.nd;exact(bZ (ra (i:=4) nd rfl (by trivial) (kM d_.cl l_ hr xH (d_.nm ∅) (qv 0) (ae (qv 1) ay)))))
def cP(e_:FnR)(a_:Cl)(CA CP:Addr):CR:=
 (iE a_ e_ (ah 0) (ag (ah 1) aE))
theorem og{e_:FnR}{a_:Cl}{CA CP:Addr}{a0 a1:U}{S:Sto}:fnX 4 2 (cP e_ a_ CA CP) [a0,a1] S=(cP e_ a_ CA CP) [some a0,some a1,none,none] S:=rfl
theorem px{k:Nat}{e_:FnR}{a_:Cl}{CA CP:Addr}{CG CR CT CM:Addr}(d:MtD K a_.C "take" "Keeper.take" eY ["self","a"])(B:Blt mg)(V:yr K mg CA CP CG CR CT CM)(d_:TC K a_ nK)(l_:eO P w K mg base a_ "untaken" k ["self","a"] e_):eO P w K mg base a_ "take" (k+1) ["self","a"] (fnX 4 2 (cP e_ a_ CA CP)):=
 d.pureR dU λf _ A _ s H E hr=>(by
  have hu:=bH hr;have nd:=dU.nd;exact(bZ (ra (i:=2) nd rfl (by trivial) (kM d_.cl l_ hr xH (d_.nm ∅) (qv 0) (ae (qv 1) ay)))))
def bP(aA:Fn)(h_:FnR)(a_ c_:Cl)(CA CP:Addr):CR:=
 (El (iE a_ h_ (ah 0) (ag (ah 1) aE)) (Jd (cH 2 (bA a_ aA (ah 0) (ag (ah 1) aE))) (xIf (aG (cOp Dz (bD c_ 3 (ah 2)) (cC .non))) (mq CP (ag (cFs "attempt " " has not taken" (ah 1)) aE)) xNo)))
theorem iY{aA:Fn}{h_:FnR}{a_ c_:Cl}{CA CP:Addr}{a0 a1:U}{S:Sto}:fnX 5 2 (bP aA h_ a_ c_ CA CP) [a0,a1] S=(bP aA h_ a_ c_ CA CP) [some a0,some a1,none,none,none] S:=rfl
theorem nO{k:Nat}{aA:Fn}{h_:FnR}{a_ c_:Cl}{CA CP:Addr}{CG CR CT CM:Addr}(d:MtD K a_.C "write" "Keeper.write" dY ["self","a"])(B:Blt mg)(V:yr K mg CA CP CG CR CT CM)(d_:TC K a_ nK)(f_:TC K c_ nA)(m_:dP P w K mg base a_ "found" k ["self","a"] aA)(D_:eO P w K mg base a_ "found" k ["self","a"] h_):eO P w K mg base a_ "write" (k+1) ["self","a"] (fnX 5 2 (bP aA h_ a_ c_ CA CP)):=
 d.pureR du λf _ A _ s H E hr=>(by
  have hu:=bH hr;have nd:=du.nd;exact(Ey (bZ (ra (i:=2) nd rfl (by trivial) (kM d_.cl D_ hr xH (d_.nm ∅) (qv 0) (ae (qv 1) ay)))) (Ex (qss 2 nd (qm d_ m_ hr (qv 0) (ae (qv 1) ay))) (bZ (BZ (aU wy CD (qf f_ rfl (qv 2)) qN (aR _)) (bZ (me rfl V.gs V.xs.ex (ae (L7 (ZG rfl) (ZG rfl) gS (qv 1) gS) ay))) BY)))))
def cR(e_:FnR)(a_:Cl)(CA CP:Addr):CR:=
 (iE a_ e_ (ah 0) (ag (ah 1) aE))
theorem oi{e_:FnR}{a_:Cl}{CA CP:Addr}{a0 a1:U}{S:Sto}:fnX 2 2 (cR e_ a_ CA CP) [a0,a1] S=(cR e_ a_ CA CP) [some a0,some a1] S:=rfl
theorem pB{k:Nat}{e_:FnR}{a_:Cl}{CA CP:Addr}{CG CR CT CM:Addr}(d:MtD K a_.C "fall" "Keeper.fall" e8 ["self","a"])(B:Blt mg)(V:yr K mg CA CP CG CR CT CM)(d_:TC K a_ nK)(l_:eO P w K mg base a_ "untaken" k ["self","a"] e_):eO P w K mg base a_ "fall" (k+1) ["self","a"] (fnX 2 2 (cR e_ a_ CA CP)):=
 d.pureR dX λf _ A _ s H E hr=>(by
  have hu:=bH hr;have nd:=dX.nd;exact(bZ (Gi (kM d_.cl l_ hr xH (d_.nm ∅) (qv 0) (ae (qv 1) ay)))))
def j4:aN ["keeper","call","word","a","found","caught","kinds","e"] ["keeper","call"] (ax iP):=fsc
def aW(eD fh fY fg ej fi:Fn)(v_ A_ C_ z_ w_ B_:FnR)(a_:Cl)(CA CP:Addr):CS:=
 (aT (HI (LC (ah 1) none (some (cC (.int 2)))) (gTp [2,3]))
  (aT (cH 4 (cC .non))
  (aT (cH 5 (cC .non))
  (aT (DQ [CA,CP] 7 (dh (aG (cOp fEq (ah 2) (cC (.str "begin")))) (cH 4 (bA a_ eD (ah 0) (ag (ah 3) aE))) (dh (aG (cOp fEq (ah 2) (cC (.str "look")))) (cH 4 (bA a_ fh (ah 0) (ag (ah 3) (ag (cOp fIx (ah 1) (cC (.int 2))) aE)))) (dh (aG (cOp fEq (ah 2) (cC (.str "put")))) (cH 4 (bA a_ fY (ah 0) (ag (ah 3) (ag (cOp fIx (ah 1) (cC (.int 2))) (ag (cOp fIx (ah 1) (cC (.int 3))) aE))))) (dh (aG (cOp fEq (ah 2) (cC (.str "take")))) (cH 4 (bA a_ fg (ah 0) (ag (ah 3) aE))) (dh (aG (cOp fEq (ah 2) (cC (.str "write")))) (cH 4 (bA a_ ej (ah 0) (ag (ah 3) aE))) (cH 4 (bA a_ fi (ah 0) (ag (ah 3) aE)))))))) (xIf (aG (cOp fEq (ah 2) (cC (.str "begin")))) (iE a_ v_ (ah 0) (ag (ah 3) aE)) (xIf (aG (cOp fEq (ah 2) (cC (.str "look")))) (iE a_ A_ (ah 0) (ag (ah 3) (ag (cOp fIx (ah 1) (cC (.int 2))) aE))) (xIf (aG (cOp fEq (ah 2) (cC (.str "put")))) (iE a_ C_ (ah 0) (ag (ah 3) (ag (cOp fIx (ah 1) (cC (.int 2))) (ag (cOp fIx (ah 1) (cC (.int 3))) aE)))) (xIf (aG (cOp fEq (ah 2) (cC (.str "take")))) (iE a_ z_ (ah 0) (ag (ah 3) aE)) (xIf (aG (cOp fEq (ah 2) (cC (.str "write")))) (iE a_ w_ (ah 0) (ag (ah 3) aE)) (iE a_ B_ (ah 0) (ag (ah 3) aE))))))) (cH 5 (ah 7)))
  (aT (dh (aG (cOp Dz (ah 5) (cC .non))) (bV (ah 4)) bI)
  (aT (cH 6 (jn (ag (ye (fX CA CP true false) (ah 5)) (ag (ye (fX CA CP false true) (ah 5)) (ag (ye (fX CA CP false false) (ah 5)) aE)))))
  (aT (dh (cOr (aG (cOp fNe (cBM uV (ah 6) (ag (cC (.bl true)) aE)) (cC (.int 1)))) (sS (aG (ye (fX CA CP true true) (ah 5))))) (bV (cC (.str "odd"))) bI)
  (bV (cOp fIx (jn (ag (cC (.str "noattempt")) (ag (cC (.str "nostep")) (ag (cC (.str "odd")) aE)))) (cBM uT (ah 6) (ag (cC (.bl true)) aE)))))))))))
theorem sj{k:Nat}{eD fh fY fg ej fi:Fn}{v_ A_ C_ z_ w_ B_:FnR}{a_:Cl}{CA CP:Addr}{CG CR CT CM:Addr}(d:Def K mg "_law_asked" iP ["keeper","call"])(B:Blt mg)(V:yr K mg CA CP CG CR CT CM)(d_:TC K a_ nK)(Ra:dP P w K mg base a_ "begin" k ["self","a"] eD)(Rq:dP P w K mg base a_ "look" k ["self","a","b"] fh)(Rx:dP P w K mg base a_ "put" k ["self","a","b","v"] fY)(Rl:dP P w K mg base a_ "take" k ["self","a"] fg)(Rj:dP P w K mg base a_ "write" k ["self","a"] ej)(Ro:dP P w K mg base a_ "fall" k ["self","a"] fi)(Rc:eO P w K mg base a_ "begin" k ["self","a"] v_)(Rm:eO P w K mg base a_ "look" k ["self","a","b"] A_)(Rv:eO P w K mg base a_ "put" k ["self","a","b","v"] C_)(Rr:eO P w K mg base a_ "take" k ["self","a"] z_)(Rb:eO P w K mg base a_ "write" k ["self","a"] w_)(Rp:eO P w K mg base a_ "fall" k ["self","a"] B_):gG P w K mg base "_law_asked" (k+1) ["keeper","call"] (fnU 8 2 (aW eD fh fY fg ej fi v_ A_ C_ z_ w_ B_ a_ CA CP)):=
 d.pure j4 λf _ A _ s H E hr=>(by
  have hu:=bH hr;have nd:=j4.nd;exact(aw (zi (JN (qv 1) zm (zj qI)) (wa rfl (fT (a8 (i:=2) nd rfl (by trivial)) (fT (a8 (i:=3) nd rfl (by trivial)) pF))))
   (aw (qss 4 nd qN)
   (aw (qss 5 nd qN)
   (aw (Gn (λ_ _ h=>h) rfl rfl nd rfl rfl rfl V.gg V.cs (aY (bB (aU gw nT (qv 2) qS (aR _)) (aY (qss 4 nd (qm d_ Ra hr (qv 0) (ae (qv 3) ay)))) (aY (bB (aU gw nT (qv 2) qS (aR _)) (aY (qss 4 nd (qm d_ Rq hr (qv 0) (ae (qv 3) (ae (qx hu (qv 1) qI) ay))))) (aY (bB (aU gw nT (qv 2) qS (aR _)) (aY (qss 4 nd (qm d_ Rx hr (qv 0) (ae (qv 3) (ae (qx hu (qv 1) qI) (ae (qx hu (qv 1) qI) ay)))))) (aY (bB (aU gw nT (qv 2) qS (aR _)) (aY (qss 4 nd (qm d_ Rl hr (qv 0) (ae (qv 3) ay)))) (aY (bB (aU gw nT (qv 2) qS (aR _)) (aY (qss 4 nd (qm d_ Rj hr (qv 0) (ae (qv 3) ay)))) (aY (qss 4 nd (qm d_ Ro hr (qv 0) (ae (qv 3) ay)))))))))))))) (yY (λ_ _ h=>h) (aU gw nT (qv 2) qS (aR _)) (oC (kL (λ_ _ h=>h) d_.cl Rc hr (d_.nm ∅) (qv 0) (ae (qv 3) ay))) (yY (λ_ _ h=>h) (aU gw nT (qv 2) qS (aR _)) (oC (kL (λ_ _ h=>h) d_.cl Rm hr (d_.nm ∅) (qv 0) (ae (qv 3) (ae (qx hu (qv 1) qI) ay)))) (yY (λ_ _ h=>h) (aU gw nT (qv 2) qS (aR _)) (oC (kL (λ_ _ h=>h) d_.cl Rv hr (d_.nm ∅) (qv 0) (ae (qv 3) (ae (qx hu (qv 1) qI) (ae (qx hu (qv 1) qI) ay))))) (yY (λ_ _ h=>h) (aU gw nT (qv 2) qS (aR _)) (oC (kL (λ_ _ h=>h) d_.cl Rr hr (d_.nm ∅) (qv 0) (ae (qv 3) ay))) (yY (λ_ _ h=>h) (aU gw nT (qv 2) qS (aR _)) (oC (kL (λ_ _ h=>h) d_.cl Rb hr (d_.nm ∅) (qv 0) (ae (qv 3) ay))) (oC (kL (λ_ _ h=>h) d_.cl Rp hr (d_.nm ∅) (qv 0) (ae (qv 3) ay)))))))) (λea=>aY (qss 5 nd (qv 7))))
   (aw (bB (aU wy CD (qv 5) qN (aR _)) (qr (qv 4)) ba)
   (aw (qss 6 nd (e9 (ae (ED (hkX V.xa V.xs V.aa V.sa) (qv 5) (jU rfl V.ga) rfl B.isinstance) (ae (ED (hkX V.xa V.xs V.as V.ss) (qv 5) (jU rfl V.gs) rfl B.isinstance) (ae (JP (hkX V.xa V.xs V.oa V.os) (qv 5) (jU rfl V.gr) (jU rfl V.gt) (jU rfl V.gm) rfl B.isinstance) ay)))))
   (aw (bB (wb (Bq (aU zH Kq (JT (qv 6) (ae qB ay)) qI (aR _)) (pH (lH (eK (JQ (hkX V.xa V.xs V.va V.vs) (qv 5) (Jg rfl V.gv rfl) rfl B.isinstance)))))) (qr qS) ba)
   (qr (qx hu (e9 (ae qS (ae qS (ae qS ay)))) (JR (qv 6) (ae qB ay))))))))))))
theorem fO:aN ["well","world","model","most","going","many","a","box","way"] ["well","world","model","most"] (ax dQ):=fsc
def dS(aQ:Fn):CS:=
 (aT (cH 4 (kC (cOp fIx (ah 2) (cC (.str "tries"))) (gNm 0) (aG (cOp fIx (cOp fIx (cOp fIx (ah 1) (cC (.str "tries"))) (ah 0)) (cC (.str "open")))) (ah 0) 1 [2]))
  (aT (cH 5 (cCB sF (ag (cOp fIx (ah 2) (cC (.str "tries"))) aE)))
  (aT (dh (A4 (aG (cOp fLt (ah 5) (ah 3))) (cOr (aG (cOp (ql false) (ah 4) (jn aE))) (aG (cOp fEq (cCB aQ (ag (ah 0) (ag (cC (.int 5)) aE))) (cC (.int 0)))))) (bV (jh (ag (cC (.str "begin")) (ag (cOp uS (cOp n9 (ah 5) (cC (.int 3))) (ah 3)) aE)))) bI)
  (aT (dh (aG (cOp (ql false) (ah 4) (jn aE))) (bV (cC .non)) bI)
  (aT (cH 6 (cOp fIx (ah 4) (cCB aQ (ag (ah 0) (ag (cCB sF (ag (ah 4) aE)) aE)))))
  (aT (cH 7 (cCB aQ (ag (ah 0) (ag (cOp fIx (ah 1) (cC (.int 0))) aE))))
  (aT (dh (aG (cOp fGe (cOp fIx (cOp fIx (cOp fIx (ah 2) (cC (.str "tries"))) (ah 6)) (cC (.str "stamp"))) (cC (.int 0)))) (bV (jh (ag (cC (.str "write")) (ag (ah 6) aE)))) bI)
  (aT (cH 8 (cCB aQ (ag (ah 0) (ag (cC (.int 16)) aE))))
  (aT (dh (aG (cOp fLt (ah 8) (cC (.int 7)))) (bV (jh (ag (cC (.str "look")) (ag (ah 6) (ag (ah 7) aE))))) bI)
  (aT (dh (aG (cOp fLt (ah 8) (cC (.int 11)))) (bV (jh (ag (cC (.str "put")) (ag (ah 6) (ag (ah 7) (ag (cCB aQ (ag (ah 0) (ag (cOp fIx (ah 1) (cC (.int 1))) aE))) aE)))))) bI)
  (bV (cOp fIx (jn (ag (jh (ag (cC (.str "take")) (ag (ah 6) aE))) (ag (jh (ag (cC (.str "fall")) (ag (ah 6) aE))) aE))) (cCB Lk (ag (cOp fEq (ah 8) (cC (.int 15))) aE))))))))))))))
theorem kR{k:Nat}{aQ:Fn}(d:Def K mg "_law_drawn_call" dQ ["well","world","model","most"])(B:Blt mg)(a9:gG P w K mg base "_law_sip" (k) ["well","many"] aQ):gG P w K mg base "_law_drawn_call" (k+1) ["well","world","model","most"] (fnU 9 4 (dS aQ)):=
 d.pure fO λf _ A _ s H E hr=>(by
  have hu:=bH hr;have nd:=fO.nd;exact(aw (pE (Nc:=["a","model"]) (tn:=["a"]) (capN:=["model"]) (caps:=[2]) rfl (qx hu (qv 2) qS) (λ_ _ _=>cY (a8 (i:=0) (show(["a","model"]:List Str).Nodup by decide +kernel) rfl (by trivial))) (λ_ _ _=>eK (qx hu (qx hu (qx hu (qv 1) qS) (qv 0)) qS)) (λ_ _ _=>qv 0) rfl rfl ∅ ∅ ⟨rfl,trivial⟩ rfl (.cons ⟨rfl,rfl,rfl,_,rfl⟩ .nil) rfl rfl nd rfl rfl rfl)
   (aw (qss 5 nd (cL rD rA rfl B.len YH (ae (qx hu (qv 2) qS) ay)))
   (aw (bB (wb (xE (aU CJ L8 (qv 5) (qv 3) (aR _)) (rm (wb (Bq (aU (zK hr.units) um (qv 4) (e9 ay) (aR _)) (pH (aU gw nT (a6 a9 hr rfl (ae (qv 0) (ae qI ay))) qI (aR _)))))))) (qr (cZ (ae qS (ae (kE rC zF (kE kg rq (qv 5) qI) (qv 3)) ay)))) ba)
   (aw (bB (aU (zK hr.units) um (qv 4) (e9 ay) (aR _)) (qr qN) ba)
   (aw (qss 6 nd (qx hu (qv 4) (a6 a9 hr rfl (ae (qv 0) (ae (cL rD rA rfl B.len YH (ae (qv 4) ay)) ay)))))
   (aw (qss 7 nd (a6 a9 hr rfl (ae (qv 0) (ae (qx hu (qv 1) qI) ay))))
   (aw (bB (aU G3 Oe (qx hu (qx hu (qx hu (qv 2) qS) (qv 6)) qS) qI (aR _)) (qr (cZ (ae qS (ae (qv 6) ay)))) ba)
   (aw (qss 8 nd (a6 a9 hr rfl (ae (qv 0) (ae qI ay))))
   (aw (bB (aU CJ L8 (qv 8) qI (aR _)) (qr (cZ (ae qS (ae (qv 6) (ae (qv 7) ay))))) ba)
   (aw (bB (aU CJ L8 (qv 8) qI (aR _)) (qr (cZ (ae qS (ae (qv 6) (ae (qv 7) (ae (a6 a9 hr rfl (ae (qv 0) (ae (qx hu (qv 1) qI) ay))) ay)))))) ba)
   (qr (qx hu (e9 (ae (cZ (ae qS (ae (qv 6) ay))) (ae (cZ (ae qS (ae (qv 6) ay))) ay))) (fb nv GX rfl B.int OG.qC (ae (pI gw nT (qv 8) qI (aR _)) ay)))))))))))))))
def ik:aN ["well","world","a","box","calls"] ["well","world"] (ax fD):=fsc
def fJ(aQ:Fn):CS:=
 (aT (cH 2 (cOp fIx (jn (ag (cCB aQ (ag (ah 0) (ag (cC (.int 7)) aE))) (ag (cC (.int 199)) aE))) (cCB Lk (ag (cOp fEq (cCB aQ (ag (ah 0) (ag (cC (.int 9)) aE))) (cC (.int 0))) aE))))
  (aT (cH 3 (cCB aQ (ag (ah 0) (ag (cOp fIx (ah 1) (cC (.int 0))) aE))))
  (aT (cH 4 (jn (ag (jh (ag (cC (.str "begin")) (ag (ah 2) aE))) (ag (jh (ag (cC (.str "look")) (ag (ah 2) (ag (ah 3) aE)))) (ag (jh (ag (cC (.str "put")) (ag (ah 2) (ag (ah 3) (ag (cCB aQ (ag (ah 0) (ag (cOp fIx (ah 1) (cC (.int 1))) aE))) aE))))) (ag (jh (ag (cC (.str "take")) (ag (ah 2) aE))) (ag (jh (ag (cC (.str "write")) (ag (ah 2) aE))) aE)))))))
  (bV (cOp fIx (cOp sG (ah 4) (jn (ag (jh (ag (cC (.str "fall")) (ag (ah 2) aE))) aE))) (cCB aQ (ag (ah 0) (ag (cC (.int 6)) aE))))))))
theorem mY{k:Nat}{aQ:Fn}(d:Def K mg "_law_any_call" fD ["well","world"])(B:Blt mg)(a9:gG P w K mg base "_law_sip" (k) ["well","many"] aQ):gG P w K mg base "_law_any_call" (k+1) ["well","world"] (fnU 5 2 (fJ aQ)):=
 d.pure ik λf _ A _ s H E hr=>(by
  have hu:=bH hr;have nd:=ik.nd;exact(aw (qss 2 nd (qx hu (e9 (ae (a6 a9 hr rfl (ae (qv 0) (ae qI ay))) (ae qI ay))) (fb nv GX rfl B.int OG.qC (ae (pI gw nT (a6 a9 hr rfl (ae (qv 0) (ae qI ay))) qI (aR _)) ay))))
   (aw (qss 3 nd (a6 a9 hr rfl (ae (qv 0) (ae (qx hu (qv 1) qI) ay))))
   (aw (qss 4 nd (e9 (ae (cZ (ae qS (ae (qv 2) ay))) (ae (cZ (ae qS (ae (qv 2) (ae (qv 3) ay)))) (ae (cZ (ae qS (ae (qv 2) (ae (qv 3) (ae (a6 a9 hr rfl (ae (qv 0) (ae (qx hu (qv 1) qI) ay))) ay))))) (ae (cZ (ae qS (ae (qv 2) ay))) (ae (cZ (ae qS (ae (qv 2) ay))) ay)))))))
   (qr (qx hu (kE mO mM (qv 4) (e9 (ae (cZ (ae qS (ae (qv 2) ay))) ay))) (a6 a9 hr rfl (ae (qv 0) (ae qI ay)))))))))
def mB:aN ["keeper"] ["keeper"] (ax kK):=fsc
def k7(eB f6 eC fZ:Fn)(a_:Cl):CS:=
 (bV (jh (ag (bA a_ fZ (ah 0) aE) (ag (bA a_ eC (ah 0) aE) (ag (bA a_ f6 (ah 0) aE) (ag (bA a_ eB (ah 0) aE) aE))))))
theorem xW{k:Nat}{eB f6 eC fZ:Fn}{a_:Cl}(d:Def K mg "_law_all" kK ["keeper"])(B:Blt mg)(d_:TC K a_ nK)(Ri:dP P w K mg base a_ "order" (k) ["self"] eB)(Rw:dP P w K mg base a_ "log" (k) ["self"] f6)(Rh:dP P w K mg base a_ "clock" (k) ["self"] eC)(Rt:dP P w K mg base a_ "now" (k) ["self"] fZ):gG P w K mg base "_law_all" (k+1) ["keeper"] (fnU 1 1 (k7 eB f6 eC fZ a_)):=
 d.pure mB λf _ A _ s H E hr=>(by
  have hu:=bH hr;have nd:=mB.nd;exact(qr (cZ (ae (qm0 d_ Rt hr (qv 0)) (ae (qm0 d_ Rh hr (qv 0)) (ae (qm0 d_ Rw hr (qv 0)) (ae (qm0 d_ Ri hr (qv 0)) ay)))))))
def j0:aN ["keeper","model","call","earlier","due","found"] ["keeper","model","call"] (ax iL):=fsc
def ja(fz gZ fW fV:Fn):CS:=
 (aT (cH 3 (cCB fz (ag (ah 0) aE)))
  (aT (cH 4 (cCB gZ (ag (ah 1) (ag (ah 2) aE))))
  (aT (cH 5 (cCB fW (ag (ah 0) (ag (ah 2) aE))))
  (aT (dh (aG (cOp (ql true) (ah 5) (ah 4))) (bV (cC (.bl false))) bI)
  (aT (dh (A4 (aG (cOp (EW false) (ah 4) (jh (ag (cC (.str "noattempt")) (ag (cC (.str "nostep")) aE))))) (aG (cOp (ql true) (cCB fz (ag (ah 0) aE)) (ah 3)))) (bV (cC (.bl false))) bI)
  (bV (cOp (ql false) (cCB fz (ag (ah 0) aE)) (jh (ag (cCB kx (ag (cOp fIx (ah 1) (cC (.str "boxes"))) aE)) (ag (cOp fIx (ah 1) (cC (.str "clock"))) (ag (cOp fIx (ah 1) (cC (.str "log"))) (ag (cCB fV (ag (ah 1) aE)) aE))))))))))))
theorem sf{k:Nat}{fz gZ fW fV:Fn}(d:Def K mg "_law_right" iL ["keeper","model","call"])(B:Blt mg)(lB:gG P w K mg base "_law_all" (k) ["keeper"] fz)(vx:gG P w K mg base "_law_call" (k) ["model","call"] gZ)(tM:gG P w K mg base "_law_asked" (k) ["keeper","call"] fW)(tK:gG P w K mg base "_law_order" (k) ["model"] fV):gG P w K mg base "_law_right" (k+1) ["keeper","model","call"] (fnU 6 3 (ja fz gZ fW fV)):=
 d.pure j0 λf _ A _ s H E hr=>(by
  have hu:=bH hr;have nd:=j0.nd;exact(aw (qss 3 nd (a6 lB hr rfl (ae (qv 0) ay)))
   (aw (qss 4 nd (a6 vx hr rfl (ae (qv 1) (ae (qv 2) ay))))
   (aw (qss 5 nd (a6 tM hr rfl (ae (qv 0) (ae (qv 2) ay))))
   (aw (bB (aU (wx hr.units) um (qv 5) (qv 4) (aR _)) (qr qB) ba)
   (aw (bB (wb (xE (aU (Kz hr.units) Oc (qv 4) (cZ (ae qS (ae qS ay))) (by with_unfolding_all rfl)) (rm (aU (wx hr.units) um (a6 lB hr rfl (ae (qv 0) ay)) (qv 3) (aR _))))) (qr qB) ba)
   (qr (pI (zK hr.units) um (a6 lB hr rfl (ae (qv 0) ay)) (cZ (ae (fb hJ uj rfl B.tuple OG.k9 (ae (qx hu (qv 1) qS) ay)) (ae (qx hu (qv 1) qS) (ae (qx hu (qv 1) qS) (ae (a6 tK hr rfl (ae (qv 1) ay)) ay))))) (aR _)))))))))
def Et:aN ["script","k","well","world","state","keeper","model","turn","call","again"] ["script"] (ax Gh):=fsc
def nC(bL bu bw aS bq aX bh:Fn)(a_:Cl):CS:=
 (dh (sS (aG (cCB bq (ag (ah 5) (ag (ah 6) (ag (cCB aX (ag (ah 2) (ag (ah 3) aE))) aE)))))) (bV (cC (.bl false))) bI)
def nB(bL bu bw aS bq aX bh:Fn)(a_:Cl):CS:=
 (aT (cH 8 (cCB aS (ag (ah 2) (ag (ah 3) (ag (ah 6) (ag (cC (.int 5)) aE))))))
  (aT (dh (A4 (aG (cOp uQ (ah 8) (cC .non))) (sS (aG (cCB bq (ag (ah 5) (ag (ah 6) (ag (ah 8) aE))))))) (bV (cC (.bl false))) bI)
  (oQ (c6 (ag (cC (.int 3)) aE)) (gNm 9) (nC bL bu bw aS bq aX bh a_))))
def nz(bL bu bw aS bq aX bh:Fn)(a_:Cl):CS:=
 (aT (cH 2 (cCB bL (ag (ah 0) (ag (ah 1) aE))))
  (aT (HI (cCB bu (ag (ah 2) aE)) (gTp [3,4]))
  (aT (cH 5 (cCB (qj a_ bh) (ag (ah 3) (ag (ah 4) aE))))
  (aT (cH 6 (cCB bw (ag (ah 4) aE)))
  (oQ (c6 (ag (cC (.int 20)) aE)) (gNm 7) (nB bL bu bw aS bq aX bh a_))))))
def HG(bL bu bw aS bq aX bh:Fn)(a_:Cl):CS:=
 (aT (oQ (c6 (ag (cCB Lj (ag (cC (.int 2)) (ag (cCB Li (ag (cC (.int 6)) (ag (cCB sF (ag (ah 0) aE)) aE))) aE))) aE)) (gNm 1) (nz bL bu bw aS bq aX bh a_))
  (bV (cC (.bl true))))
theorem OE{k:Nat}{bL bu bw aS bq aX bh:Fn}{a_:Cl}{fa pO:Addr}{fd:Zo}(F:Fun K "law" "law" Gh fa fd)(B:Blt mg)(d_:TC K a_ nK)(vt:gG P w K mg base "_law_well" (k+1) ["script","k"] bL)(tJ:gG P w K mg base "_law_world" (k+1) ["well"] bu)(tL:gG P w K mg base "_law_model" (k+1) ["state"] bw)(lu:gG P w K mg base "_law_drawn_call" (k+1) ["well","world","model","most"] aS)(lK:gG P w K mg base "_law_right" (k+1) ["keeper","model","call"] bq)(nM:gG P w K mg base "_law_any_call" (k+1) ["well","world"] aX)(RJ:CMk P w K mg base a_ "Keeper" k ["self","world","state"] bh)
  (ok:∀(ns:List Int),ns.length<=63->∃ρ' S',HG bL bu bw aS bq aX bh a_ [some (.kl ns),none,none,none,none,none,none,none,none,none] [zOf pO]=some (.rt (.bl true),ρ',S')):kF P w K mg base CX0 (k+1+1) fa fd ["script"] (vU pO K):=by
 refine Fun.okW F Et (λvs H Q E h=>(by let⟨a,ns,rfl,_⟩:=h;rfl)) λcdv A outer s H vs Q E hr h=>?_;let⟨a,ns,rfl,hS,p_,hpO,q⟩:=h;have hu:=bH hr;have nd:=Et.nd;exact⟨_,(aw (oE PassesOwn.never rfl (iT rfl B.range (ae (cL (A0 rfl) Oa rfl B.max OG.DS (ae qI (ae (cL (AZ rfl) N9 rfl B.min OG.DR (ae qI (ae (cL rD rA rfl B.len YH (ae (qv 0) ay)) ay))) ay))) ay)) (cY (a8 (i:=1) nd rfl (by trivial))) (aw (qss 2 nd (a6 vt hr rfl (ae (qv 0) (ae (qv 1) ay))))
   (aw (zi (a6 tJ hr rfl (ae (qv 2) ay)) (wa rfl (fT (a8 (i:=3) nd rfl (by trivial)) (fT (a8 (i:=4) nd rfl (by trivial)) pF))))
   (aw (qss 5 nd (EC RJ hr rfl (ae (qv 3) (ae (qv 4) ay))))
   (aw (qss 6 nd (a6 tL hr rfl (ae (qv 4) ay)))
   (aY (oE PassesOwn.never rfl (iT rfl B.range (ae qI ay)) (cY (a8 (i:=7) nd rfl (by trivial))) (aw (qss 8 nd (a6 lu hr rfl (ae (qv 2) (ae (qv 3) (ae (qv 6) (ae qI ay))))))
   (aw (bB (wb (xE (aU uq zE (qv 8) qN (aR _)) (rm (lH (eK (a6 lK hr rfl (ae (qv 5) (ae (qv 6) (ae (qv 8) ay))))))))) (qr qB) ba)
   (aY (oE PassesOwn.never rfl (iT rfl B.range (ae qI ay)) (cY (a8 (i:=9) nd rfl (by trivial))) (aY (bB (lH (eK (a6 lK hr rfl (ae (qv 5) (ae (qv 6) (ae (a6 nM hr rfl (ae (qv 2) (ae (qv 3) ay))) ay)))))) (qr qB) ba)))))))))))))
   (qr qB)),C8 hS hpO (ok ns p_) q⟩
end
end OL
local macro_rules
 | `(tactic| rwa $s:rwRuleSeq) => do
  let ts : Array (Lean.TSyntax `term) := s.raw[1].getSepArgs.map λr => ⟨r[1]⟩
  let us : Array (Lean.TSyntax `term) := (("Fb yu x_c MN Fe Fd vz tV Nw Ja I0 O7 MM ML MO IH MK IG IF Ff vE tY tW MB Iu MT IJ LY Fv Ef oS vA IC IB IA IT Fq IE ID jT yB yA Fc yv IZ IY IX M9 M8 Jc Jb Qb MG MF ME MD MU MV MW MY MC Iw Iy IL IM IP IK Fy MS Qi Qj Qk Nh MQ Ng MP Ni MR Nd Na at0 at1 at2 at3 ix0 ix1 ix2 Option.bind_some List.getElem?_cons_zero List.getElem?_cons_succ YN List.set_cons_succ List.length_cons List.length_nil List.map_cons List.map_nil decide_true decide_false Bool.not_true Bool.not_false Nf Ej Ei Qc MJ MI MH II Fi Fh Fg Fj MZ M7 Bw IQ Qm Nu Nt Nr Nv Ql Nq Np Nl Nk Nj IU Qh x_p Qg Qe Qd IW Fu Ft Ip Iq Ir Fl Fo Fp IS ga ga0 gs gs0 YM Nat.add_zero List.cons_append List.nil_append List.append_assoc" : String).splitOn " ").toArray.map λx => ⟨(Lean.mkIdent ((x.splitOn ".").foldl Lean.Name.str Lean.Name.anonymous)).raw⟩
  let vs:=ts++us
  `(tactic| simp only [$[$vs:term],*])
namespace OQ
open PySem PySem.Spec PyProof.Rows L2 OG OP
def l9{m:Int}(h0:0<=m)(h:m<2^60):m.natAbs.log2<9000:=z9 h0 h
def tR(lk:List Int)(b:Int):List Int:=if b∈lk then lk else lk++[b]
def Ie(lk:List Int):List (Key×U):=lk.map λb=>(.inl b,.bl true)
theorem Ca(b:Int)(lk:List Int):dJ (Ie lk) (.inl b) (.bl true)=Ie (tR lk b):=by
 have ha:((Ie lk).any λkv=>decide (kv.1=Sum.inl b))=decide (b∈lk):=by
  unfold Ie;induction lk with
  |nil=>rfl
  |cons k r ih=>
   simp only[QL,Zn,ih];by_cases e:k=b;subst e;simp;rw[Xq (λz:(Sum.inl k:Key)=Sum.inl b=>e (Sum.inl.inj z))];simp[Ne.symm e]
 unfold dJ tR;rw[ha];by_cases c:b∈lk
 ·rw[XO (Xz c),XO c];unfold Ie;rw[ZD];refine Ze λp _=>?_;simp only[Function.comp];split<;>rfl
 rw[XS ‹c›,XS c];simp[Ie]
def zW{α:Type}{l:List α}{k:Nat}{x:α}(h:l[k]?=some x):k<l.length:=(Q8.mp h).1
def aK{α:Type}{l r:List α}{k:Nat}{x:α}(h:l[k]?=some x):(l++r)[k]?=some x:=by rw[Zy (zW h)];exact h
theorem FU(b v j:Int)(ps:List (Int×Int)):aZ (dJ ps b v) j=if j=b then some v else aZ ps j:=by
 have e1:∀ps:List (Int×Int),aZ ps j=(jr (ps.map λp=>(p.1,V.int p.2)) j).map λx=>match x with|.int i=>i|_=>0:=λps=>by
  unfold aZ jr;induction ps with
  |nil=>rfl
  |cons p r ih=>
   simp only[QL,Zj];by_cases e:p.1=j;simp[e];rw[Xq e];exact ih
 have e2:(dJ ps b v).map (λp=>(p.1,V.int p.2))=nN (ps.map λp=>(p.1,V.int p.2)) b (.int v):=by
  unfold dJ nN;have:(ps.map λp=>(p.1,V.int p.2)).any (λkv=>decide (kv.1=b))=ps.any λkv=>decide (kv.1=b):=by rw[List.any_map];rfl
  rw[this];split
  ·rw[ZD,ZD];refine Ze λp _=>?_;simp only[Function.comp];split<;>rfl
  simp
 rw[e1,e2,BQ];split;rfl;exact(e1 ps).symm
def yz{x:U}{S:Sto}:Dz x .non S=some (.bl (rQ x),S):=rfl
def yx{x:U}{S:Sto}:uQ x .non S=some (.bl (!rQ x),S):=rfl
def rW:rQ .non=true:=rfl
def wQ{i:Int}:rQ (.int i)=false:=rfl
theorem yb{ok:Sto->Prop}{g:CG}{ct:CT}{ce:CE}{l:Nat}{ρ:Rho}{S:Sto}(h:ok S):cu ok g ct ce l [] ρ S=some S:=by rw[cu,XO h]
theorem AX{ok:Sto->Prop}{g:CG}{ct:CT}{ce:CE}{l:Nat}{ρ ρ0:Rho}{S S0 S1:Sto}{u:U}{us:List U}(h:ok S)(hg:g u ρ S=some (ρ0,S0))(ht:ct ρ0 S0=some (false,S1)):cu ok g ct ce l (u::us) ρ S=cu ok g ct ce l us ρ0 S1:=by
 rw[cu,XO h,hg,Q9,ht,Q9,XS QV]
theorem x8{ok:Sto->Prop}{g:CG}{ct:CT}{ce:CE}{l:Nat}{ρ ρ0:Rho}{S S0 S1 S2:Sto}{u x:U}{us ys:List U}(h:ok S)(hg:g u ρ S=some (ρ0,S0))(ht:ct ρ0 S0=some (true,S1))(he:ce ρ0 S1=some (x,S2))(hl:S2[l]?=some (.lst ys))(hn:ys.length<LIM) :
  cu ok g ct ce l (u::us) ρ S=cu ok g ct ce l us ρ0 (S2.set l (.lst (ys++[x]))):=by
 rw[cu,XO h,hg,Q9,ht,Q9,XO rfl,he,Q9];simp only[hl,hn,if_true]
def Lay(k:Nat)(S:Sto)(u:U):Prop:=∃d,Dt S u d/\d.canLay0=true/\d.depth<=k
def iC(k:Nat)(S:Sto)(u v:U):Prop:=∃d,Dt S u d/\Dt S v d/\d.canLay0=true/\d.depth<=k
def dN(k:Nat)(S:Sto)(us vs:List U):Prop:=∃ds,DtL S us ds/\DtL S vs ds/\YW ds=true/\YX ds<=k
variable{S:Sto}{us:List U}
section
variable{k:Nat}{u v:U}{vs:List U}
def iC.refl(h:Lay k S u):iC k S u u:=by let⟨d,a,b,c⟩:=h;exact⟨d,a,a,b,c⟩
def dN.nil:dN k S [] []:=⟨[],.nil,.nil,rfl,Zh _⟩
theorem dN.cons(h:iC k S u v)(t:dN k S us vs):dN k S (u::us) (v::vs):=by
 let⟨d,a,b,c,e⟩:=h;let⟨ds,a',b',c',e'⟩:=t;refine⟨d::ds,.cons a a',.cons b b',by unfold YW;rw[c,c'];rfl,?_⟩;unfold YX;exact Nat.max_le.mpr ⟨e,e'⟩
theorem dN.all:∀{us:List U},(∀u∈us,Lay k S u)->dN k S us us
 |[],_=>.nil
 |u::us,h=>.cons (.refl (h u QH)) (dN.all λx hx=>h x (QZ _ hx))
theorem iC.tup(h:dN k S us vs):iC (k+1) S (.tup us) (.tup vs):=by
 let⟨ds,a,b,c,e⟩:=h;refine⟨.tuple ds,.tup a,.tup b,by unfold YY;exact c,?_⟩;unfold PyData.depth;omega
theorem iC.lst{l l':Nat}(h1:S[l]?=some (.lst us))(h2:S[l']?=some (.lst vs))(h:dN k S us vs):iC (k+1) S (.ref l) (.ref l'):=by
 let⟨ds,a,b,c,e⟩:=h;refine⟨.list ds,.lst h1 a,.lst h2 b,by unfold YY;exact c,?_⟩;unfold PyData.depth;omega
theorem iC.eq(h:iC k S u v)(hk:k<=60):ql false u v S=some (.bl true,S):=by
 let⟨d,a,b,c,e⟩:=h;exact uU false (.inl ⟨d,d,a,b,⟨c,ZP e hk⟩,⟨c,ZP e hk⟩,(SeqAt.eqv_refl d c).symm⟩)
theorem iC.ne(h:iC k S u v)(hk:k<=60):ql true u v S=some (.bl false,S):=by
 let⟨d,a,b,c,e⟩:=h;exact uU true (.inl ⟨d,d,a,b,⟨c,ZP e hk⟩,⟨c,ZP e hk⟩,(SeqAt.eqv_refl d c).symm⟩)
end
variable{l:Nat}
section
variable{u:U}{i:Int}
def wK(l:Nat)(i:Int)(S:Sto):Option O->Option (U×Sto)
 |some (.lst us)=>if 0<=i/\i<us.length/\us.length<=LIM then(us[i.toNat]?).bind λu=>some (u,S.set l (.lst (us.eraseIdx i.toNat)))else none
 |_=>none
theorem yw:m9 (.ref l) [.int i] S=wK l i S S[l]?:=by
 unfold m9 wK;rfl
theorem vD(h0:0<=i)(h1:i<us.length)(hL:us.length<=LIM)(hu:us[i.toNat]?=some u):wK l i S (some (.lst us))=some (u,S.set l (.lst (us.eraseIdx i.toNat))):=by
 simp only[wK];rw[XO ⟨h0,h1,hL⟩,hu,Q9]
end
theorem rj(n:Nat):jw 0 n=((ZO n).map λi:Nat=>(i:Int)).map U.int:=by
 unfold jw;rw[ZD];refine Ze λi _=>?_;simp
inductive Ev where
 |beg (a:Int)|look (a b x:Int)|put (a b x:Int)|fin (d:Bool) (a:Int)
structure Att where
 en:Option Bool
 lk:List (Int×Int)
 nd:List (Int×Int)
 ps:List (Int×Int)
 bf:List Int
abbrev St:=List (Int×Att)
theorem my{κ α:Type}[DecidableEq κ]{ps:List (κ×α)}{k:κ}:aZ ps k=none↔k∉ps.map (·.1):=by
 unfold aZ;rw[Option.map_eq_none_iff,List.find?_eq_none];simp only[decide_eq_true_eq,ZT,not_exists,not_and]
theorem wc{κ α:Type}[DecidableEq κ]{ps:List (κ×α)}{k:κ}{v:α}(h:k∉ps.map (·.1)):dJ ps k v=ps++[(k,v)]:=by
 unfold dJ;rw[XS];simp only[XW,decide_eq_true_eq,not_exists,not_and];intro p hp e;exact h (ZT.mpr ⟨p,hp,e⟩)
section
variable{c:Cl}
theorem Ek{i:Nat}{u:U}{fus:List (Option U)}{Z:Sto}{l:Nat}(h:Z[l]?=some (.ins c fus))(hu:fus[i]?=some (some u)):HY c i (.ref l,Z)=some (u,Z):=by
 rw[Ej,h,Ei,hu];rfl
end
theorem w8{α:Type}{ok:Sto->Prop}{gg:CG}{ce:CE}{S:Sto}{f:α->U}{v:α->U}{Rel:Rho->Prop}(hok:∀ys G,ok (S++(.lst ys::G))) :
  ∀(xs:List α) (ys:List U) (G:Sto) (ρ:Rho),Rel ρ->ys.length+xs.length<=9999->
  (∀x∈xs,∀ys G ρ,Rel ρ->∃ρ0 G1,Rel ρ0/\gg (f x) ρ (S++(.lst ys::G))=some (ρ0,S++(.lst ys::G))/\ce ρ0 (S++(.lst ys::G))=some (v x,S++(.lst ys::(G++G1))))->
  ∃G',gN ok gg ce S.length (xs.map f) ρ (S++(.lst ys::G))=some (S++(.lst (ys++xs.map v)::(G++G')))
 |[],ys,G,ρ,_,_,_=>⟨[],by simp only[Za,Zv];exact kB (hok ys G)⟩
 |x::xs,ys,G,ρ,hr,hl,hb=>by
  rw[QK]at hl;let⟨ρ0,G1,r0,h1,h2⟩:=hb x QH ys G ρ hr;let⟨G',h⟩:=w8 hok xs (ys++[v x]) (G++G1) ρ0 r0 (by simp;omega) (λx hx=>hb x (QZ _ hx));refine⟨G1++G',?_⟩;rw[QL];refine(i4 (hok ys G) h1 h2 (by rw[ga0];rfl) (by unfold LIM;omega)).trans ?_;rw[gs0];simp only[YN];rw[h];simp only[QL,ZJ,Zt,Zw]
theorem jW{Z:Sto}{r:Nat}{o o':O}(h:Z[r]?=some o):(Z.set r o').set r o=Z:=by
 rw[List.set_set];refine YT λi=>?_;rw[Zr];split;subst i;let⟨h1,h2⟩:=Q8.mp h;simp[h1,h2];rfl
theorem wY:∀ns ms:List Int,PyData.eqv (.list (ns.map PyData.int)) (.list (ms.map PyData.int))=decide (ns=ms)
 |[],[]=>rfl
 |[],_::_=>rfl
 |_::_,[]=>rfl
 |n::ns,m::ms=>by
  have e:PyData.eqv (.list ((n::ns).map PyData.int)) (.list ((m::ms).map PyData.int))=((n == m)&&PyData.eqv (.list (ns.map PyData.int)) (.list (ms.map PyData.int))):=rfl;rw[e,wY ns ms,Zf];simp
theorem qp{S:Sto}:∀ns:List Int,DtL S (ns.map U.int) (ns.map PyData.int)
 |[]=>.nil
 |n::ns=>.cons (.int n) (qp ns)
theorem wH(ns:List Int):lU (.list (ns.map PyData.int)):=by
 have h:∀ns:List Int,YW (ns.map PyData.int)=true/\YX (ns.map PyData.int)<=0:=λns=>by
  induction ns with
  |nil=>exact⟨rfl,QQ _⟩
  |cons n r ih=>
   refine⟨by unfold YW;rw[QL];exact ih.1,?_⟩;rw[QL];unfold YX;exact Nat.max_le.mpr ⟨QQ _,ih.2⟩
 refine⟨by unfold YY;exact(h ns).1,?_⟩;unfold PyData.depth;have:=(h ns).2;omega
theorem p5(neg:Bool){S:Sto}{l l':Nat}{ns ms:List Int}(h:S[l]?=some (.lst (ns.map U.int)))(h':S[l']?=some (.lst (ms.map U.int))):ql neg (.ref l) (.ref l') S=some (.bl (if neg then !decide (ns=ms)else decide (ns=ms)),S):=
 uU neg (.inl ⟨_,_,.lst h (qp ns),.lst h' (qp ms),wH ns,wH ms,(wY ns ms).symm⟩)
variable{j:Nat}
def nE:Fn:=fnU 3 2 k6
def xn:Fn:=fnU 6 2 hU
theorem qQ{r0 r1 r2:Option U}:∀(ts:List Int) (a f:Int) (r5:Option U),0<=a->a<2147483563->∃a' f' r5',dH (λ_=>True) (gNm 5) fq (ts.map U.int) [r0,r1,r2,some (.int a),some (.int f),r5] S=some (.nx,[r0,r1,r2,some (.int a'),some (.int f'),r5'],S)
 |[],a,f,r5,_,_=>⟨a,f,r5,fe trivial⟩
 |t::ts,a,f,r5,h0,h1=>by
  let⟨a',f',r5',ih⟩:=qQ (r0:=r0) (r1:=r1) (r2:=r2) ts ((a*a+50021*a+19*t+7) % 2147483563) (f*2147483563+(a*a+50021*a+19*t+7) % 2147483563) (some (.int t)) (Int.emod_nonneg _ ∅) (Int.emod_lt_of_pos _ ∅);refine⟨a',f',r5',(gy trivial rfl ?_).trans ih⟩;have m1:n9 (.int a) (.int a) S=some (.int (a*a),S):=qO (.inl ⟨⋯,⋯⟩);have m2:n9 (.int 50021) (.int a) S=some (.int (50021*a),S):=qO (.inl ∅);have m3:n9 (.int 19) (.int t) S=some (.int (19*t),S):=qO (.inl ∅);have m4:n9 (.int f) (.int 2147483563) S=some (.int (f*2147483563),S):=qO (.inr ∅);have m5:∀j:Int,uS (.int j) (.int 2147483563) S=some (.int (j % 2147483563),S):=λj=>yy ∅;rwa[fq,m1,m2,m3,m4,m5]
theorem FR(ns:List Int){k:Int}(k0:0<=k):∃z,xn [.kl ns,.int k] S=some (.ref S.length,S++[.lst [.int z]]):=by
 unfold xn;rw[OK];have m1:n9 (.int 5) (.int k) S=some (.int (5*k),S):=qO (.inl ∅);have m2:∀j:Int,uS (.int j) (.int 2) S=some (.int (j % 2),S):=λj=>yy ∅;have m3:∀j:Int,EX (.int j) (.int 2) S=some (.int (j / 2),S):=λj=>IV ⟨∅,∅⟩;have m4:∀j:Int,n9 (.int j) (.int 30011) S=some (.int (j*30011),S):=λj=>qO (.inr ∅);have m5:n9 (.int 977) (.int k) S=some (.int (977*k),S):=qO (.inl ∅);have m6:∀j:Int,uS (.int j) (.int 2147483563) S=some (.int (j % 2147483563),S):=λj=>yy ∅;have r60:c6 (ag (cC (.int 60)) aE)=λρ S=>some (jw 0 60,λ_=>True,S):=rfl;have er:jw 0 60=((ZO 60).map λi:Nat=>(i:Int)).map U.int:=by rw[rj,ZD]
 have key:∀num:Int,∃z,((aT (dh (aG (cOp fEq (cOp uS (ah 2) (cC (.int 2))) (cC (.int 0)))) (bV (jn (ag (cOp EX (ah 2) (cC (.int 2))) aE))) bI)
  (aT (cH 3 (cOp uS (cOp sG (cOp sG (cOp n9 (ah 2) (cC (.int 30011))) (cOp n9 (cC (.int 977)) (ah 1))) (cC (.int 41))) (cC (.int 2147483563))))
  (aT (cH 4 (cC (.int 0)))
  (aT (oQ (c6 (ag (cC (.int 60)) aE)) (gNm 5) fq)
  (bV (jn (ag (ah 4) aE))))))) [some (.kl ns),some (.int k),some (.int num),none,none,none] S).bind kFn=some (.ref S.length,S++[.lst [.int z]]):=λnum=>by
  by_cases e:num % 2=0;refine⟨num / 2,?_⟩;have e':decide (num % 2=0)=true:=Xz e;rwa[m2,m3,e'];have e':decide (num % 2=0)=false:=Xq e;let⟨a',f',r5',h⟩:=qQ (S:=S) (r0:=some (.kl ns)) (r1:=some (.int k)) (r2:=some (.int num)) ((ZO 60).map λi:Nat=>(i:Int)) ((num*30011+977*k+41) % 2147483563) 0 none (Int.emod_nonneg _ ∅) (Int.emod_lt_of_pos _ ∅);rw[<-er]at h;refine⟨f',?_⟩;rwa[m2,e',m4,m5,m6,oQ,r60,h]
 by_cases hk:k<(ns.length:Int);have hk':decide (k<(ns.length:Int))=true:=Xz hk;have hi:k.toNat<ns.length:=by omega
 have ha:atI (ns.map U.int) k=some (.int ns[k.toNat]):=by
  have:=lh (xs:=ns.map U.int) (j:=k.toNat) (v:=.int ns[k.toNat]) (by rw[ZH,Q7 hi];rfl);rw[show((k.toNat:Nat):Int)=k from by omega]at this;exact this
 let⟨z,h⟩:=key ns[k.toNat];refine⟨z,?_⟩;rw[<-h];simp only[hU,m1,Eh,MX,hk',ha,oS,vA,Fc,yv,MN,Fe,Fd,Fb,yu,x_c,Fy,jT,yB,yA,vz,tV,MS,LY,Fv,vE,tY,tW,Ff,Q9,List.getElem?_cons_zero,X8,YN,List.set_cons_succ,YM];have hk':decide (k<(ns.length:Int))=false:=Xq hk;let⟨z,h⟩:=key (5*k+3);refine⟨z,?_⟩;rw[<-h];simp only[hU,m1,Eh,hk',oS,vA,Fc,yv,MN,Fe,Fd,Fb,yu,x_c,Fy,jT,yB,yA,vz,tV,MS,LY,Fv,vE,tY,tW,Ff,Ef,Q9,List.getElem?_cons_zero,X8,YN,List.set_cons_succ,YM]
section
variable{G:Sto}{x:List Int}
theorem sN{α:Type}{ok:Sto->Prop}{gg:CG}{ce:CE}{S:Sto}{f:α->U}{v:α->U}{Rel:Rho->Prop}(hok:∀ys G,ok (S++(.lst ys::G))) :
  ∀(xs:List α) (ys:List U) (G:Sto) (ρ:Rho),Rel ρ->ys.length+xs.length<=9999->
  (∀x∈xs,∀ys G ρ,Rel ρ->∃ρ0,Rel ρ0/\gg (f x) ρ (S++(.lst ys::G))=some (ρ0,S++(.lst ys::G))/\ce ρ0 (S++(.lst ys::G))=some (v x,S++(.lst ys::G)))->
  gN ok gg ce S.length (xs.map f) ρ (S++(.lst ys::G))=some (S++(.lst (ys++xs.map v)::G))
 |[],ys,G,ρ,_,_,_=>by simp only[Za,Zv];exact kB (hok ys G)
 |x::xs,ys,G,ρ,hr,hl,hb=>by
  rw[QK]at hl;let⟨ρ0,r0,h1,h2⟩:=hb x QH ys G ρ hr;have h:=sN hok xs (ys++[v x]) G ρ0 r0 (by simp;omega) (λx hx=>hb x (QZ _ hx));rw[QL];refine(i4 (hok ys G) h1 h2 (by rw[ga0];rfl) (by unfold LIM;omega)).trans ?_;rw[gs0];simp only[YN];rw[h];simp only[QL,ZJ,Zt,Zw]
end
variable{α:Type}
section
variable{κ κ' β:Type}[DecidableEq κ][DecidableEq κ']
theorem Cc(kf:κ->κ')(vf:α->β)(inj:∀a b,kf a=kf b->a=b)(ps:List (κ×α))(k:κ)(v:α):dJ (ps.map λp=>(kf p.1,vf p.2)) (kf k) (vf v)=(dJ ps k v).map λp=>(kf p.1,vf p.2):=by
 have hd:∀a,decide (kf a=kf k)=decide (a=k):=λa=>by
  rw[Zf,decide_eq_true_eq,decide_eq_true_eq];exact⟨inj a k,λh=>by rw[h]⟩
 have ha:((ps.map λp=>(kf p.1,vf p.2)).any λkv=>decide (kv.1=kf k))=ps.any λkv=>decide (kv.1=k):=by
  rw[List.any_map];congr 1;funext p;exact hd p.1
 unfold dJ;rw[ha];by_cases h:(ps.any λkv=>decide (kv.1=k))=true;rw[XO h,XO h,ZD,ZD];refine Ze λp _=>?_;show(if kf p.1=kf k then(kf p.1,vf v)else(kf p.1,vf p.2))=_;by_cases e:p.1=k;simp[e];have e':¬kf p.1=kf k:=λz=>e (inj _ _ z);simp[e,e'];rw[XS h,XS h,List.map_append];rfl
theorem Gw{ps:List (κ×α)}{k:κ}{v:α}(h:(ps.map (·.1)).Nodup):((dJ ps k v).map (·.1)).Nodup:=by
 unfold dJ;by_cases e:(ps.any λkv=>decide (kv.1=k))=true
 ·rw[XO e,ZD];have:((λx:κ×α=>x.1) ∘ λkv=>if kv.1=k then(kv.1,v)else kv)=λx=>x.1:=by
   funext p;show(if p.1=k then(p.1,v)else p).1=p.1;split<;>rfl
  rw[this];exact h
 rw[XS e,List.map_append,List.nodup_append];refine⟨h,nofun,λa ha b hb z=>?_⟩;rw[List.map_singleton,ZX]at hb;let⟨p,hp,hp2⟩:=ZT.mp ha;exact e (XW.mpr ⟨p,hp,Xz (by rw[hp2,z,hb])⟩)
theorem Cb{ps:List (κ×α)}{k:κ}{v:α}{q:κ×α}(h:q∈dJ ps k v):q.1=k\/∃p∈ps,p.1=q.1:=by
 unfold dJ at h;split at h;let⟨p,hp,e⟩:=ZT.mp h;by_cases z:p.1=k;rw[XO z]at e;rw[<-e];exact .inl z;rw[XS z]at e;rw[<-e];exact .inr ⟨p,hp,rfl⟩;rcases ZF.mp h with z|z;exact .inr ⟨q,z,rfl⟩;rw[ZX.mp z];exact .inl rfl
end
def bF{ca cb:CS}{ρ ρ':Rho}{S S':Sto}(h:ca ρ S=some (.nx,ρ',S')):aT ca cb ρ S=cb ρ' S':=by rw[oS,h,Q9,vA]
def Wp{α:Type}(x:Option α)(Q:α->Prop):Prop:=∃r,x=some r/\Q r
section
variable{x:Option α}{Q:α->Prop}
def Wp.of{r:α}(h:x=some r)(q:Q r):Wp x Q:=⟨r,h,q⟩
end
section
variable{ci:CI}{ca:CE}{gg:CG}{t:CT}{ce:CE}{cb:CS}{caps:List Nat}{ρ:Rho}{cs:Rho}{S1:Sto}{ok:Sto->Prop}{xs:List α}{f v:α->U}{Q:U×Sto->Prop}{R:Out×Rho×Sto->Prop}
theorem Hs(h:ca ρ S=some (.ref l,S1))(hl:S1[l]?=some (.lst us)):iTp ca ρ S=some (us,λS=>S[l]?=some (.lst us),S1):=by
 unfold iTp;rw[h,Q9];simp only[hl]
theorem p7{cr:CA}{n:Int}(h:cr ρ S=some ([.int n],S1))(n0:0<=n)(n1:n<=1000):c6 cr ρ S=some (jw 0 n.toNat,λ_=>True,S1):=by
 have hb:-(2^62)<=n/\n<2^62:=by omega
 unfold c6;rw[h,Q9];simp only[hb,and_self,if_true]
def v7(n:Nat):jw 0 n=(ZO n).map λi:Nat=>U.int (i:Int):=by rw[rj,ZD];rfl
theorem Nz(hi:ci ρ S=some (xs.map f,ok,S1))(hok:∀G,ok (S1++G))(hn:xs.length<=9000)(hr:uh 1 caps ρ=none::cs)
  (hb:∀x∈xs,∀G,Wp (ce (some (f x)::cs) (S1++G)) λt=>t.1=v x/\∃G2,t.2=S1++G++G2)
  (hQ:∀G,Q (.ref S1.length,S1++(.lst (xs.map v)::G))):Wp (ji ci (gNm 0) ce 1 caps ρ S) Q:=by
 let⟨G,e⟩:=w8 (S:=S1) (ok:=ok) (gg:=gNm 0) (ce:=ce) (f:=f) (v:=v) (Rel:=λρ=>∃r0,ρ=r0::cs) (λys G=>hok _) xs [] [] (none::cs) ⟨_,rfl⟩ (by simp;omega) (λx hx ys G ρ hρ=>by
  let⟨r0,rfl⟩:=hρ;let⟨⟨b,S2⟩,e1,e2,G1,e3⟩:=hb x hx (.lst ys::G);dsimp only at e2 e3;subst e2 e3;exact⟨some (f x)::cs,G1,⟨_,rfl⟩,rfl,by rw[e1,ZJ,Zt]⟩)
 refine⟨_,?_,hQ G⟩;unfold ji;rw[hi,Q9,hr];dsimp only;rw[e];rfl
theorem Jm(I:List α->Rho->Sto->Prop)(h0:∀ρ S,I [] ρ S->ok S/\R (.nx,ρ,S))
  (h1:∀x xs ρ S,I (x::xs) ρ S->ok S/\Wp (gg (f x) ρ S) λr=>Wp (cb r.1 r.2) λs=>(s.1=.nx/\I xs s.2.1 s.2.2)\/∃v,s.1=.rt v/\R s) :
  ∀(xs:List α) (ρ:Rho) (S:Sto),I xs ρ S->Wp (dH ok gg cb (xs.map f) ρ S) R
 |[],ρ,S,h=>by
  let⟨a,b⟩:=h0 ρ S h;exact .of (fe a) b
 |x::xs,ρ,S,h=>by
  let⟨a,⟨ρ0,S0⟩,e1,⟨o,ρ1,S1⟩,e2,c⟩:=h1 x xs ρ S h;rcases c with⟨c,i⟩|⟨v,c,q⟩;cases c;let⟨r,e3,q⟩:=Jm I h0 h1 xs ρ1 S1 i;exact⟨r,(gy a e1 e2).trans e3,q⟩;cases c;exact⟨_,z7 a e1 e2,q⟩
end
abbrev uR(l:Nat):Option U:=some (.ref l)
abbrev uI(i:Int):Option U:=some (.int i)
inductive Pl where
 |k (j f:Nat)|a (j:Nat) (a:Int) (f:Nat)|x (n i:Nat)
deriving DecidableEq
def aJ(c:Pl->O)(s:Pl)(o:O):Pl->O:=λs'=>if s'=s then o else c s'
def dG(pos:Pl->Option Nat)(s:Pl)(p:Nat):Pl->Option Nat:=λs'=>if s'=s then some p else pos s'
structure Mm(pos:Pl->Option Nat)(c:Pl->O)(T:Sto):Prop where
 at_:∀s p,pos s=some p->T[p]?=some (c s)
 inj:∀s s' p,pos s=some p->pos s'=some p->s=s'
variable{pos:Pl->Option Nat}{c:Pl->O}{T:Sto}{s:Pl}{o:O}
section
variable{s':Pl}{p:Nat}
def bJ:aJ c s o s=o:=XO rfl
def aB(h:s'≠s):aJ c s o s'=c s':=XS h
def mH:dG pos s p s=some p:=XO rfl
def fF(h:s'≠s):dG pos s p s'=pos s':=XS h
def Mm.lt(M:Mm pos c T)(h:pos s=some p):p<T.length:=(Q8.mp (M.at_ s p h)).1
def Mm.get(M:Mm pos c T)(h:pos s=some p)(e:c s=o):T[p]?=some o:=by rw[M.at_ s p h,e]
theorem Mm.set(M:Mm pos c T)(h:pos s=some p)(o:O):Mm pos (aJ c s o) (T.set p o):=by
 refine⟨λs' q hq=>?_,M.inj⟩;by_cases e:s'=s;subst e;rw[h]at hq;cases hq;rw[bJ,Zr,XO rfl,XO (M.lt h)];rw[aB e,ZK (λz=>by subst z;exact e (M.inj _ _ _ hq h))];exact M.at_ s' q hq
def Mm.app(M:Mm pos c T)(X:Sto):Mm pos c (T++X):=⟨λs p h=>aK (M.at_ s p h),M.inj⟩
theorem Mm.newP(M:Mm pos c T)(h:T[p]?=some o)(hp:∀s',pos s'≠some p)(s:Pl):Mm (dG pos s p) (aJ c s o) T:=by
 refine⟨λs' q hq=>?_,λs1 s2 q h1 h2=>?_⟩;by_cases e:s'=s;subst e;rw[mH]at hq;cases hq;rw[bJ];exact h;rw[fF e]at hq;rw[aB e];exact M.at_ s' q hq;by_cases e1:s1=s;by_cases e2:s2=s;rw[e1,e2];rw[e1,mH]at h1;rw[fF e2]at h2;cases h1;exact absurd h2 (hp s2);rw[fF e1]at h1;by_cases e2:s2=s;rw[e2,mH]at h2;cases h2;exact absurd h1 (hp s1);rw[fF e2]at h2;exact M.inj s1 s2 q h1 h2
theorem Mm.new(M:Mm pos c T)(s:Pl)(o:O)(X:Sto):Mm (dG pos s T.length) (aJ c s o) (T++(o::X)):=
 (M.app (o::X)).newP (by rw[ga0];rfl) (λs' e=>absurd (M.lt e) (Zm _)) s
end
structure Ac where
 g:Int
 lk:List Int
 pu:List (Int×Int)
 st:Option Int
 un:List Int
 op:Bool
structure Kc where
 bx:List Int
 ma:List Int
 ho:List (Int×Int)
 tk:Int
 ev:List U
 ids:List Int
 A:Int->Ac
def dI(l:List (Int×Int)):List (Key×U):=l.map λp=>(.inl p.1,.int p.2)
def dT(l:List Int):List (Key×U):=l.map λb=>(.inl b,.bl true)
def stU:Option Int->U
 |none=>.non
 |some t=>.int t
def Kc.up(K:Kc)(a:Int)(v:Ac):Kc:={ K with A:=λx=>if x=a then v else K.A x }
abbrev kO(cK:Cl)(p:Nat->Nat)(tk:Int):O:=.ins cK [uR (p 1),uR (p 2),uR (p 3),uI tk,uR (p 4),uR (p 5)]
abbrev aO(cA:Cl)(r:Nat->Nat)(g:Int)(s:U)(u:Nat)(o:Bool):O:=.ins cA [uI g,uR (r 1),uR (r 2),some s,uR u,some (.bl o)]
structure Kr(cK cA:Cl)(j:Nat)(pos:Pl->Option Nat)(c:Pl->O)(K:Kc)(p:Nat->Nat)(q:Int->Nat->Nat):Prop where
 pk:∀f,f<6->pos (.k j f)=some (p f)
 c0:c (.k j 0)=kO cK p K.tk
 c1:c (.k j 1)=.lst (K.bx.map U.int)
 c2:c (.k j 2)=.lst (K.ma.map U.int)
 c3:c (.k j 3)=.dic (dI K.ho)
 c4:c (.k j 4)=.lst K.ev
 c5:c (.k j 5)=.dic (K.ids.map λa=>(.inl a,.ref (q a 0)))
 pa:∀a∈K.ids,∀f,f<4->pos (.a j a f)=some (q a f)
 a0:∀a∈K.ids,c (.a j a 0)=aO cA (q a) ((K.A a).g) (stU (K.A a).st) (q a 3) ((K.A a).op)
 a1:∀a∈K.ids,c (.a j a 1)=.dic (dT (K.A a).lk)
 a2:∀a∈K.ids,c (.a j a 2)=.dic (dI (K.A a).pu)
 a3:∀a∈K.ids,c (.a j a 3)=.lst ((K.A a).un.map U.int)
def own(j:Nat):Pl->Prop
 |.k i _=>i=j
 |.a i _ _=>i=j
 |.x _ _=>False
def Fm(j:Nat)(pos:Pl->Option Nat)(c:Pl->O)(g_:Pl->Option Nat)(c':Pl->O):Prop:=∀s,¬own j s->g_ s=pos s/\c' s=c s
variable{cK cA:Cl}{g_:Pl->Option Nat}{c':Pl->O}{K:Kc}{p:Nat->Nat}{q:Int->Nat->Nat}{a b:Int}{n:Nat}
section
variable{RR:Pl->Option Nat}{c'':Pl->O}
def Fm.refl:Fm j pos c pos c:=λ_ _=>⟨rfl,rfl⟩
theorem Fm.trans(h:Fm j pos c g_ c')(h':Fm j g_ c' RR c''):Fm j pos c RR c'':=λs n=>⟨(h' s n).1.trans (h s n).1,(h' s n).2.trans (h s n).2⟩
theorem Fm.upd(h:Fm j pos c g_ c')(hs:own j s):Fm j pos c g_ (aJ c' s o):=λs' n'=>⟨(h s' n').1,by rw[aB (λe=>n' (by rw[e];exact hs))];exact(h s' n').2⟩
theorem Fm.pn(h:Fm j pos c g_ c')(hs:own j s):Fm j pos c (dG g_ s n) c':=λs' n'=>⟨by rw[fF (λe=>n' (by rw[e];exact hs))];exact(h s' n').1,(h s' n').2⟩
def Fm.uk(h:Fm j pos c g_ c')(f:Nat):Fm j pos c g_ (aJ c' (.k j f) o):=h.upd rfl
def Fm.ua(h:Fm j pos c g_ c')(a:Int)(f:Nat):Fm j pos c g_ (aJ c' (.a j a f) o):=h.upd rfl
theorem Kr.ev(R:Kr cK cA j pos c K p q)(ev:List U):Kr cK cA j pos (aJ c (.k j 4) (.lst ev)) { K with ev:=ev } p q:=
 ⟨R.pk,by simpa [aJ,Kc.up] using R.c0,by simpa [aJ,Kc.up] using R.c1,by simpa [aJ,Kc.up] using R.c2,by simpa [aJ,Kc.up] using R.c3,by simp[aJ],by simpa [aJ,Kc.up] using R.c5,R.pa,λa h=>by simpa [aJ] using R.a0 a h,λa h=>by simpa [aJ] using R.a1 a h,λa h=>by simpa [aJ] using R.a2 a h,λa h=>by simpa [aJ] using R.a3 a h⟩
theorem Kr.bx(R:Kr cK cA j pos c K p q)(bx:List Int):Kr cK cA j pos (aJ c (.k j 1) (.lst (bx.map U.int))) { K with bx:=bx } p q:=
 ⟨R.pk,by simpa [aJ,Kc.up] using R.c0,by simp[aJ],by simpa [aJ,Kc.up] using R.c2,by simpa [aJ,Kc.up] using R.c3,by simpa [aJ,Kc.up] using R.c4,by simpa [aJ,Kc.up] using R.c5,R.pa,λa h=>by simpa [aJ] using R.a0 a h,λa h=>by simpa [aJ] using R.a1 a h,λa h=>by simpa [aJ] using R.a2 a h,λa h=>by simpa [aJ] using R.a3 a h⟩
theorem Kr.ma(R:Kr cK cA j pos c K p q)(ma:List Int):Kr cK cA j pos (aJ c (.k j 2) (.lst (ma.map U.int))) { K with ma:=ma } p q:=
 ⟨R.pk,by simpa [aJ,Kc.up] using R.c0,by simpa [aJ,Kc.up] using R.c1,by simp[aJ],by simpa [aJ,Kc.up] using R.c3,by simpa [aJ,Kc.up] using R.c4,by simpa [aJ,Kc.up] using R.c5,R.pa,λa h=>by simpa [aJ] using R.a0 a h,λa h=>by simpa [aJ] using R.a1 a h,λa h=>by simpa [aJ] using R.a2 a h,λa h=>by simpa [aJ] using R.a3 a h⟩
theorem Kr.ho(R:Kr cK cA j pos c K p q)(ho:List (Int×Int)):Kr cK cA j pos (aJ c (.k j 3) (.dic (dI ho))) { K with ho:=ho } p q:=
 ⟨R.pk,by simpa [aJ,Kc.up] using R.c0,by simpa [aJ,Kc.up] using R.c1,by simpa [aJ,Kc.up] using R.c2,by simp[aJ],by simpa [aJ,Kc.up] using R.c4,by simpa [aJ,Kc.up] using R.c5,R.pa,λa h=>by simpa [aJ] using R.a0 a h,λa h=>by simpa [aJ] using R.a1 a h,λa h=>by simpa [aJ] using R.a2 a h,λa h=>by simpa [aJ] using R.a3 a h⟩
theorem Kr.tk(R:Kr cK cA j pos c K p q)(tk:Int):Kr cK cA j pos (aJ c (.k j 0) (kO cK p tk)) { K with tk:=tk } p q:=
 ⟨R.pk,by simp[aJ],by simpa [aJ,Kc.up] using R.c1,by simpa [aJ,Kc.up] using R.c2,by simpa [aJ,Kc.up] using R.c3,by simpa [aJ,Kc.up] using R.c4,by simpa [aJ,Kc.up] using R.c5,R.pa,λa h=>by simpa [aJ] using R.a0 a h,λa h=>by simpa [aJ] using R.a1 a h,λa h=>by simpa [aJ] using R.a2 a h,λa h=>by simpa [aJ] using R.a3 a h⟩
theorem Kr.ao(R:Kr cK cA j pos c K p q)(g:Int)(st:Option Int)(op:Bool) :
  Kr cK cA j pos (aJ c (.a j a 0) (aO cA (q a) g (stU st) (q a 3) op)) (K.up a { K.A a with g:=g,st:=st,op:=op }) p q:=by
 refine⟨R.pk,by simpa [aJ,Kc.up] using R.c0,by simpa [aJ,Kc.up] using R.c1,by simpa [aJ,Kc.up] using R.c2,by simpa [aJ,Kc.up] using R.c3,by simpa [aJ,Kc.up] using R.c4,by simpa [aJ,Kc.up] using R.c5,R.pa,λb h=>?_,λb h=>?_,λb h=>?_,λb h=>?_⟩;by_cases e:b=a;subst e;simp[aJ,Kc.up];have:=R.a0 b h;simpa [aJ,Kc.up,e] using this;have:=R.a1 b h;by_cases e:b=a;subst e;simpa [aJ,Kc.up] using this;simpa [aJ,Kc.up,e] using this;have:=R.a2 b h;by_cases e:b=a;subst e;simpa [aJ,Kc.up] using this;simpa [aJ,Kc.up,e] using this;have:=R.a3 b h;by_cases e:b=a;subst e;simpa [aJ,Kc.up] using this;simpa [aJ,Kc.up,e] using this
theorem Kr.al(R:Kr cK cA j pos c K p q)(lk:List Int):Kr cK cA j pos (aJ c (.a j a 1) (.dic (dT lk))) (K.up a { K.A a with lk:=lk }) p q:=by
 refine⟨R.pk,by simpa [aJ,Kc.up] using R.c0,by simpa [aJ,Kc.up] using R.c1,by simpa [aJ,Kc.up] using R.c2,by simpa [aJ,Kc.up] using R.c3,by simpa [aJ,Kc.up] using R.c4,by simpa [aJ,Kc.up] using R.c5,R.pa,λb h=>?_,λb h=>?_,λb h=>?_,λb h=>?_⟩;have:=R.a0 b h;by_cases e:b=a;subst e;simpa [aJ,Kc.up] using this;simpa [aJ,Kc.up,e] using this;have:=R.a1 b h;by_cases e:b=a;subst e;simp[aJ,Kc.up];simpa [aJ,Kc.up,e] using this;have:=R.a2 b h;by_cases e:b=a;subst e;simpa [aJ,Kc.up] using this;simpa [aJ,Kc.up,e] using this;have:=R.a3 b h;by_cases e:b=a;subst e;simpa [aJ,Kc.up] using this;simpa [aJ,Kc.up,e] using this
theorem Kr.ap(R:Kr cK cA j pos c K p q)(pu:List (Int×Int)):Kr cK cA j pos (aJ c (.a j a 2) (.dic (dI pu))) (K.up a { K.A a with pu:=pu }) p q:=by
 refine⟨R.pk,by simpa [aJ,Kc.up] using R.c0,by simpa [aJ,Kc.up] using R.c1,by simpa [aJ,Kc.up] using R.c2,by simpa [aJ,Kc.up] using R.c3,by simpa [aJ,Kc.up] using R.c4,by simpa [aJ,Kc.up] using R.c5,R.pa,λb h=>?_,λb h=>?_,λb h=>?_,λb h=>?_⟩;have:=R.a0 b h;by_cases e:b=a;subst e;simpa [aJ,Kc.up] using this;simpa [aJ,Kc.up,e] using this;have:=R.a1 b h;by_cases e:b=a;subst e;simpa [aJ,Kc.up] using this;simpa [aJ,Kc.up,e] using this;have:=R.a2 b h;by_cases e:b=a;subst e;simp[aJ,Kc.up];simpa [aJ,Kc.up,e] using this;have:=R.a3 b h;by_cases e:b=a;subst e;simpa [aJ,Kc.up] using this;simpa [aJ,Kc.up,e] using this
theorem Kr.au(R:Kr cK cA j pos c K p q)(un:List Int):Kr cK cA j pos (aJ c (.a j a 3) (.lst (un.map U.int))) (K.up a { K.A a with un:=un }) p q:=by
 refine⟨R.pk,by simpa [aJ,Kc.up] using R.c0,by simpa [aJ,Kc.up] using R.c1,by simpa [aJ,Kc.up] using R.c2,by simpa [aJ,Kc.up] using R.c3,by simpa [aJ,Kc.up] using R.c4,by simpa [aJ,Kc.up] using R.c5,R.pa,λb h=>?_,λb h=>?_,λb h=>?_,λb h=>?_⟩;have:=R.a0 b h;by_cases e:b=a;subst e;simpa [aJ,Kc.up] using this;simpa [aJ,Kc.up,e] using this;have:=R.a1 b h;by_cases e:b=a;subst e;simpa [aJ,Kc.up] using this;simpa [aJ,Kc.up,e] using this;have:=R.a2 b h;by_cases e:b=a;subst e;simpa [aJ,Kc.up] using this;simpa [aJ,Kc.up,e] using this;have:=R.a3 b h;by_cases e:b=a;subst e;simp[aJ,Kc.up];simpa [aJ,Kc.up,e] using this
end
theorem w9{S:Sto}{ci:CE}{el:CE}{n:Nat}{caps:List Nat}{ρ:Rho}{ld:Nat}{kus:List (Key×U)}{v:Key×U->U}{r:Rho}(hi:ci ρ S=some (.ref ld,S))(hd:S[ld]?=some (.dic kus))(hr:uh 1 caps ρ=none::r)(hl:kus.length<=900)
  (he:∀ep ys,∀p∈kus,el (some (kU p.1)::r) (S.set ld (.fdc ep kus)++[.lst ys])=some (v p,S.set ld (.fdc ep kus)++[.lst ys])) :
  fK ci (gNm 0) el 1 caps ρ S=some (.ref S.length,S++[.lst (kus.map v)]):=by
 have lk:ld<S.length:=(Q8.mp hd).1;unfold fK oO;rw[hi,Q9];simp only[hd];refine oy λep=>?_;have ek:∀X:Sto,(S.set ld (.fdc ep kus)++X)[ld]?=some (.fdc ep kus):=λX=>aK (by rw[Zr,XO rfl,XO lk]);have key:∀(ks:List (Key×U)) (ys:List U) (r0:Option U),(∀p∈ks,p∈kus)->ys.length+ks.length<=9999->gN (λS'=>S'[ld]?=some (.fdc ep kus)) (gNm 0) el S.length (ks.map λp=>kU p.1) (r0::r) (S.set ld (.fdc ep kus)++[.lst ys])=some (S.set ld (.fdc ep kus)++[.lst (ys++ks.map v)]):=by
  intro ks;induction ks with
  |nil=>intro ys r0 _ _;rw[Za,Za,Zv];exact kB (ek _)
  |cons p ks ih=>
   intro ys r0 hm hn;rw[QK]at hn;rw[QL,QL];refine(i4 (ρ0:=some (kU p.1)::r) (S0:=S.set ld (.fdc ep kus)++[.lst ys]) (S1:=S.set ld (.fdc ep kus)++[.lst ys]) (x:=v p) (ys:=ys) (ek _) rfl (he ep ys p (hm p QH)) ?_ (by unfold LIM;omega)).trans ?_;have:=ga0 (S:=S.set ld (.fdc ep kus)) (X:=[.lst ys]);rw[Zx]at this;rw[this];rfl;have:=gs0 (S:=S.set ld (.fdc ep kus)) (X:=[.lst ys]) (o:=.lst (ys++[v p]));rw[Zx]at this;rw[this];show gN _ _ _ _ _ _ (S.set ld (.fdc ep kus)++[.lst (ys++[v p])])=_;rw[ih (ys++[v p]) _ (λq hq=>hm q (QZ _ hq)) (by simp;omega),ZJ];rfl
 rw[hr,key kus [] none (λp h=>h) (by simp;omega),Q9];have e2:(S.set ld (.fdc ep kus)++[O.lst ([]++kus.map v)]).set ld (.dic kus)=S++[.lst (kus.map v)]:=by
  rw[XE _ _ (by rw[Zx];exact lk),jW hd,Zw]
 simp only[ek,e2]
section
variable{ids:List Int}{l:List (Int×Int)}{xs:List Int}
theorem bb:∀{ids:List Int},a∈ids->aZ (ids.map λa=>((.inl a:Key),U.ref (q a 0))) (.inl a)=uR (q a 0)
 |x::r,h=>by
  unfold aZ;rw[QL,Zj];by_cases e:x=a;subst e;simp;have hd:decide ((.inl x:Key)=.inl a)=false:=Xq λz=>e (Sum.inl.inj z);rw[hd];exact bb (ids:=r) ((Z8.mp h).resolve_left λz=>e z.symm)
theorem gH:∀{ids:List Int},a∉ids->aZ (ids.map λa=>((.inl a:Key),U.ref (q a 0))) (.inl a)=none
 |[],_=>rfl
 |x::r,h=>by
  unfold aZ;rw[QL,Zj];have hd:decide ((.inl x:Key)=.inl a)=false:=Xq λz=>h (by rw[<-Sum.inl.inj z];exact QH);rw[hd];exact gH (ids:=r) λz=>h (QZ _ z)
theorem ib(b:Int):∀(l:List (Int×Int)),aZ (dI l) (.inl b)=(aZ l b).map U.int
 |[]=>rfl
 |(x,v)::r=>by
  have ih:=ib b r;unfold aZ dI at *;rw[QL,Zj,Zj];by_cases e:x=b
  ·subst e;simp
  ·have hd:decide ((.inl x:Key)=.inl b)=false:=Xq λz=>e (Sum.inl.inj z);have hd':decide (x=b)=false:=Xq e;dsimp only;rw[hd,hd'];exact ih
theorem zv(l:List (Int×Int))(b v:Int):dJ (dI l) (.inl b) (.int v)=dI (dJ l b v):=Cc (κ':=Key) Sum.inl U.int (λ_ _ h=>Sum.inl.inj h) l b v
def EG(l:List Int)(b:Int):dJ (dT l) (.inl b) (.bl true)=dT (tR l b):=Ca b l
theorem HC(l:List (Int×Int))(b:Int):iB (dI l) (.inl b)=dI (iB l b):=by
 unfold iB dI;rw[List.filter_map];congr 1;refine List.filter_congr λp _=>?_;simp
theorem E9(b0:0<=b)(b1:b<xs.length):atI (xs.map U.int) b=uI (xs.getD b.toNat 0):=by
 have hi:b.toNat<xs.length:=by omega
 have:=lh (xs:=xs.map U.int) (j:=b.toNat) (v:=.int xs[b.toNat]) (by rw[ZH,Q7 hi];rfl);rw[show((b.toNat:Nat):Int)=b from by omega]at this;rw[this,ZV,Q7 hi];rfl
theorem Mh(b0:0<=b)(b1:b<xs.length):ixN (xs.map U.int).length b=some b.toNat:=by
 unfold ixN;rw[XO b0,XO (by rw[QX];exact b1)]
end
def brd(K:Kc)(a:Int)(bs:List Int):Bool:=bs.any λb=>!decide ((aZ K.ho b).getD a=a)
def Br(K:Kc)(a:Int):Bool:=(K.A a).lk.any λb=>decide ((K.A a).g<K.ma.getD b.toNat 0)
def FQ(K:Kc)(a b:Int):Bool:=brd K a [b]||(!decide (K.ma.getD b.toNat 0<=(K.A a).g)&&(brd K a (K.A a).lk||Br K a))
structure Kw(K:Kc)(n:Nat):Prop where
 lb:K.bx.length=n
 lm:K.ma.length=n
 few:n<=900
 ids:K.ids.Nodup
 lk:∀a∈K.ids,(K.A a).lk.length<=900/\∀b∈(K.A a).lk,0<=b/\b<n
 pu:∀a∈K.ids,(K.A a).pu.length<64/\((K.A a).pu.map (·.1)).Nodup/\∀e∈(K.A a).pu,0<=e.1/\e.1<n
def Nx(cK cA:Cl)(j:Nat)(pos:Pl->Option Nat)(c:Pl->O)(p:Nat->Nat)(K':Kc)(T':Sto):Prop:=∃g_ c' q',Mm g_ c' T'/\Kr cK cA j g_ c' K' p q'/\Fm j pos c g_ c'
def Kc.end(K:Kc)(a:Int)(w:Str):Kc:={ K.up a { K.A a with op:=false } with ev:=K.ev++[.tup [.str w,.int a]] }
def jy(cK cA:Cl):Fn:=fnU 4 3 (jg cK cA)
theorem mW{w:Str}(M:Mm pos c T)(R:Kr cK cA j pos c K p q)(ha:a∈K.ids)(hl:K.ev.length<=9000):Wp (jy cK cA [.ref (p 0),.int a,.str w] T) λr=>r.1=.non/\Nx cK cA j pos c p (K.end a w) r.2:=by
 have t0:=M.get (R.pk 0 ∅) R.c0;have t5:=M.get (R.pk 5 ∅) R.c5;have tr:=M.get (R.pa a ha 0 ∅) (R.a0 a ha);have v:=bb (q:=q) ha;have M1:=M.set (R.pa a ha 0 ∅) (aO cA (q a) ((K.A a).g) (stU (K.A a).st) (q a 3) false);have R1:=R.ao (a:=a) (K.A a).g (K.A a).st false;have s0:=M1.get (R1.pk 0 ∅) R1.c0;have s4:=M1.get (R1.pk 4 ∅) R1.c4;have hL:K.ev.length<LIM:=by unfold LIM;omega
 refine⟨(.non,_),?_,rfl,pos,_,q,M1.set (R1.pk 4 ∅) (.lst (K.ev++[.tup [.str w,.int a]])),R1.ev _,(Fm.refl.ua a 0).uk 4⟩;unfold jy;rw[OO];rwa[jg,t0,t5,v,tr,s0,s4,Kc.up,fA hL]
def gF(cK cA:Cl):Fn:=fnU 2 2 (eG cK cA)
theorem mh(M:Mm pos c T)(R:Kr cK cA j pos c K p q)(ha:a∈K.ids)(op:(K.A a).op=true):gF cK cA [.ref (p 0),.int a] T=some (.ref (q a 0),T):=by
 have t0:=M.get (R.pk 0 ∅) R.c0;have t5:=M.get (R.pk 5 ∅) R.c5;have tr:=M.get (R.pa a ha 0 ∅) (R.a0 a ha);have v:=bb (q:=q) ha;rw[op]at tr;unfold gF;rw[uX];rwa[eG,t0,t5,v,tr,ZI,if_true]
def c8(cK cA:Cl):Fn:=fnU 3 2 (bX (gF cK cA) cK cA)
theorem lY(M:Mm pos c T)(R:Kr cK cA j pos c K p q)(ha:a∈K.ids)(op:(K.A a).op=true)(st:(K.A a).st=none):c8 cK cA [.ref (p 0),.int a] T=some (.ref (q a 0),T):=by
 have t0:=M.get (R.pk 0 ∅) R.c0;have tr:=M.get (R.pa a ha 0 ∅) (R.a0 a ha);have f:=mh M R ha op;rw[st]at tr;unfold c8;rw[x6];rwa[bX,t0,f,tr,stU,yx,rW]
def xm(cK:Cl):CE:=cOp fNe (yg (bD cK 2 (ah 2)) (ah 0) (ah 1)) (ah 1)
theorem A7{S:Sto}{k0 k3:Nat}{fs:List (Option U)}{ho:List (Int×Int)}(h0:S[k0]?=some (.ins cK fs))(hf:fs[2]?=some (uR k3))(h3:S[k3]?=some (.dic (dI ho))):xm cK [uI b,uI a,uR k0] S=some (.bl (!decide ((aZ ho b).getD a=a)),S):=by
 have F:HY cK 2 (.ref k0,S)=some (.ref k3,S):=Ek h0 hf;have g:((aZ ho b).map U.int).getD (.int a)=.int ((aZ ho b).getD a):=by cases aZ ho b<;>rfl
 unfold xm;rwa[F,h3,ib,g]
def cW(cK:Cl):Fn:=fnU 3 3 (f9 cK)
theorem any_map{α:Type}{l:Nat}{S:Sto}{xs:List α}{f:α->Bool}(h:S[l]?=some (.lst (xs.map λx=>U.bl (f x)))):ym [.ref l] S=some (.bl (xs.any f),S):=by
 have em:(xs.map λx=>U.bl (f x))=(xs.map f).map U.bl:=by rw[ZD];rfl
 simp only[ym,h,em,xj,Q9,List.any_map];rfl
theorem HJ{lb:Nat}{bs:List Int}(M:Mm pos c T)(R:Kr cK cA j pos c K p q)(hb:T[lb]?=some (.lst (bs.map U.int)))(hl:bs.length<=900):∃X,cW cK [.ref (p 0),.int a,.ref lb] T=some (.bl (brd K a bs),T++X):=by
 have t0:=M.get (R.pk 0 ∅) R.c0;have t3:=M.get (R.pk 3 ∅) R.c3;have key:=sN (S:=T) (ok:=λS=>S[lb]?=some (.lst (bs.map U.int))) (gg:=gNm 0) (ce:=xm cK) (f:=U.int) (v:=λb=>.bl (!decide ((aZ K.ho b).getD a=a))) (Rel:=λρ=>∃r0,ρ=[r0,uI a,uR (p 0)]) (λys G=>aK hb) bs [] [] [none,uI a,uR (p 0)] ⟨_,rfl⟩ (by simp;omega) (λb hb' ys G ρ hρ=>by
  let⟨r0,rfl⟩:=hρ;exact⟨[uI b,uI a,uR (p 0)],⟨_,rfl⟩,rfl,A7 (aK t0) rfl (aK t3)⟩)
 simp only[Zw]at key;have hc:ji (iTp (ah 2)) (gNm 0) (xm cK) 1 [1,0] [uR (p 0),uI a,uR lb] T=some (.ref T.length,T++[.lst (bs.map λb=>.bl (!decide ((aZ K.ho b).getD a=a)))]):=by
  have hv:ah 2 [uR (p 0),uI a,uR lb] T=some (.ref lb,T):=rfl;unfold ji iTp;rw[hv,Q9];simp only[hb,Q9,uh,QR,QL,Za,List.getElem?_cons_zero,X8,Option.getD_some,Zt,Zw,key]
 have he:qA (ji (iTp (ah 2)) (gNm 0) (xm cK) 1 [1,0]) (fK (ah 2) (gNm 0) (xm cK) 1 [1,0]) [uR (p 0),uI a,uR lb] T=some (.ref T.length,T++[.lst (bs.map λb=>.bl (!decide ((aZ K.ho b).getD a=a)))]):=by
  unfold qA;rw[hc]
 have ha:=any_map (S:=T++[.lst (bs.map λb=>.bl (!decide ((aZ K.ho b).getD a=a)))]) (l:=T.length) (xs:=bs) (by rw[ga0];rfl);refine⟨[.lst (bs.map λb=>.bl (!decide ((aZ K.ho b).getD a=a)))],?_⟩;unfold cW;rw[AM];show((bV (cCB ym (ag (qA (ji (iTp (ah 2)) (gNm 0) (xm cK) 1 [1,0]) (fK (ah 2) (gNm 0) (xm cK) 1 [1,0])) aE))) _ T).bind kFn=_;rwa[he,ha];rfl
theorem u9{s:Pl}{ld:Nat}{α:Type}{xs:List α}{kf:α->Int}{vf:α->U}(M:Mm pos c T)(R:Kr cK cA j pos c K p q)(hs:pos s=some ld)(hc:c s=.dic (xs.map λx=>(.inl (kf x),vf x)))(s1:s≠.k j 0)(s2:s≠.k j 3)(hl:xs.length<=900):∃X,cW cK [.ref (p 0),.int a,.ref ld] T=some (.bl (brd K a (xs.map kf)),T++X):=by
 have td:=M.get hs hc;have hcd:=w9 (S:=T) (ci:=ah 2) (el:=xm cK) (n:=1) (caps:=[1,0]) (ρ:=[uR (p 0),uI a,uR ld]) (r:=[uI a,uR (p 0)]) (v:=λe=>match e.1 with|.inl b=>.bl (!decide ((aZ K.ho b).getD a=a))|.inr _=>.non) rfl td rfl ‹hl› (λep ys e he=>by
  let⟨x,hx,rfl⟩:=ZT.mp he;have M1:=M.set hs (.fdc ep (xs.map λx=>(.inl (kf x),vf x)));have t0:=M1.get (R.pk 0 ∅) ((aB (Ne.symm s1)).trans R.c0);have t3:=M1.get (R.pk 3 ∅) ((aB (Ne.symm s2)).trans R.c3);exact A7 (aK t0) rfl (aK t3))
 rw[ZD]at hcd;have he:qA (ji (iTp (ah 2)) (gNm 0) (xm cK) 1 [1,0]) (fK (ah 2) (gNm 0) (xm cK) 1 [1,0]) [uR (p 0),uI a,uR ld] T=some (.ref T.length,T++[.lst (xs.map λx=>.bl (!decide ((aZ K.ho (kf x)).getD a=a)))]):=by
  have h1:ji (iTp (ah 2)) (gNm 0) (xm cK) 1 [1,0] [uR (p 0),uI a,uR ld] T=none:=by
   have hv:ah 2 [uR (p 0),uI a,uR ld] T=some (.ref ld,T):=rfl;unfold ji iTp;rw[hv,Q9];simp only[td];rfl
  unfold qA;rw[h1];exact hcd
 have ha:=any_map (S:=T++[.lst (xs.map λx=>.bl (!decide ((aZ K.ho (kf x)).getD a=a)))]) (l:=T.length) (xs:=xs) (by rw[ga0];rfl);refine⟨[.lst (xs.map λx=>.bl (!decide ((aZ K.ho (kf x)).getD a=a)))],?_⟩;have eb:brd K a (xs.map kf)=xs.any λx=>!decide ((aZ K.ho (kf x)).getD a=a):=by unfold brd;rw[List.any_map];rfl
 rw[eb];unfold cW;rw[AM];show((bV (cCB ym (ag (qA (ji (iTp (ah 2)) (gNm 0) (xm cK) 1 [1,0]) (fK (ah 2) (gNm 0) (xm cK) 1 [1,0])) aE))) _ T).bind kFn=_;rwa[he,ha]
def Mt(cK cA:Cl):CE:=cOp fGt (cOp fIx (bD cK 1 (ah 2)) (ah 0)) (bD cA 0 (ah 1))
def tF(cK cA:Cl):Fn:=fnU 3 2 (cN cK cA)
theorem E5(M:Mm pos c T)(R:Kr cK cA j pos c K p q)(W:Kw K n)(ha:a∈K.ids):∃X,tF cK cA [.ref (p 0),.int a] T=some (.bl (Br K a),T++X):=by
 have t0:=M.get (R.pk 0 ∅) R.c0;have t5:=M.get (R.pk 5 ∅) R.c5;have tr:=M.get (R.pa a ha 0 ∅) (R.a0 a ha);have tl:=M.get (R.pa a ha 1 ∅) (R.a1 a ha);have v:=bb (q:=q) ha;let⟨l1,l2⟩:=W.lk a ha;have hi:bD cA 1 (ah 2) [uR (p 0),uI a,uR (q a 0)] T=some (.ref (q a 1),T):=by
  rwa[tr]
 have hcd:=w9 (S:=T) (ci:=bD cA 1 (ah 2)) (el:=Mt cK cA) (n:=1) (caps:=[2,0]) (ρ:=[uR (p 0),uI a,uR (q a 0)]) (r:=[uR (q a 0),uR (p 0)]) (v:=λe=>match e.1 with|.inl b=>.bl (decide ((K.A a).g<K.ma.getD b.toNat 0))|.inr _=>.non) hi tl rfl (by unfold dT;simpa using l1) (λep ys e he=>by
  let⟨b,hb,rfl⟩:=ZT.mp he;let⟨b0,b1⟩:=l2 b hb;have M1:=M.set (R.pa a ha 1 ∅) (.fdc ep (dT (K.A a).lk));have s0:=aK (r:=[O.lst ys]) (M1.get (R.pk 0 ∅) ((aB nofun).trans R.c0));have s2:=aK (r:=[O.lst ys]) (M1.get (R.pk 2 ∅) ((aB nofun).trans R.c2));have sr:=aK (r:=[O.lst ys]) (M1.get (R.pa a ha 0 ∅) ((aB nofun).trans (R.a0 a ha)));have am:=E9 (xs:=K.ma) b0 (by rw[W.lm];exact b1);show Mt cK cA [uI b,uR (q a 0),uR (p 0)] _=_;unfold Mt;rwa[s0,s2,sr,am])
 have em:((dT (K.A a).lk).map λe=>match e.1 with|.inl b=>U.bl (decide ((K.A a).g<K.ma.getD b.toNat 0))|.inr _=>.non)=(K.A a).lk.map λb=>U.bl (decide ((K.A a).g<K.ma.getD b.toNat 0)):=by unfold dT;rw[ZD];rfl
 rw[em]at hcd;have hn:=any_map (S:=T++[.lst ((K.A a).lk.map λb=>U.bl (decide ((K.A a).g<K.ma.getD b.toNat 0)))]) (l:=T.length) (xs:=(K.A a).lk) (by rw[ga0];rfl);refine⟨[.lst ((K.A a).lk.map λb=>U.bl (decide ((K.A a).g<K.ma.getD b.toNat 0)))],?_⟩;unfold tF;rw[x6];unfold cN;rw[bF (ρ':=[uR (p 0),uI a,uR (q a 0)]) (S':=T) (by rwa[t0,t5,v])];show((bV (cCB ym (ag (fK (bD cA 1 (ah 2)) (gNm 0) (Mt cK cA) 1 [2,0]) aE))) _ T).bind kFn=_;rwa[hcd,hn];rfl
def O3(cK cA:Cl):Fn:=fnU 3 3 (bc (cW cK) (tF cK cA) cK cA)
theorem Ny(M:Mm pos c T)(R:Kr cK cA j pos c K p q)(W:Kw K n)(ha:a∈K.ids)(b0:0<=b)(b1:b<n):∃X,O3 cK cA [.ref (p 0),.int a,.int b] T=some (.bl (FQ K a b),T++X):=by
 have t0:=M.get (R.pk 0 ∅) R.c0;have t2:=M.get (R.pk 2 ∅) R.c2;have t5:=M.get (R.pk 5 ∅) R.c5;have tr:=M.get (R.pa a ha 0 ∅) (R.a0 a ha);have v:=bb (q:=q) ha;have am:=E9 (xs:=K.ma) b0 (by rw[W.lm];exact b1);have g0:∀Y,(T++Y)[p 0]?=_:=λY=>aK t0;have g2:∀Y,(T++Y)[p 2]?=_:=λY=>aK t2;have g5:∀Y,(T++Y)[p 5]?=_:=λY=>aK t5;have gr:∀Y,(T++Y)[q a 0]?=_:=λY=>aK tr;let⟨X1,e1⟩:=HJ (a:=a) (lb:=T.length) (bs:=[b]) (M.app [.lst [.int b]]) R (by rw[ga0];rfl) nofun;rw[ZJ]at e1;have M1:=M.app ([.lst [.int b]]++X1);let⟨X2,e2⟩:=u9 (a:=a) (xs:=(K.A a).lk) (kf:=λb=>b) (vf:=λ_=>.bl true) M1 R (R.pa a ha 1 ∅) (R.a1 a ha) nofun nofun (W.lk a ha).1;let⟨X3,e3⟩:=E5 (M1.app X2) R W ha;rw[List.map_id']at e2;simp only[ZJ,Zt,Zw]at e1 e2 e3;unfold O3 FQ;rw[AM];cases h1:brd K a [b]with
 |true=>
  rw[h1]at e1;exact⟨.lst [.int b]::X1,by rwa[bc,t0,e1,Bool.true_or]⟩
 |false=>
  rw[h1]at e1;cases h2:decide (K.ma.getD b.toNat 0<=(K.A a).g)with
  |true=>exact⟨.lst [.int b]::X1,by rwa[bc,t0,e1,g0,g2,g5,v,gr,am,h2,X0,YQ,Bool.or_false]⟩
  |false=>
   cases h3:brd K a (K.A a).lk with
   |true=>
    rw[h3]at e2;exact⟨.lst [.int b]::(X1++X2),by rwa[bc,t0,e1,g0,g2,g5,v,gr,am,h2,e2,XT,YO,Bool.true_or,XA]⟩
   |false=>
    rw[h3]at e2;exact⟨.lst [.int b]::(X1++(X2++X3)),by rwa[bc,t0,e1,g0,g2,g5,v,gr,am,h2,e2,e3,XT,YO,XA]⟩
def Kc.anew(K:Kc)(a b:Int):Kc:=K.up a { K.A a with g:=if (K.A a).g<K.ma.getD b.toNat 0 then K.tk else(K.A a).g,lk:=tR (K.A a).lk b }
def Kc.say(K:Kc)(e:U):Kc:={ K with ev:=K.ev++[e] }
theorem up2{v w:Ac}:(K.up a v).up a w=K.up a w:=by
 unfold Kc.up;congr 1;funext x;by_cases h:x=a<;>simp[h]
def gI{v:Ac}:(K.up a v).A a=v:=XO rfl
def Bm(cK cA:Cl):Fn:=fnU 3 3 (b8 cK cA)
theorem HN(M:Mm pos c T)(R:Kr cK cA j pos c K p q)(W:Kw K n)(ha:a∈K.ids)(b0:0<=b)(b1:b<n):Wp (Bm cK cA [.ref (p 0),.ref (q a 0),.int b] T) λr=>r.1=.int (K.bx.getD b.toNat 0)/\∃c',Mm pos c' r.2/\Kr cK cA j pos c' (K.anew a b) p q/\Fm j pos c pos c':=by
 have t0:=M.get (R.pk 0 ∅) R.c0;have t1:=M.get (R.pk 1 ∅) R.c1;have t2:=M.get (R.pk 2 ∅) R.c2;have tr:=M.get (R.pa a ha 0 ∅) (R.a0 a ha);have tl:=M.get (R.pa a ha 1 ∅) (R.a1 a ha);have am:=E9 (xs:=K.ma) b0 (by rw[W.lm];exact b1);have ab:=E9 (xs:=K.bx) b0 (by rw[W.lb];exact b1);have hL:(dT (K.A a).lk).length<LIM:=by unfold LIM dT;rw[QX];have:=(W.lk a ha).1;omega
 unfold Bm Kc.anew;rw[AM];by_cases h:(K.A a).g<K.ma.getD b.toNat 0;have hd:decide ((K.A a).g<K.ma.getD b.toNat 0)=true:=Xz h;rw[XO h];have M1:=M.set (R.pa a ha 0 ∅) (aO cA (q a) K.tk (stU (K.A a).st) (q a 3) ((K.A a).op));have R1:=R.ao (a:=a) K.tk (K.A a).st (K.A a).op;have s0:=M1.get (R1.pk 0 ∅) R1.c0;have sr:=M1.get (R1.pa a ha 0 ∅) (R1.a0 a ha);have sl:=M1.get (R1.pa a ha 1 ∅) (R1.a1 a ha);rw[gI]at sr sl;have M2:=M1.set (R1.pa a ha 1 ∅) (.dic (dT (tR (K.A a).lk b)));have R2:=R1.al (a:=a) (tR (K.A a).lk b);have w0:=M2.get (R2.pk 0 ∅) R2.c0;have w1:=M2.get (R2.pk 1 ∅) R2.c1;rw[gI,up2]at R2;refine⟨(_,_),?_,rfl,_,M2,R2,(Fm.refl.ua a 0).ua a 1⟩;rwa[b8,t0,t2,am,tr,hd,s0,sr,sl,hL,if_true,EG,w0,w1,Kc.up,ab];have hd:decide ((K.A a).g<K.ma.getD b.toNat 0)=false:=Xq h;rw[XS h];have M2:=M.set (R.pa a ha 1 ∅) (.dic (dT (tR (K.A a).lk b)));have R2:=R.al (a:=a) (tR (K.A a).lk b);have w0:=M2.get (R2.pk 0 ∅) R2.c0;have w1:=M2.get (R2.pk 1 ∅) R2.c1;refine⟨(_,_),?_,rfl,_,M2,R2,Fm.refl.ua a 1⟩;rwa[b8,t0,t2,am,tr,hd,tl,hL,if_true,EG,w0,w1,Kc.up,ab]
def jt(K:Kc)(a b:Int):U×Kc:=match aZ (K.A a).pu b with
 |some v=>(.tup [.str "number",.int v],K.say (.tup [.str "look",.int a,.int b,.int v]))
 |none=>if FQ K a b=true then(.tup [.str "falls"],K.end a "fall")else(.tup [.str "number",.int (K.bx.getD b.toNat 0)],(K.anew a b).say (.tup [.str "look",.int a,.int b,.int (K.bx.getD b.toNat 0)]))
def tq(cK cA:Cl):Fn:=fnU 5 3 (cE (c8 cK cA) (O3 cK cA) (jy cK cA) (Bm cK cA) cK cA)
theorem Hb(M:Mm pos c T)(R:Kr cK cA j pos c K p q)(W:Kw K n)(ha:a∈K.ids)(op:(K.A a).op=true)(st:(K.A a).st=none)(b0:0<=b)(b1:b<n)(hl:K.ev.length<=9000):Wp (tq cK cA [.ref (p 0),.int a,.int b] T) λr=>r.1=(jt K a b).1/\Nx cK cA j pos c p (jt K a b).2 r.2:=by
 have t0:=M.get (R.pk 0 ∅) R.c0;have t4:=M.get (R.pk 4 ∅) R.c4;have tr:=M.get (R.pa a ha 0 ∅) (R.a0 a ha);have tp:=M.get (R.pa a ha 2 ∅) (R.a2 a ha);have u:=lY M R ha op st;have hL:K.ev.length<LIM:=by unfold LIM;omega
 unfold tq jt;rw[DD];cases hv:aZ (K.A a).pu b with
 |some v=>
  refine⟨(_,_),?_,rfl,pos,_,q,M.set (R.pk 4 ∅) (.lst (K.ev++[.tup [.str "look",.int a,.int b,.int v]])),R.ev _,Fm.refl.uk 4⟩;rwa[cE,t0,u,tr,tp,ib,hv,Zi,ZI,ZU,if_false,t4,fA hL]
 |none=>
  let⟨X,e1⟩:=Ny M R W ha b0 b1;have M1:=M.app X;have g0:=M1.get (R.pk 0 ∅) R.c0;dsimp only;cases hw:FQ K a b with
  |true=>
   rw[hw]at e1;rw[XO rfl];let⟨⟨u1,T1⟩,e2,rfl,g_,c',q',M2,R2,F2⟩:=mW (w:="fall") M1 R ha hl;refine⟨(_,_),?_,rfl,g_,c',q',M2,R2,F2⟩;rwa[cE,t0,u,tr,tp,ib,hv,Option.map_none,XU,ZU,if_false,e1,g0,e2]
  |false=>
   rw[hw]at e1;rw[XS QV];let⟨⟨u1,T1⟩,e2,rfl,c',M2,R2,F2⟩:=HN M1 R W ha b0 b1;have s0:=M2.get (R2.pk 0 ∅) R2.c0;have s4:=M2.get (R2.pk 4 ∅) R2.c4;refine⟨(_,_),?_,rfl,pos,_,q,M2.set (R2.pk 4 ∅) (.lst (K.ev++[.tup [.str "look",.int a,.int b,.int (K.bx.getD b.toNat 0)]])),R2.ev _,F2.uk 4⟩;rwa[cE,t0,u,tr,tp,ib,hv,Option.map_none,XU,ZU,if_false,e1,g0,e2,s0,s4,Kc.anew,Kc.up,fA hL]
def Me(K:Kc)(a b v:Int):Kc:=(K.up a { K.A a with pu:=dJ (K.A a).pu b v }).say (.tup [.str "put",.int a,.int b,.int v])
def tD(cK cA:Cl):Fn:=fnU 5 4 (f7 (c8 cK cA) cK cA)
theorem Hh{v:Int}(M:Mm pos c T)(R:Kr cK cA j pos c K p q)(W:Kw K n)(ha:a∈K.ids)(op:(K.A a).op=true)(st:(K.A a).st=none)(hl:K.ev.length<=9000):Wp (tD cK cA [.ref (p 0),.int a,.int b,.int v] T) λr=>r.1=.non/\Nx cK cA j pos c p (Me K a b v) r.2:=by
 have t0:=M.get (R.pk 0 ∅) R.c0;have tr:=M.get (R.pa a ha 0 ∅) (R.a0 a ha);have tp:=M.get (R.pa a ha 2 ∅) (R.a2 a ha);have u:=lY M R ha op st;have hL:K.ev.length<LIM:=by unfold LIM;omega
 have hP:(dI (K.A a).pu).length<LIM:=by unfold LIM dI;rw[QX];have:=(W.pu a ha).1;omega
 have M1:=M.set (R.pa a ha 2 ∅) (.dic (dI (dJ (K.A a).pu b v)));have R1:=R.ap (a:=a) (dJ (K.A a).pu b v);have s0:=M1.get (R1.pk 0 ∅) R1.c0;have s4:=M1.get (R1.pk 4 ∅) R1.c4;refine⟨(_,_),?_,rfl,pos,_,q,M1.set (R1.pk 4 ∅) (.lst (K.ev++[.tup [.str "put",.int a,.int b,.int v]])),R1.ev _,(Fm.refl.ua a 2).uk 4⟩;unfold tD;rw[Ls];rwa[f7,t0,u,tr,tp,hP,if_true,zv,s0,s4,Kc.up,fA hL]
theorem uE:∀l:List (Int×Int),pY (dI l)=some (l.map (·.1))
 |[]=>rfl
 |e::r=>by
  show(pY (dI r)).map (e.1::·)=_;rw[uE r];rfl
theorem vK{l:List (Int×Int)}{b d:Int}(h:d≠b):aZ (iB l b) d=aZ l d:=by
 unfold aZ iB;induction l with
 |nil=>rfl
 |cons e r ih=>
  rw[List.filter_cons];by_cases z:e.1=b;rw[XS ‹z›,Zj,show decide (e.1=d)=false from Xq (by rw[z];exact Ne.symm h)];exact ih;rw[XO ‹z›,Zj,Zj];cases decide (e.1=d);exact ih;rfl
def qK(cA:Cl):Fn:=fnU 2 2 (gC cA)
theorem C5{S:Sto}{tk:Int}(hns:cA.ns.length=6):qj cA (qK cA) [.int tk] S=some (.ref S.length,S++[.ins cA [uI tk,some (.ref (S.length+1)),some (.ref (S.length+2)),some .non,some (.ref (S.length+3)),some (.bl true)],.dic [],.dic [],.lst []]):=by
 rw[Eg,hns];unfold qK;rw[uX];have l1:∀o:O,(S++[o]).length=S.length+1:=λo=>by rw[Z6];rfl
 have l2:∀o o':O,(S++[o,o']).length=S.length+2:=λo o'=>by rw[Z6];rfl
 have l3:∀o o' o2:O,(S++[o,o',o2]).length=S.length+3:=λo o' o2=>by rw[Z6];rfl
 rwa[gC,QR,l1,l2,l3]
def a0(g:Int):Ac:=⟨g,[],[],none,[],true⟩
def dc(K:Kc)(a:Int):Kc:={ K with ids:=K.ids++[a],A:=λx=>if x=a then a0 K.tk else K.A x,ev:=K.ev++[.tup [.str "begin",.int a]] }
def nJ(cK cA:Cl):Fn:=fnU 2 2 (eI (qK cA) cK cA)
theorem DT(hns:cA.ns.length=6)(M:Mm pos c T)(R:Kr cK cA j pos c K p q)(ha:a∉K.ids)(hi:K.ids.length<=9000)(hl:K.ev.length<=9000):Wp (nJ cK cA [.ref (p 0),.int a] T) λr=>r.1=.non/\Nx cK cA j pos c p (dc K a) r.2:=by
 have t0:=M.get (R.pk 0 ∅) R.c0;have t5:=M.get (R.pk 5 ∅) R.c5;have v:=gH (q:=q) ha;have mk:=C5 (cA:=cA) (S:=T) (tk:=K.tk) hns;generalize ho0:O.ins cA [uI K.tk,uR (T.length+1),uR (T.length+2),some .non,uR (T.length+3),some (.bl true)]=o0 at mk;have N1:=M.new (.a j a 0) o0 [];have N2:=N1.new (.a j a 1) (.dic []) [];have N3:=N2.new (.a j a 2) (.dic []) [];have N4:=N3.new (.a j a 3) (.lst []) [];have z1:(T++[o0]).length=T.length+1:=by simp
 have z2:(T++[o0]++[O.dic []]).length=T.length+2:=by simp
 have z3:(T++[o0]++[O.dic []]++[O.dic []]).length=T.length+3:=by simp
 rw[z1,z2,z3]at N4;have eT:T++[o0]++[O.dic []]++[O.dic []]++[O.lst []]=T++[o0,.dic [],.dic [],.lst []]:=by simp
 rw[eT]at N4;generalize R7:dG (dG (dG (dG pos (.a j a 0) T.length) (.a j a 1) (T.length+1)) (.a j a 2) (T.length+2)) (.a j a 3) (T.length+3)=pos4 at N4;generalize hcc:aJ (aJ (aJ (aJ c (.a j a 0) o0) (.a j a 1) (.dic [])) (.a j a 2) (.dic [])) (.a j a 3) (.lst [])=c4 at N4;have pk:∀f,pos4 (.k j f)=pos (.k j f):=λf=>by rw[<-R7];simp[dG]
 have pb:∀x,x≠a->∀f,pos4 (.a j x f)=pos (.a j x f):=λx hx f=>by rw[<-R7];simp[dG,hx]
 have ck:∀f,c4 (.k j f)=c (.k j f):=λf=>by rw[<-hcc];simp[aJ]
 have cb:∀x,x≠a->∀f,c4 (.a j x f)=c (.a j x f):=λx hx f=>by rw[<-hcc];simp[aJ,hx]
 have ne:∀x∈K.ids,x≠a:=λx hx e=>ha (by rw[<-e];exact hx);have N5:=N4.set (s:=.k j 5) (p:=p 5) (by rw[pk];exact R.pk 5 ∅) (.dic (dJ (K.ids.map λa=>((.inl a:Key),U.ref (q a 0))) (.inl a) (.ref T.length)));have N6:=N5.set (s:=.k j 4) (p:=p 4) (by rw[pk];exact R.pk 4 ∅) (.lst (K.ev++[.tup [.str "begin",.int a]]));have ep:dJ (K.ids.map λa=>((.inl a:Key),U.ref (q a 0))) (.inl a) (.ref T.length)=K.ids.map (λa=>((.inl a:Key),U.ref (q a 0)))++[(.inl a,.ref T.length)]:=wc λh=>by
  rw[ZD]at h;let⟨x,hx,e⟩:=ZT.mp h;exact ne x hx (Sum.inl.inj e)
 have s0:=N4.get (s:=.k j 0) (p:=p 0) (by rw[pk];exact R.pk 0 ∅) ((ck 0).trans R.c0);have s5:=N4.get (s:=.k j 5) (p:=p 5) (by rw[pk];exact R.pk 5 ∅) ((ck 5).trans R.c5);have w0:=N5.get (s:=.k j 0) (p:=p 0) (by rw[pk];exact R.pk 0 ∅) (((aB nofun).trans (ck 0)).trans R.c0);have w4:=N5.get (s:=.k j 4) (p:=p 4) (by rw[pk];exact R.pk 4 ∅) (((aB nofun).trans (ck 4)).trans R.c4);have hL:K.ev.length<LIM:=by unfold LIM;omega
 have hK:(K.ids.map λa=>((.inl a:Key),U.ref (q a 0))).length<LIM:=by unfold LIM;rw[QX];omega
 refine⟨(.non,_),?_,rfl,pos4,_,λx f=>if x=a then T.length+f else q x f,N6,⟨λf hf=>by rw[pk];exact R.pk f hf,?_,?_,?_,?_,?_,?_,λx hx f hf=>?_,λx hx=>?_,λx hx=>?_,λx hx=>?_,λx hx=>?_⟩,λs hs=>?_⟩;unfold nJ;rw[uX];rwa[eI,t0,t5,v,XU,ZU,if_false,mk,s0,s5,hK,if_true,w0,w4,fA hL];rw[aB nofun,aB nofun,ck];exact R.c0;rw[aB nofun,aB nofun,ck];exact R.c1;rw[aB nofun,aB nofun,ck];exact R.c2;rw[aB nofun,aB nofun,ck];exact R.c3;rw[bJ];rfl;rw[aB nofun,bJ,ep];show _=O.dic ((K.ids++[a]).map _);rw[List.map_append];congr 2;exact Ze λx hx=>by rw[XS (ne x hx)]
 simp;rcases ZF.mp hx with hx|hx;rw[pb x (ne x hx),XS (ne x hx)];exact R.pa x hx f hf;rw[ZX.mp hx,XO rfl,<-R7];match f,hf with
 |0,_=>simp[dG]
 |1,_=>simp[dG]
 |2,_=>simp[dG]
 |3,_=>simp[dG]
 rw[aB nofun,aB nofun];rcases ZF.mp hx with hx|hx;have:=R.a0 x hx;rw[cb x (ne x hx)];simpa [dc,ne x hx] using this;rw[ZX.mp hx,<-hcc];simp[aJ,dc,a0,stU,<-ho0];rw[aB nofun,aB nofun];rcases ZF.mp hx with hx|hx;have:=R.a1 x hx;rw[cb x (ne x hx)];simpa [dc,ne x hx] using this;rw[ZX.mp hx,<-hcc];simp[aJ,dc,a0,dT];rw[aB nofun,aB nofun];rcases ZF.mp hx with hx|hx;have:=R.a2 x hx;rw[cb x (ne x hx)];simpa [dc,ne x hx] using this;rw[ZX.mp hx,<-hcc];simp[aJ,dc,a0,dI];rw[aB nofun,aB nofun];rcases ZF.mp hx with hx|hx;have:=R.a3 x hx;rw[cb x (ne x hx)];simpa [dc,ne x hx] using this;rw[ZX.mp hx,<-hcc];simp[aJ,dc,a0];rw[<-R7,<-hcc];cases s with
 |k i f=>have:i≠j:=hs;simp[dG,aJ,this]
 |a i x f=>have:i≠j:=hs;simp[dG,aJ,this]
 |x m i=>simp[dG,aJ]
theorem we{κ α:Type}[DecidableEq κ](l:List (κ×α))(k:κ)(v:α):(dJ l k v).length<=l.length+1:=by
 unfold dJ;split;rw[QX];omega;simp
def hold(a:Int)(bs:List Int)(ho:List (Int×Int)):List (Int×Int):=bs.foldl (λh b=>dJ h b a) ho
def de(bs:List Int)(ho:List (Int×Int)):List (Int×Int):=bs.foldl (λh b=>iB h b) ho
def nG(cK cA:Cl):Fn:=fnU 4 2 (fj (c8 cK cA) (jy cK cA) (cW cK) (tF cK cA) cK cA)
def tkB(cK cA:Cl):CS:=dF (c8 cK cA) (jy cK cA) (cW cK) (tF cK cA) cK cA
theorem rX(ha:a∈K.ids){r2:Option U}:∀(bs:List Int) (ho:List (Int×Int)) (c:Pl->O) (T:Sto) (r3:Option U),Mm pos c T->Kr cK cA j pos c { K with ho:=ho } p q->ho.length+bs.length<=90000->
  ∃r3' c' T',dH (λS=>S[q a 3]?=some (.lst ((K.A a).un.map U.int))) (gNm 3) (tkB cK cA) (bs.map U.int) [uR (p 0),uI a,r2,r3] T=some (.nx,[uR (p 0),uI a,r2,r3'],T')/\Mm pos c' T'/\Kr cK cA j pos c' { K with ho:=hold a bs ho } p q/\Fm j pos c pos c'
 |[],ho,c,T,r3,M,R,_=>⟨r3,c,T,fe (M.get (R.pa a ha 3 ∅) (R.a3 a ha)),M,R,Fm.refl⟩
 |b::bs,ho,c,T,r3,M,R,hn=>by
  rw[QK]at hn;have t0:=M.get (R.pk 0 ∅) R.c0;have t3:=M.get (R.pk 3 ∅) R.c3;have hL:(dI ho).length<LIM:=by unfold LIM dI;rw[QX];omega
  have M1:=M.set (R.pk 3 ∅) (.dic (dI (dJ ho b a)));have R1:=R.ho (dJ ho b a);have:=we ho b a;let⟨r3',c',T',e,M2,R2,F2⟩:=rX ha bs (dJ ho b a) _ _ (uI b) M1 R1 ⋯;refine⟨r3',c',T',(gy (M.get (R.pa a ha 3 ∅) (R.a3 a ha)) rfl ?_).trans e,M2,R2,(Fm.refl.uk 3).trans F2⟩;rwa[tkB,dF,t0,t3,hL,if_true,zv]
def js(K:Kc)(a:Int):Str×Kc:=
 if (K.A a).pu=[]then("done",K.end a "done")else
 if (brd K a (K.A a).lk||(brd K a ((K.A a).pu.map (·.1))||Br K a))=true then("falls",K.end a "fall")else
 ("taken",{ K.up a { K.A a with st:=some (K.tk+1),un:=cg ((K.A a).pu.map (·.1)) } with tk:=K.tk+1,ho:=hold a (cg ((K.A a).pu.map (·.1))) K.ho })
theorem Dd(M:Mm pos c T)(R:Kr cK cA j pos c K p q)(W:Kw K n)(ha:a∈K.ids)(op:(K.A a).op=true)(st:(K.A a).st=none)(hl:K.ev.length<=9000)(hh:K.ho.length<=80000):Wp (nG cK cA [.ref (p 0),.int a] T) λr=>r.1=.str (js K a).1/\Nx cK cA j pos c p (js K a).2 r.2:=by
 have t0:=M.get (R.pk 0 ∅) R.c0;have tr:=M.get (R.pa a ha 0 ∅) (R.a0 a ha);have tp:=M.get (R.pa a ha 2 ∅) (R.a2 a ha);have u:=lY M R ha op st;have pl:=(W.pu a ha).1;have ln:(dI (K.A a).pu).length=(K.A a).pu.length:=by unfold dI;rw[QX]
 rw[st]at tr;have h1:∀{d:CS},aT (cH 2 (bA cK (c8 cK cA) (ah 0) (ag (ah 1) aE))) d [uR (p 0),uI a,none,none] T=d [uR (p 0),uI a,uR (q a 0),none] T:=λ{d}=>bF (by rwa[t0,u]);unfold nG js;rw[kZ];unfold fj;rw[h1];by_cases hp:(K.A a).pu=[];rw[XO hp];let⟨⟨u1,T1⟩,e2,rfl,N⟩:=mW (w:="done") M R ha hl;refine⟨(_,_),?_,rfl,N⟩;have z:decide ((((dI (K.A a).pu).length:Nat):Int)=0)=true:=by rw[ln,hp];rfl
 rwa[tr,tp,z,t0,e2];rw[XS hp];have z:decide ((((dI (K.A a).pu).length:Nat):Int)=0)=false:=Xq (by rw[ln];have:=Ya.mpr hp;omega);rw[bF (ρ':=[uR (p 0),uI a,uR (q a 0),none]) (S':=T) (by rwa[tr,tp,z])];let⟨X1,e1⟩:=u9 (a:=a) (xs:=(K.A a).lk) (kf:=λb=>b) (vf:=λ_=>.bl true) M R (R.pa a ha 1 ∅) (R.a1 a ha) nofun nofun (W.lk a ha).1;rw[List.map_id']at e1;let⟨X2,e2⟩:=u9 (a:=a) (xs:=(K.A a).pu) (kf:=λe=>e.1) (vf:=λe=>.int e.2) (M.app X1) R (R.pa a ha 2 ∅) (R.a2 a ha) nofun nofun ⋯;let⟨X3,e3⟩:=E5 ((M.app X1).app X2) R W ha;simp only[ZJ]at e2 e3;have g0:∀Y,(T++Y)[p 0]?=_:=λY=>aK t0;have gr:∀Y,(T++Y)[q a 0]?=_:=λY=>aK tr;have tst:∃Y,(cOr (aG (bA cK (cW cK) (ah 0) (ag (ah 1) (ag (bD cA 1 (ah 2)) aE)))) (cOr (aG (bA cK (cW cK) (ah 0) (ag (ah 1) (ag (bD cA 2 (ah 2)) aE)))) (aG (bA cK (tF cK cA) (ah 0) (ag (ah 1) aE))))) [uR (p 0),uI a,uR (q a 0),none] T=some ((brd K a (K.A a).lk||(brd K a ((K.A a).pu.map (·.1))||Br K a)),T++Y):=by
  cases b1:brd K a (K.A a).lk with
  |true=>rw[b1]at e1;exact⟨X1,by rwa[t0,tr,e1,Bool.true_or]⟩
  |false=>
   rw[b1]at e1;cases b2:brd K a ((K.A a).pu.map (·.1))with
   |true=>rw[b2]at e2;exact⟨X1++X2,by rwa[t0,tr,e1,g0,gr,e2,XA,Bool.true_or]⟩
   |false=>rw[b2]at e2;exact⟨X1++(X2++X3),by rwa[t0,tr,e1,g0,gr,e2,e3,XA]⟩
 let⟨Y,et⟩:=tst;have M1:=M.app Y;have s0:=M1.get (R.pk 0 ∅) R.c0;cases hb:(brd K a (K.A a).lk||(brd K a ((K.A a).pu.map (·.1))||Br K a))with
 |true=>
  rw[XO rfl];rw[hb]at et;let⟨⟨u1,T1⟩,e4,rfl,N⟩:=mW (w:="fall") M1 R ha hl;refine⟨(_,_),?_,rfl,N⟩;have ei:∀{c1 c2:CS},dh (cOr (aG (bA cK (cW cK) (ah 0) (ag (ah 1) (ag (bD cA 1 (ah 2)) aE)))) (cOr (aG (bA cK (cW cK) (ah 0) (ag (ah 1) (ag (bD cA 2 (ah 2)) aE)))) (aG (bA cK (tF cK cA) (ah 0) (ag (ah 1) aE))))) c1 c2 [uR (p 0),uI a,uR (q a 0),none] T=c1 [uR (p 0),uI a,uR (q a 0),none] (T++Y):=λ{c1 c2}=>by rw[jT,et];rfl
  rw[oS,ei];rwa[s0,e4]
 |false=>
  rw[XS QV];rw[hb]at et;rw[bF (ρ':=[uR (p 0),uI a,uR (q a 0),none]) (S':=T++Y) (by rw[jT,et];rfl)];have M2:=M1.set (R.pk 0 ∅) (kO cK p (K.tk+1));have R2:=R.tk (K.tk+1);have s1:=M2.get (R2.pk 0 ∅) R2.c0;have s2:=M2.get (R2.pa a ha 0 ∅) (R2.a0 a ha);have M3:=M2.set (R2.pa a ha 0 ∅) (aO cA (q a) ((K.A a).g) (stU (some (K.tk+1))) (q a 3) ((K.A a).op));have R3:=R2.ao (a:=a) (K.A a).g (some (K.tk+1)) (K.A a).op;have w2:=M3.get (R3.pa a ha 0 ∅) (R3.a0 a ha);have wp:=M3.get (R3.pa a ha 2 ∅) (R3.a2 a ha);rw[gI]at w2 wp;generalize hT3:((T++Y).set (p 0) (kO cK p (K.tk+1))).set (q a 0) (aO cA (q a) ((K.A a).g) (stU (some (K.tk+1))) (q a 3) ((K.A a).op))=T3 at M3 w2 wp;have st':stU (K.A a).st=.non:=by rw[st];rfl
  rw[bF (ρ':=[uR (p 0),uI a,uR (q a 0),none]) (S':=(T++Y).set (p 0) (kO cK p (K.tk+1))) (by rwa[s0])];rw[bF (ρ':=[uR (p 0),uI a,uR (q a 0),none]) (S':=T3) (by rw[<-hT3];rwa[s1,s2,stU])];have es:iX [.ref (q a 2)] T3=some (.ref T3.length,T3++[.lst ((cg ((K.A a).pu.map (·.1))).map U.int)]):=by
   have hlt:((K.A a).pu.map (·.1)).length<64:=by rw[QX];exact pl
   simp only[iX,wp,uE,Q9,hlt,if_true]
  have M4:=M3.new (.a j a 3) (.lst ((cg ((K.A a).pu.map (·.1))).map U.int)) [];have R4:Kr cK cA j (dG pos (.a j a 3) T3.length) (aJ (aJ (aJ c (.k j 0) (kO cK p (K.tk+1))) (.a j a 3) (.lst ((cg ((K.A a).pu.map (·.1))).map U.int))) (.a j a 0) (aO cA (q a) ((K.A a).g) (stU (some (K.tk+1))) T3.length ((K.A a).op))) { K.up a { K.A a with st:=some (K.tk+1),un:=cg ((K.A a).pu.map (·.1)) } with tk:=K.tk+1 } p (λx f=>if x=a/\f=3 then T3.length else q x f):=by
   refine⟨λf hf=>by simpa [dG] using R.pk f hf,by simp[aJ,Kc.up],by simpa [aJ,Kc.up] using R.c1,by simpa [aJ,Kc.up] using R.c2,by simpa [aJ,Kc.up] using R.c3,by simpa [aJ,Kc.up] using R.c4,by simpa [aJ,Kc.up] using R.c5,λx hx f hf=>?_,λx hx=>?_,λx hx=>?_,λx hx=>?_,λx hx=>?_⟩;by_cases e:x=a/\f=3;let⟨rfl,rfl⟩:=e;simp[dG];have:=R.pa x hx f hf;rw[fF (λz=>by cases z;exact e ⟨rfl,rfl⟩),XS e];exact this;by_cases e:x=a;subst e;simp[aJ,Kc.up];have:=R.a0 x hx;simpa [aJ,Kc.up,e] using this;have:=R.a1 x hx;by_cases e:x=a;subst e;simpa [aJ,Kc.up] using this;simpa [aJ,Kc.up,e] using this;have:=R.a2 x hx;by_cases e:x=a;subst e;simpa [aJ,Kc.up] using this;simpa [aJ,Kc.up,e] using this;have:=R.a3 x hx;by_cases e:x=a;subst e;simp[aJ,Kc.up];simpa [aJ,Kc.up,e] using this
  have w4:=M4.get (s:=.a j a 0) (p:=q a 0) (by rw[fF nofun];exact R.pa a ha 0 ∅) ((aB nofun).trans bJ);have M5:=M4.set (s:=.a j a 0) (p:=q a 0) (by rw[fF nofun];exact R.pa a ha 0 ∅) (aO cA (q a) ((K.A a).g) (stU (some (K.tk+1))) T3.length ((K.A a).op));have ec:aJ (aJ (aJ (aJ c (.k j 0) (kO cK p (K.tk+1))) (.a j a 0) (aO cA (q a) ((K.A a).g) (stU (some (K.tk+1))) (q a 3) ((K.A a).op))) (.a j a 3) (.lst ((cg ((K.A a).pu.map (·.1))).map U.int))) (.a j a 0) (aO cA (q a) ((K.A a).g) (stU (some (K.tk+1))) T3.length ((K.A a).op))=aJ (aJ (aJ c (.k j 0) (kO cK p (K.tk+1))) (.a j a 3) (.lst ((cg ((K.A a).pu.map (·.1))).map U.int))) (.a j a 0) (aO cA (q a) ((K.A a).g) (stU (some (K.tk+1))) T3.length ((K.A a).op)):=by
   funext s;by_cases e:s=.a j a 0;subst e;rw[bJ,bJ];rw[aB e,aB e];by_cases e2:s=.a j a 3;subst e2;rw[bJ,bJ];rw[aB e2,aB e2,aB e]
  rw[ec]at M5;rw[bF (ρ':=[uR (p 0),uI a,uR (q a 0),none]) (S':=(T3++[O.lst ((cg ((K.A a).pu.map (·.1))).map U.int)]).set (q a 0) (aO cA (q a) ((K.A a).g) (stU (some (K.tk+1))) T3.length ((K.A a).op))) (by rwa[w2,es,w4])];generalize hT5:(T3++[O.lst ((cg ((K.A a).pu.map (·.1))).map U.int)]).set (q a 0) (aO cA (q a) ((K.A a).g) (stU (some (K.tk+1))) T3.length ((K.A a).op))=T5 at M5;let⟨r3',c',T',el,M6,R6,F6⟩:=rX (K:={ K.up a { K.A a with st:=some (K.tk+1),un:=cg ((K.A a).pu.map (·.1)) } with tk:=K.tk+1 }) (a:=a) (r2:=(uR (q a 0))) ha (cg ((K.A a).pu.map (·.1))) K.ho _ T5 none M5 R4 (by rw[(jk _).length_eq,QX];omega);have v0:=M5.get (R4.pa a ha 0 ∅) (R4.a0 a ha);have v3:=M5.get (R4.pa a ha 3 ∅) (R4.a3 a ha);have eA:({ K.up a { K.A a with st:=some (K.tk+1),un:=cg ((K.A a).pu.map (·.1)) } with tk:=K.tk+1 }:Kc).A a={ K.A a with st:=some (K.tk+1),un:=cg ((K.A a).pu.map (·.1)) }:=XO rfl;rw[eA]at v0 v3 el;have q3:(if a=a/\3=3 then T3.length else q a 3)=T3.length:=XO ⟨rfl,rfl⟩;have q0:(if a=a/\0=3 then T3.length else q a 0)=q a 0:=XS nofun;have q1:(if a=a/\1=3 then T3.length else q a 1)=q a 1:=XS nofun;have q2:(if a=a/\2=3 then T3.length else q a 2)=q a 2:=XS nofun;dsimp only[aO]at v0 v3 el;rw[q3]at v0 v3 el;rw[q0,q1,q2]at v0;have hit:iTp (bD cA 4 (ah 2)) [uR (p 0),uI a,uR (q a 0),none] T5=some ((cg ((K.A a).pu.map (·.1))).map U.int,λS=>S[T3.length]?=some (.lst ((cg ((K.A a).pu.map (·.1))).map U.int)),T5):=Hs (by rwa[v0]) v3;refine⟨(_,T'),?_,rfl,_,_,_,M6,R6,?_⟩;have ef:oQ (iTp (bD cA 4 (ah 2))) (gNm 3) (dF (c8 cK cA) (jy cK cA) (cW cK) (tF cK cA) cK cA) [uR (p 0),uI a,uR (q a 0),none] T5=some (.nx,[uR (p 0),uI a,uR (q a 0),r3'],T'):=by
   unfold oQ;rw[hit];exact el
  rw[bF ef];rfl;exact(((((Fm.refl (j:=j) (pos:=pos) (c:=c)).uk 0).ua a 3).ua a 0).pn (s:=.a j a 3) rfl).trans F6
theorem qZ{T:Sto}{p:Nat}{o:O}(h:T[p]?=some o):T.set p o=T:=by
 refine YT λi=>?_;rw[Zr];split;rename_i e;subst e;rw[XO (Q8.mp h).1,h];rfl
def gh(cK cA:Cl):Fn:=fnU 5 2 (cS (gF cK cA) (jy cK cA) cK cA)
def wrB(cK cA:Cl):CS:=eP (gF cK cA) (jy cK cA) cK cA
theorem Fs{l:Nat}{S:Sto}{ho:List (Int×Int)}{v:Int}{co ck:CE}{ρ:Rho}(h1:co ρ S=some (.ref l,S))(h2:ck ρ S=some (.int b,S))(hl:S[l]?=some (.dic (dI ho)))(hv:aZ ho b=some v):A3 co ck ρ S=some (.int v,S.set l (.dic (dI (iB ho b)))):=by
 unfold A3;rw[h1,Q9];simp only[hl,h2,Q9,HA,lJ,ib,hv,Zi,HC]
def Hf:List Int->Option U->Option U
 |[],r=>r
 |b::bs,_=>Hf bs (uI b)
theorem sI{k0 k3:Nat}{ok:Sto->Prop}{r1 r2 r3:Option U}{fs:List (Option U)}(hf:fs[2]?=some (uR k3))(n0:k0≠k3)(hok:∀Y x,ok Y->ok (Y.set k3 x)):∀(bs:List Int) (ho:List (Int×Int)) (Y:Sto) (r4:Option U),ok Y->Y[k0]?=some (.ins cK fs)->Y[k3]?=some (.dic (dI ho))->bs.Nodup->(∀b∈bs,(aZ ho b).isSome=true)->
  dH ok (gNm 4) (wrB cK cA) (bs.map U.int) [uR k0,r1,r2,r3,r4] Y=some (.nx,[uR k0,r1,r2,r3,Hf bs r4],Y.set k3 (.dic (dI (de bs ho))))
 |[],ho,Y,r4,hy,h0,h3,_,_=>by rw[show de [] ho=ho from rfl,qZ h3];exact fe hy
 |b::bs,ho,Y,r4,hy,h0,h3,nd,hv=>by
  let⟨v,ev⟩:=Zz.mp (hv b QH);have lt:=(Q8.mp h3).1;let⟨nb,nd'⟩:=XQ.mp nd;have ih:=sI (r1:=r1) (r2:=r2) (r3:=r3) hf n0 hok bs (iB ho b) (Y.set k3 (.dic (dI (iB ho b)))) (uI b) (hok _ _ hy) (by rw[ZK n0.symm];exact h0) (by rw[Zr,XO rfl,XO lt]) nd' (λd hd=>by rw[vK (λe=>nb (by rw[<-e];exact hd))];exact hv d (QZ _ hd));rw[List.set_set]at ih;refine(gy hy rfl ?_).trans ih;have F:HY cK 2 (.ref k0,Y)=some (.ref k3,Y):=Ek h0 hf;have e1:=Fs (co:=bD cK 2 (ah 0)) (ck:=ah 4) (ρ:=[uR k0,r1,r2,r3,uI b]) (S:=Y) (by rwa[F]) rfl h3 ev;show(gP (A3 (bD cK 2 (ah 0)) (ah 4))) [uR k0,r1,r2,r3,uI b] Y=_;rwa[e1]
def eM(K:Kc)(a:Int):Str×Kc:=match (K.A a).un with
 |[]=>("",K)
 |b::r=>
  let K':Kc:={ K.up a { K.A a with un:=r } with bx:=K.bx.set b.toNat ((aZ (K.A a).pu b).getD 0),ma:=K.ma.set b.toNat ((K.A a).st.getD 0) }
  if r=[]then("done",Kc.end { K' with ho:=de ((K.A a).pu.map (·.1)) K.ho } a "done")else("written",K')
theorem Bz{st:Int}{r:List Int}(M:Mm pos c T)(R:Kr cK cA j pos c K p q)(W:Kw K n)(ha:a∈K.ids)(op:(K.A a).op=true)(hst:(K.A a).st=some st)(hun:(K.A a).un=b::r)(b0:0<=b)(b1:b<n)(hb:(aZ (K.A a).pu b).isSome=true)(hr:r.length<=900)
  (hh:r=[]->∀d∈(K.A a).pu.map (·.1),(aZ K.ho d).isSome=true) (hl:K.ev.length<=9000):Wp (gh cK cA [.ref (p 0),.int a] T) λs=>s.1=.str (eM K a).1/\Nx cK cA j pos c p (eM K a).2 s.2:=by
 let⟨v,hv⟩:=Zz.mp hb;have t0:=M.get (R.pk 0 ∅) R.c0;have tr:=M.get (R.pa a ha 0 ∅) (R.a0 a ha);have tu:=M.get (R.pa a ha 3 ∅) (R.a3 a ha);have f:=mh M R ha op;rw[hst]at tr;rw[hun,QL]at tu;have M1:=M.set (R.pa a ha 3 ∅) (.lst (r.map U.int));have R1:=R.au (a:=a) r;have s0:=M1.get (R1.pk 0 ∅) R1.c0;have s1:=M1.get (R1.pk 1 ∅) R1.c1;have sr:=M1.get (R1.pa a ha 0 ∅) (R1.a0 a ha);have sp:=M1.get (R1.pa a ha 2 ∅) (R1.a2 a ha);rw[gI]at sr sp;dsimp only at sr;rw[hst]at sr;have M2:=M1.set (R1.pk 1 ∅) (.lst ((K.bx.set b.toNat v).map U.int));have R2:=R1.bx (K.bx.set b.toNat v);have u0:=M2.get (R2.pk 0 ∅) R2.c0;have u2:=M2.get (R2.pk 2 ∅) R2.c2;have ur:=M2.get (R2.pa a ha 0 ∅) (R2.a0 a ha);have e2:({ K.up a { K.A a with un:=r } with bx:=K.bx.set b.toNat v }:Kc).A a={ K.A a with un:=r }:=XO rfl;rw[e2]at ur;dsimp only at ur;rw[hst]at ur;have M3:=M2.set (R2.pk 2 ∅) (.lst ((K.ma.set b.toNat st).map U.int));have R3:=R2.ma (K.ma.set b.toNat st);have w0:=M3.get (R3.pk 0 ∅) R3.c0;have wr:=M3.get (R3.pa a ha 0 ∅) (R3.a0 a ha);have wu:=M3.get (R3.pa a ha 3 ∅) (R3.a3 a ha);have wq:=M3.get (R3.pa a ha 2 ∅) (R3.a2 a ha);have w3:=M3.get (R3.pk 3 ∅) R3.c3;have e3:({ K.up a { K.A a with un:=r } with bx:=K.bx.set b.toNat v,ma:=K.ma.set b.toNat st }:Kc).A a={ K.A a with un:=r }:=XO rfl;rw[e3]at wr wu wq;dsimp only at wr wu wq w3;have hL1:(U.int b::r.map U.int).length<=LIM:=by unfold LIM;simp;omega
 have er:(U.int b::r.map U.int).eraseIdx (Int.toNat 0)=r.map U.int:=rfl;have i1:=Mh (xs:=K.bx) b0 (by rw[W.lb];exact b1);have i2:=Mh (xs:=K.ma) b0 (by rw[W.lm];exact b1);have m1:∀(xs:List Int) (v:Int) (i:Nat),(xs.map U.int).set i (.int v)=(xs.set i v).map U.int:=λxs v i=>by rw[List.map_set]
 have em:eM K a=if r=[]then(("done":Str),Kc.end { ({ K.up a { K.A a with un:=r } with bx:=K.bx.set b.toNat v,ma:=K.ma.set b.toNat st }:Kc)with ho:=de ((K.A a).pu.map (·.1)) K.ho } a "done")else(("written":Str),({ K.up a { K.A a with un:=r } with bx:=K.bx.set b.toNat v,ma:=K.ma.set b.toNat st }:Kc)):=by
  unfold eM;rw[hun];dsimp only;rw[hv,hst];rfl
 rw[em];unfold gh;rw[DG];unfold cS;rw[bF (ρ':=[uR (p 0),uI a,uR (q a 0),none,none]) (S':=T) (by rwa[t0,f])];rw[bF (ρ':=[uR (p 0),uI a,uR (q a 0),none,none]) (S':=T) (by rwa[tr,stU,yz,wQ])];rw[bF (ρ':=[uR (p 0),uI a,uR (q a 0),uI b,none]) (S':=T.set (q a 3) (.lst (r.map U.int))) (by rwa[tr,tu,yw,vD (Int.le_refl 0) nofun hL1 rfl,er])];rw[bF (ρ':=[uR (p 0),uI a,uR (q a 0),uI b,none]) (S':=(T.set (q a 3) (.lst (r.map U.int))).set (p 1) (.lst ((K.bx.set b.toNat v).map U.int))) (by rwa[sr,sp,ib,hv,Zi,s0,s1,Kc.up,i1,m1])];rw[bF (ρ':=[uR (p 0),uI a,uR (q a 0),uI b,none]) (S':=((T.set (q a 3) (.lst (r.map U.int))).set (p 1) (.lst ((K.bx.set b.toNat v).map U.int))).set (p 2) (.lst ((K.ma.set b.toNat st).map U.int))) (by rwa[ur,u0,u2,stU,Kc.up,i2,m1])];generalize hT3:((T.set (q a 3) (.lst (r.map U.int))).set (p 1) (.lst ((K.bx.set b.toNat v).map U.int))).set (p 2) (.lst ((K.ma.set b.toNat st).map U.int))=T3 at *;by_cases h:r=[];rw[XO h];subst h;have z:decide (0<((0:Nat):Int))=false:=rfl;rw[bF (ρ':=[uR (p 0),uI a,uR (q a 0),uI b,none]) (S':=T3) (by rwa[wr,wu,Za,XF,z])];have M4:=M3.set (R3.pk 3 ∅) (.dic (dI (de ((K.A a).pu.map (·.1)) K.ho)));have R4:=R3.ho (de ((K.A a).pu.map (·.1)) K.ho);have n3:p 0≠p 3:=λe=>by have:=M3.inj (.k j 0) (.k j 3) (p 0) (R3.pk 0 ∅) (by rw[e];exact R3.pk 3 ∅);simp at this
 have n2:q a 2≠p 3:=λe=>by have:=M3.inj (.a j a 2) (.k j 3) (q a 2) (R3.pa a ha 2 ∅) (by rw[e];exact R3.pk 3 ∅);simp at this
 have n02:q a 2≠p 0:=λe=>by have:=M3.inj (.a j a 2) (.k j 0) (q a 2) (R3.pa a ha 2 ∅) (by rw[e];exact R3.pk 0 ∅);simp at this
 have lq:q a 2<T3.length:=(Q8.mp wq).1;have eh:sT (bD cA 2 (ah 2)) (gNm 4) (eP (gF cK cA) (jy cK cA) cK cA) [uR (p 0),uI a,uR (q a 0),uI b,none] T3=some (.nx,[uR (p 0),uI a,uR (q a 0),uI b,Hf ((K.A a).pu.map (·.1)) none],T3.set (p 3) (.dic (dI (de ((K.A a).pu.map (·.1)) K.ho)))):=by
  have hi:bD cA 2 (ah 2) [uR (p 0),uI a,uR (q a 0),uI b,none] T3=some (.ref (q a 2),T3):=by rwa[wr]
  have ek:((dI (K.A a).pu).map λe=>kU e.1)=((K.A a).pu.map (·.1)).map U.int:=by unfold dI;rw[ZD,ZD];rfl
  unfold sT;rw[hi,Q9];simp only[wq];refine oy λep=>?_;have key:=sI (cK:=cK) (cA:=cA) (k0:=p 0) (k3:=p 3) (r1:=(uI a)) (r2:=(uR (q a 0))) (r3:=(uI b)) (ok:=λS'=>S'[q a 2]?=some (.fdc ep (dI (K.A a).pu))) (fs:=[uR (p 1),uR (p 2),uR (p 3),uI K.tk,uR (p 4),uR (p 5)]) rfl n3 (λY x hy=>by rw[ZK n2.symm];exact hy) ((K.A a).pu.map (·.1)) K.ho (T3.set (q a 2) (.fdc ep (dI (K.A a).pu))) none (by rw[Zr,XO rfl,XO lq]) (by rw[ZK n02];exact w0) (by rw[ZK n2];exact w3) (W.pu a ha).2.1 (hh rfl);rw[ek];show Option.bind (dH _ _ (wrB cK cA) _ _ _) _=_;rw[key,Q9];have e1:((T3.set (q a 2) (.fdc ep (dI (K.A a).pu))).set (p 3) (.dic (dI (de ((K.A a).pu.map (·.1)) K.ho))))[q a 2]?=some (.fdc ep (dI (K.A a).pu)):=by rw[ZK n2.symm,Zr,XO rfl,XO lq]
  have e2:((T3.set (q a 2) (.fdc ep (dI (K.A a).pu))).set (p 3) (.dic (dI (de ((K.A a).pu.map (·.1)) K.ho)))).set (q a 2) (.dic (dI (K.A a).pu))=T3.set (p 3) (.dic (dI (de ((K.A a).pu.map (·.1)) K.ho))):=by
   rw[List.set_comm _ _ n2,List.set_set];exact qZ (by rw[ZK n2.symm];exact wq)
  simp only[e1,e2]
 rw[bF eh];let⟨⟨u1,T4⟩,e4,rfl,g_,c',q',M5,R5,F5⟩:=mW (w:="done") M4 R4 ha hl;have x0:=M4.get (R4.pk 0 ∅) R4.c0;refine⟨(_,T4),?_,rfl,g_,c',q',M5,R5,(((((Fm.refl (j:=j) (pos:=pos) (c:=c)).ua a 3).uk 1).uk 2).uk 3).trans F5⟩;rwa[x0,e4];rw[XS h];have z:decide (0<((r.length:Nat):Int))=true:=Xz (by have:=Ya.mpr h;omega);refine⟨(_,T3),?_,rfl,pos,_,q,M3,R3,((Fm.refl.ua a 3).uk 1).uk 2⟩;rwa[wr,wu,QX,z]
section
variable{st:List Int}
def nH(cK:Cl):Fn:=fnU 3 3 (hX cK)
def Au(cK:Cl)(k1 k2 k3:Nat)(tk:Int)(k4 k5:Nat):O:=.ins cK [uR k1,uR k2,uR k3,uI tk,uR k4,uR k5]
def Dg(cK:Cl)(N:Nat)(st:List Int):Sto:=[Au cK (N+1) (N+3) (N+4) 0 (N+5) (N+6),.lst (st.map U.int),.lst [.int 0],.lst ((QR st.length (0:Int)).map U.int),.dic [],.lst [],.dic []]
theorem G8(hns:cK.ns.length=6)(hl:st.length<=900){x:U}:qj cK (nH cK) [x,.tup (st.map U.int)] T=some (.ref T.length,T++Dg cK T.length st):=by
 rw[Eg,hns];unfold nH;rw[AM];obtain⟨us,hus⟩:∃us,us=st.map U.int:=⟨_,rfl⟩;have lus:us.length=st.length:=by rw[hus,QX]
 obtain⟨rs,hrs⟩:∃rs,rs=(QR st.length (0:Int)).map U.int:=⟨_,rfl⟩;unfold Dg;rw[<-hus,<-hrs];have mul:∀o1 o2:O,sD (.ref (T.length+2)) (.int us.length) (T++[o1,o2,.lst [.int 0]])=some (.ref (T.length+3),T++[o1,o2,.lst [.int 0],.lst rs]):=λo1 o2=>by
  have g1:(T++[o1,o2,O.lst [U.int 0]])[T.length+2]?=some (.lst [.int 0]):=by rw[ga];rfl
  have g2:(0:Int)<=us.length/\(us.length:Int)<=100000/\[U.int 0].length*(us.length:Int).toNat<=LIM:=by
   refine⟨⋯,⋯,?_⟩;unfold LIM;rw[List.length_singleton];omega
  simp only[sD,g1];rw[XO g2,hrs,List.map_replicate,lus];simp only[XD,List.flatten_replicate_singleton,Z6,QK,XF,ZJ,Zt,Zw]
 have l1:∀o:O,(T++[o]).length=T.length+1:=λo=>by rw[Z6];rfl
 have l2:∀o o':O,(T++[o,o']).length=T.length+2:=λo o'=>by rw[Z6];rfl
 have l4:∀o1 o2 o3 o4:O,(T++[o1,o2,o3,o4]).length=T.length+4:=λo1 o2 o3 o4=>by rw[Z6];rfl
 have l5:∀o1 o2 o3 o4 o5:O,(T++[o1,o2,o3,o4,o5]).length=T.length+5:=λo1 o2 o3 o4 o5=>by rw[Z6];rfl
 have l6:∀o1 o2 o3 o4 o5 o6:O,(T++[o1,o2,o3,o4,o5,o6]).length=T.length+6:=λo1 o2 o3 o4 o5 o6=>by rw[Z6];rfl
 rwa[hX,QR,l1,l2,l4,l5,l6,mul,Au]
def xT(st:List Int):Kc:=⟨st,QR st.length 0,[],0,[],[],λ_=>a0 0⟩
def CH(N f:Nat):Nat:=if f<2 then N+f else N+f+1
theorem KI(hns:cK.ns.length=6)(hl:st.length<=900){x:U}(M:Mm pos c T):Wp (qj cK (nH cK) [x,.tup (st.map U.int)] T) λr=>r.1=.ref T.length/\∃g_ c',Mm g_ c' r.2/\Kr cK cA j g_ c' (xT st) (CH T.length) (λ_ _=>0)/\Fm j pos c g_ c':=by
 refine⟨(_,_),G8 hns hl,rfl,?_⟩;have M1:=M.new (.k j 0) (Au cK (T.length+1) (T.length+3) (T.length+4) 0 (T.length+5) (T.length+6)) [];have M2:=M1.new (.k j 1) (.lst (st.map U.int)) [.lst [.int 0]];have M3:=M2.new (.k j 2) (.lst ((QR st.length (0:Int)).map U.int)) [];have M4:=M3.new (.k j 3) (.dic []) [];have M5:=M4.new (.k j 4) (.lst []) [];have M6:=M5.new (.k j 5) (.dic []) [];have eT:T++[Au cK (T.length+1) (T.length+3) (T.length+4) 0 (T.length+5) (T.length+6)]++[O.lst (st.map U.int),O.lst [.int 0]]++[O.lst ((QR st.length (0:Int)).map U.int)]++[O.dic []]++[O.lst []]++[O.dic []]=T++Dg cK T.length st:=by simp[Dg]
 rw[eT]at M6;refine⟨_,_,M6,⟨λf hf=>?_,?_,?_,?_,?_,?_,?_,λa h=>(nomatch h),λa h=>(nomatch h),λa h=>(nomatch h),λa h=>(nomatch h),λa h=>nomatch h⟩,λs hs=>?_⟩;match f,hf with
 |0,_=>simp[dG,CH]
 |1,_=>simp[dG,CH]
 |2,_=>simp[dG,CH]
 |3,_=>simp[dG,CH]
 |4,_=>simp[dG,CH]
 |5,_=>simp[dG,CH]
 simp[aJ,Au,CH,xT];simp[aJ,xT];simp[aJ,xT];simp[aJ,xT,dI];simp[aJ,xT];simp[aJ,xT];cases s with
 |k i f=>have:i≠j:=hs;simp[dG,aJ,this]
 |a i x f=>simp[dG,aJ]
 |x m i=>simp[dG,aJ]
def Bl(cK:Cl):Fn:=fnU 1 1 (jf cK)
theorem Hj(M:Mm pos c T)(R:Kr cK cA j pos c K p q):Bl cK [.ref (p 0)] T=some (.ref T.length,T++[.lst K.ev]):=by
 have t0:=M.get (R.pk 0 ∅) R.c0;have t4:=M.get (R.pk 4 ∅) R.c4;unfold Bl;rw[uY];rwa[jf,t0,t4]
def Bk(cK:Cl):Fn:=fnU 1 1 (je cK)
theorem Hi(M:Mm pos c T)(R:Kr cK cA j pos c K p q):Bk cK [.ref (p 0)] T=some (.tup (K.bx.map U.int),T):=by
 have t0:=M.get (R.pk 0 ∅) R.c0;have t1:=M.get (R.pk 1 ∅) R.c1;unfold Bk;rw[uY];rwa[je,t0,t1]
def qL(cK:Cl):Fn:=fnU 1 1 (gB cK)
theorem Am(M:Mm pos c T)(R:Kr cK cA j pos c K p q):qL cK [.ref (p 0)] T=some (.int K.tk,T):=by
 have t0:=M.get (R.pk 0 ∅) R.c0;unfold qL;rw[uY];rwa[gB,t0]
def EO(A:Ac):Int×Int:=match A.st with
 |none=>(A.g,1)
 |some t=>(t,0)
def oR(cA:Cl):Fn:=fnU 1 1 (cG cA)
theorem Hr(M:Mm pos c T)(R:Kr cK cA j pos c K p q)(ha:a∈K.ids):oR cA [.ref (q a 0)] T=some (.tup [.int (EO (K.A a)).1,.int (EO (K.A a)).2],T):=by
 have tr:=M.get (R.pa a ha 0 ∅) (R.a0 a ha);unfold oR EO;rw[uY];cases h:(K.A a).st with
 |none=>
  rw[h]at tr;rwa[cG,tr,stU,yz,rW]
 |some t=>
  rw[h]at tr;rwa[cG,tr,stU,yz,wQ]
def dE(K:Kc):List Int:=o9 (K.ids.map λa=>EO (K.A a)) K.ids
def qJ(cK cA:Cl)(z:O):Fn:=fnU 1 1 (gz (oR cA) cK cA z)
theorem Ah{z:O}{l:Nat}(M:Mm pos c T)(R:Kr cK cA j pos c K p q)(hz:T[l]?=some z)(h64:K.ids.length<64):qJ cK cA z [.ref (p 0)] T=some (.ref T.length,T++[.lst ((dE K).map U.int)]):=by
 have t0:=M.get (R.pk 0 ∅) R.c0;have t5:=M.get (R.pk 5 ∅) R.c5;have run:∀ids:List Int,(∀a∈ids,a∈K.ids)->Bp (bA cA (oR cA) (cOp fIx (bD cK 5 (ah 1)) (ah 0)) aE) (.ref (p 0)) ids T=some (ids.map λa=>EO (K.A a),T):=by
  intro ids;induction ids with
  |nil=>intro _;rfl
  |cons a r ih=>
   intro h;have ha:=h a QH;have v:=bb (q:=q) ha;have tr:=M.get (R.pa a ha 0 ∅) (R.a0 a ha);have e:=Hr M R ha;have ec:bA cA (oR cA) (cOp fIx (bD cK 5 (ah 1)) (ah 0)) aE [uI a,uR (p 0)] T=some (.tup [.int (EO (K.A a)).1,.int (EO (K.A a)).2],T):=by rwa[t0,t5,v,tr,e]
   unfold Bp;rw[ec,Q9];simp only[ih λx hx=>h x (QZ _ hx),Q9,QL]
 have kk:∀ids:List Int,pY (ids.map λa=>((.inl a:Key),U.ref (q a 0)))=some ids:=by
  intro ids;induction ids with
  |nil=>rfl
  |cons a r ih=>show(pY _).map (a::·)=_;rw[ih];rfl
 have ef:bD cK 5 (ah 0) [uR (p 0)] T=some (.ref (p 5),T):=by rwa[t0]
 have es:xh z 0 (bD cK 5 (ah 0)) (bA cA (oR cA) (cOp fIx (bD cK 5 (ah 1)) (ah 0)) aE) [uR (p 0)] T=some (.ref T.length,T++[.lst ((dE K).map U.int)]):=by
  unfold xh;rw[ef,Q9];simp only[t5,kk,Q9];rw[XO ⟨h64,l,hz⟩];simp only[List.getElem?_cons_zero,YM,Q9,run K.ids λ_ h=>h];rfl
 unfold qJ;rw[uY];unfold gz;rwa[es]
end
theorem qi{l:List Int}{n:Nat}(nd:l.Nodup)(h:∀b∈l,0<=b/\b<n):l.length<=n:=by
 have:=List.Nodup.length_le_of_subset nd (l₂:=(ZO n).map λi:Nat=>(i:Int)) λb hb=>by
  let⟨h0,h1⟩:=h b hb;exact ZT.mpr ⟨b.toNat,X5.mpr ⋯,⋯⟩
 simpa using this
theorem oX{l:List (Int×Int)}{b:Int}(h:b∈l.map (·.1)):(aZ l b).isSome=true:=by
 cases e:aZ l b with
 |some v=>rfl
 |none=>exact absurd h (my.mp e)
theorem xF{l:List (Int×Int)}{b v d:Int}(h:d∈(dJ l b v).map (·.1)):d=b\/d∈l.map (·.1):=by
 let⟨e,he,rfl⟩:=ZT.mp h;rcases Cb he with z|⟨p,hp,z⟩;exact .inl z;exact .inr (ZT.mpr ⟨p,hp,z⟩)
theorem lW(a:Int):∀(bs:List Int) (ho:List (Int×Int)) (d:Int),aZ (hold a bs ho) d=if d∈bs then some a else aZ ho d
 |[],ho,d=>by simp[hold]
 |b::bs,ho,d=>by
  show aZ (hold a bs (dJ ho b a)) d=_;rw[lW a bs,FU];by_cases h1:d∈bs;rw[XO h1,XO (QZ _ h1)];rw[XS h1];by_cases h2:d=b;rw[XO h2,XO (by rw[h2];exact QH)];rw[XS h2,XS (λz=>(Z8.mp z).elim h2 h1)]
theorem wG(a:Int):∀(bs:List Int) (ho:List (Int×Int)),(hold a bs ho).length<=ho.length+bs.length
 |[],ho=>QQ _
 |b::bs,ho=>by
  show(hold a bs (dJ ho b a)).length<=_;have:=wG a bs (dJ ho b a);have:=we ho b a;rw[QK];omega
theorem mx:∀(bs:List Int) (ho:List (Int×Int)) (d:Int),d∉bs->aZ (de bs ho) d=aZ ho d
 |[],ho,d,_=>rfl
 |b::bs,ho,d,h=>by
  show aZ (de bs (iB ho b)) d=_;rw[mx bs _ d (λz=>h (QZ _ z)),vK (λz=>h (by rw[z];exact QH))]
theorem rM:∀(bs:List Int) (ho:List (Int×Int)),(de bs ho).length<=ho.length
 |[],ho=>QQ _
 |b::bs,ho=>ZP (rM bs (iB ho b)) (List.length_filter_le _ _)
structure Tkn(K:Kc)(a:Int):Prop where
 un:(K.A a).un≠[]
 few:(K.A a).un.length<64
 sub:∀b∈(K.A a).un,b∈(K.A a).pu.map (·.1)
 hld:∀d∈(K.A a).pu.map (·.1),aZ K.ho d=some a
structure Ki(K:Kc)(n:Nat):Prop where
 lb:K.bx.length=n
 lm:K.ma.length=n
 few:n<64
 ids:K.ids.Nodup
 lkn:∀a∈K.ids,(K.A a).lk.Nodup
 lkb:∀a∈K.ids,∀b:Int,b∈(K.A a).lk->0<=b/\b<n
 pun:∀a∈K.ids,((K.A a).pu.map (·.1)).Nodup
 pub:∀a∈K.ids,∀b:Int,b∈(K.A a).pu.map (·.1)->0<=b/\b<n
 tak:∀a∈K.ids,(K.A a).op=true->(K.A a).st.isSome=true->Tkn K a
 hol:(K.ho.length:Int)<=64*K.tk
theorem K1{K K':Kc}(h1:K.bx=K'.bx)(h2:K.ma=K'.ma)(h3:K.ho=K'.ho)(h4:K.tk=K'.tk)(h5:K.ev=K'.ev)(h6:K.ids=K'.ids)(h7:∀x,K.A x=K'.A x):K=K':=by
 cases K;cases K';dsimp only at *;subst h1 h2 h3 h4 h5 h6;congr 1;exact funext h7
section
variable{v:Int}
theorem Ki.w(I:Ki K n):Kw K n where
 lb:=I.lb
 lm:=I.lm
 few:=by have:=I.few;omega
 ids:=I.ids
 lk:=λa ha=>⟨by have:=qi (I.lkn a ha) (I.lkb a ha);have:=I.few;omega,I.lkb a ha⟩
 pu:=λa ha=>⟨by have:=qi (I.pun a ha) (I.pub a ha);rw[QX]at this;have:=I.few;omega,I.pun a ha,λe he=>I.pub a ha e.1 (ZT.mpr ⟨e,he,rfl⟩)⟩
theorem Ki.ev(I:Ki K n)(ev:List U):Ki { K with ev:=ev } n:=⟨I.lb,I.lm,I.few,I.ids,I.lkn,I.lkb,I.pun,I.pub,λa h1 h2 h3=>let t:=I.tak a h1 h2 h3;⟨t.un,t.few,t.sub,t.hld⟩,I.hol⟩
theorem Ki.up(I:Ki K n)(x:Ac)(h1:x.lk.Nodup)(h2:∀b:Int,b∈x.lk->0<=b/\b<n)(h3:(x.pu.map (·.1)).Nodup)(h4:∀b:Int,b∈x.pu.map (·.1)->0<=b/\b<n)
  (h5:x.op=true->x.st.isSome=true->x.un≠[]/\x.un.length<64/\(∀b∈x.un,b∈x.pu.map (·.1))/\∀d∈x.pu.map (·.1),aZ K.ho d=some a):Ki (K.up a x) n:=by
 have at_:∀y,y≠a->(K.up a x).A y=K.A y:=λy hy=>XS hy;refine⟨I.lb,I.lm,I.few,I.ids,λy hy=>?_,λy hy=>?_,λy hy=>?_,λy hy=>?_,λy hy o s=>?_,I.hol⟩;by_cases e:y=a;subst e;rw[gI];exact h1;rw[at_ y e];exact I.lkn y hy;by_cases e:y=a;subst e;rw[gI];exact h2;rw[at_ y e];exact I.lkb y hy;by_cases e:y=a;subst e;rw[gI];exact h3;rw[at_ y e];exact I.pun y hy;by_cases e:y=a;subst e;rw[gI];exact h4;rw[at_ y e];exact I.pub y hy;by_cases e:y=a;subst e;rw[gI]at o s;let⟨z1,z2,z3,z4⟩:=h5 o s;exact⟨by rw[gI];exact z1,by rw[gI];exact z2,by rw[gI];exact z3,by rw[gI];exact z4⟩;rw[at_ y e]at o s;have t:=I.tak y hy o s;exact⟨by rw[at_ y e];exact t.un,by rw[at_ y e];exact t.few,by rw[at_ y e];exact t.sub,by rw[at_ y e];exact t.hld⟩
theorem Ki.end(I:Ki K n)(ha:a∈K.ids)(w:Str):Ki (K.end a w) n:=(I.up { K.A a with op:=false } (I.lkn a ha) (I.lkb a ha) (I.pun a ha) (I.pub a ha) λz=>nomatch z).ev _
theorem Ki.begin(I:Ki K n)(ha:a∉K.ids):Ki (dc K a) n:=by
 have ne:∀y∈K.ids,y≠a:=λy hy e=>ha (by rw[<-e];exact hy);have at_:∀y,y≠a->(dc K a).A y=K.A y:=λy hy=>XS hy;have ata:(dc K a).A a=a0 K.tk:=XO rfl;have sp:∀y∈(dc K a).ids,y∈K.ids\/y=a:=λy hy=>(ZF.mp hy).imp id ZX.mp;refine⟨I.lb,I.lm,I.few,?_,λy hy=>?_,λy hy=>?_,λy hy=>?_,λy hy=>?_,λy hy o s=>?_,I.hol⟩;show(K.ids++[a]).Nodup;rw[List.nodup_append];exact⟨I.ids,nofun,λx hx y hy z=>by rw[ZX.mp hy]at z;exact ne x hx z⟩;rcases sp y hy with h|rfl;rw[at_ y (ne y h)];exact I.lkn y h;rw[ata];exact List.nodup_nil;rcases sp y hy with h|rfl;rw[at_ y (ne y h)];exact I.lkb y h;rw[ata];exact λb hb=>nomatch hb;rcases sp y hy with h|rfl;rw[at_ y (ne y h)];exact I.pun y h;rw[ata];exact List.nodup_nil;rcases sp y hy with h|rfl;rw[at_ y (ne y h)];exact I.pub y h;rw[ata];exact λb hb=>nomatch hb;rcases sp y hy with h|rfl;rw[at_ y (ne y h)]at o s;have t:=I.tak y h o s;exact⟨by rw[at_ y (ne y h)];exact t.un,by rw[at_ y (ne y h)];exact t.few,by rw[at_ y (ne y h)];exact t.sub,by rw[at_ y (ne y h)];exact t.hld⟩;rw[ata]at s;cases s
theorem DY{l:List Int}{b:Int}(h:l.Nodup):(tR l b).Nodup:=by
 unfold tR;split;exact h;rename_i hb;rw[List.nodup_append];exact⟨h,nofun,λx hx y hy z=>by rw[ZX.mp hy]at z;exact hb (by rw[<-z];exact hx)⟩
theorem Bf{l:List Int}{b x:Int}(h:x∈tR l b):x=b\/x∈l:=by
 unfold tR at h;split at h;exact .inr h;rcases ZF.mp h with z|z;exact .inr z;exact .inl (ZX.mp z)
theorem Ki.look(I:Ki K n)(ha:a∈K.ids)(st:(K.A a).st=none)(b0:0<=b)(b1:b<n):Ki (jt K a b).2 n:=by
 unfold jt;split;exact I.ev _;split;exact I.end ha _;refine(I.up { K.A a with g:=if (K.A a).g<K.ma.getD b.toNat 0 then K.tk else(K.A a).g,lk:=tR (K.A a).lk b } (DY (I.lkn a ha)) (λx hx=>?_) (I.pun a ha) (I.pub a ha) λ_ s=>?_).ev _;rcases Bf hx with z|z;subst z;exact⟨b0,b1⟩;exact I.lkb a ha x z;have s':(K.A a).st.isSome=true:=s;rw[st]at s';cases s'
theorem Ki.put(I:Ki K n)(ha:a∈K.ids)(st:(K.A a).st=none)(b0:0<=b)(b1:b<n):Ki (Me K a b v) n:=by
 refine(I.up { K.A a with pu:=dJ (K.A a).pu b v } (I.lkn a ha) (I.lkb a ha) (Gw (I.pun a ha)) (λx hx=>?_) λ_ s=>?_).ev _;rcases xF hx with z|z;subst z;exact⟨b0,b1⟩;exact I.pub a ha x z;have s':(K.A a).st.isSome=true:=s;rw[st]at s';cases s'
theorem Ki.take(I:Ki K n)(ha:a∈K.ids)(st:(K.A a).st=none):Ki (js K a).2 n:=by
 unfold js;split;exact I.end ha _;rename_i hp;split;exact I.end ha _;rename_i hb;have hb2:brd K a ((K.A a).pu.map (·.1))=false:=by
  cases z:brd K a ((K.A a).pu.map (·.1))with
  |false=>rfl
  |true=>rw[z]at hb;simp at hb
 have free:∀d∈(K.A a).pu.map (·.1),(aZ K.ho d).getD a=a:=λd hd=>by
  unfold brd at hb2;have:=List.any_eq_false.mp hb2 d hd;simpa using this
 have pm:=jk ((K.A a).pu.map (·.1));have pl:=(I.w.pu a ha).1;have at_:∀y,y≠a->({ K.up a { K.A a with st:=some (K.tk+1),un:=cg ((K.A a).pu.map (·.1)) } with tk:=K.tk+1,ho:=hold a (cg ((K.A a).pu.map (·.1))) K.ho }:Kc).A y=K.A y:=λy hy=>XS hy;have ata:({ K.up a { K.A a with st:=some (K.tk+1),un:=cg ((K.A a).pu.map (·.1)) } with tk:=K.tk+1,ho:=hold a (cg ((K.A a).pu.map (·.1))) K.ho }:Kc).A a={ K.A a with st:=some (K.tk+1),un:=cg ((K.A a).pu.map (·.1)) }:=XO rfl;refine⟨I.lb,I.lm,I.few,I.ids,λy hy=>?_,λy hy=>?_,λy hy=>?_,λy hy=>?_,λy hy o s=>?_,?_⟩;by_cases e:y=a;subst e;rw[ata];exact I.lkn y hy;rw[at_ y e];exact I.lkn y hy;by_cases e:y=a;subst e;rw[ata];exact I.lkb y hy;rw[at_ y e];exact I.lkb y hy;by_cases e:y=a;subst e;rw[ata];exact I.pun y hy;rw[at_ y e];exact I.pun y hy;by_cases e:y=a;subst e;rw[ata];exact I.pub y hy;rw[at_ y e];exact I.pub y hy;by_cases e:y=a;subst e;refine⟨?_,?_,?_,λd hd=>?_⟩;rw[ata];intro z;have z':cg ((K.A y).pu.map (·.1))=[]:=z;rw[z']at pm;have:=pm.length_eq;rw[XF,QX]at this;exact hp (Zp.mp this.symm);rw[ata];show(cg _).length<64;rw[pm.length_eq,QX];exact pl;rw[ata];exact λb hb=>pm.mem_iff.mp hb;rw[ata]at hd;show aZ (hold y _ K.ho) d=some y;rw[lW,XO (pm.mem_iff.mpr hd)];rw[at_ y e]at o s;have t:=I.tak y hy o s;refine⟨by rw[at_ y e];exact t.un,by rw[at_ y e];exact t.few,by rw[at_ y e];exact t.sub,λd hd=>?_⟩;rw[at_ y e]at hd;show aZ (hold a _ K.ho) d=some y;have hv:=t.hld d hd;rw[lW,XS (λz=>?_)];exact hv;have:=free d (pm.mem_iff.mp z);rw[hv]at this;exact e this;have l1:=wG a (cg ((K.A a).pu.map (·.1))) K.ho;have l2:=pm.length_eq;rw[QX]at l2;have:=I.hol;show((hold a _ K.ho).length:Int)<=64*(K.tk+1);omega
theorem Ki.write(I:Ki K n)(ha:a∈K.ids)(op:(K.A a).op=true)(st:(K.A a).st.isSome=true):Ki (eM K a).2 n:=by
 have t:=I.tak a ha op st;unfold eM;cases hu:(K.A a).un with
 |nil=>exact absurd hu t.un
 |cons b r=>
  dsimp only;have J:∀(x y:List Int),x.length=n->y.length=n->Ki { K with bx:=x,ma:=y } n:=λx y hx hy=>⟨hx,hy,I.few,I.ids,I.lkn,I.lkb,I.pun,I.pub,λa h1 h2 h3=>let t:=I.tak a h1 h2 h3;⟨t.un,t.few,t.sub,t.hld⟩,I.hol⟩;have J1:=J (K.bx.set b.toNat ((aZ (K.A a).pu b).getD 0)) (K.ma.set b.toNat ((K.A a).st.getD 0)) (by rw[Zx];exact I.lb) (by rw[Zx];exact I.lm);by_cases hr:r=[]
  ·rw[XO hr];have J2:=J1.up (a:=a) { K.A a with un:=r,op:=false } (I.lkn a ha) (I.lkb a ha) (I.pun a ha) (I.pub a ha) λz=>nomatch z;have eq:Kc.end { ({ K.up a { K.A a with un:=r } with bx:=K.bx.set b.toNat ((aZ (K.A a).pu b).getD 0),ma:=K.ma.set b.toNat ((K.A a).st.getD 0) }:Kc)with ho:=de ((K.A a).pu.map (·.1)) K.ho } a "done"={ ({ (Kc.up { K with bx:=K.bx.set b.toNat ((aZ (K.A a).pu b).getD 0),ma:=K.ma.set b.toNat ((K.A a).st.getD 0) } a { K.A a with un:=r,op:=false })with ho:=de ((K.A a).pu.map (·.1)) K.ho }:Kc)with ev:=K.ev++[.tup [.str "done",.int a]] }:=by
    refine K1 rfl rfl rfl rfl rfl rfl λx=>?_;by_cases h:x=a<;>simp[Kc.end,Kc.up,h]
   rw[eq];refine Ki.ev (K:={ (Kc.up { K with bx:=K.bx.set b.toNat ((aZ (K.A a).pu b).getD 0),ma:=K.ma.set b.toNat ((K.A a).st.getD 0) } a { K.A a with un:=r,op:=false })with ho:=de ((K.A a).pu.map (·.1)) K.ho }) ⟨J2.lb,J2.lm,J2.few,J2.ids,J2.lkn,J2.lkb,J2.pun,J2.pub,λy hy o s=>?_,?_⟩ _;have ya:y≠a:=λe=>by
    subst e;have:(({ (Kc.up { K with bx:=K.bx.set b.toNat ((aZ (K.A y).pu b).getD 0),ma:=K.ma.set b.toNat ((K.A y).st.getD 0) } y { K.A y with un:=r,op:=false })with ho:=de ((K.A y).pu.map (·.1)) K.ho }:Kc).A y)={ K.A y with un:=r,op:=false }:=XO rfl;rw[this]at o;cases o
   have at_:({ (Kc.up { K with bx:=K.bx.set b.toNat ((aZ (K.A a).pu b).getD 0),ma:=K.ma.set b.toNat ((K.A a).st.getD 0) } a { K.A a with un:=r,op:=false })with ho:=de ((K.A a).pu.map (·.1)) K.ho }:Kc).A y=K.A y:=XS ya;rw[at_]at o s;have t':=I.tak y hy o s;refine⟨by rw[at_];exact t'.un,by rw[at_];exact t'.few,by rw[at_];exact t'.sub,λd hd=>?_⟩;rw[at_]at hd;have hv:=t'.hld d hd;show aZ (de _ K.ho) d=some y;rw[mx _ _ _ λz=>?_];exact hv;have:=t.hld d z;rw[hv]at this;exact ya (Yc this);have:=rM ((K.A a).pu.map (·.1)) K.ho;have:=I.hol;show((de _ K.ho).length:Int)<=64*K.tk;omega
  rw[XS hr];refine J1.up (a:=a) { K.A a with un:=r } (I.lkn a ha) (I.lkb a ha) (I.pun a ha) (I.pub a ha) λ_ _=>⟨hr,?_,λx hx=>?_,t.hld⟩;have:=t.few;rw[hu,QK]at this;show r.length<64;omega
  exact t.sub x (by rw[hu];exact QZ _ hx)
end
inductive Kl where
 |bg (a:Int)|lk (a b:Int)|pt (a b v:Int)|tk (a:Int)|wr (a:Int)
def Kl.u:Kl->U
 |.bg a=>.tup [.str "begin",.int a]
 |.lk a b=>.tup [.str "look",.int a,.int b]
 |.pt a b v=>.tup [.str "put",.int a,.int b,.int v]
 |.tk a=>.tup [.str "take",.int a]
 |.wr a=>.tup [.str "write",.int a]
def Kl.of:Kl->Int
 |.bg a=>a
 |.lk a _=>a
 |.pt a _ _=>a
 |.tk a=>a
 |.wr a=>a
def Ap(K:Kc):Kl->U×Kc
 |.bg a=>(.non,dc K a)
 |.lk a b=>jt K a b
 |.pt a b v=>(.non,Me K a b v)
 |.tk a=>(.str (js K a).1,(js K a).2)
 |.wr a=>(.str (eM K a).1,(eM K a).2)
def P8(K:Kc)(n:Nat):Kl->Prop
 |.bg a=>a∉K.ids
 |.lk a b=>(a∈K.ids/\(K.A a).op=true/\(K.A a).st=none)/\0<=b/\b<n
 |.pt a b _=>(a∈K.ids/\(K.A a).op=true/\(K.A a).st=none)/\0<=b/\b<n
 |.tk a=>a∈K.ids/\(K.A a).op=true/\(K.A a).st=none
 |.wr a=>a∈K.ids/\(K.A a).op=true/\(K.A a).st.isSome=true
structure Kb(K:Kc)(m:Nat):Prop where
 ev:K.ev.length<=m
 tk:K.tk<=m
 ids:K.ids.length<=m
section
variable{m:Nat}{v:Int}{k:Kl}
theorem Ki.call(I:Ki K n)(h:P8 K n k):Ki (Ap K k).2 n:=by
 cases k with
 |bg a=>exact I.begin h
 |lk a b=>exact I.look h.1.1 h.1.2.2 h.2.1 h.2.2
 |pt a b v=>exact I.put h.1.1 h.1.2.2 h.2.1 h.2.2
 |tk a=>exact I.take h.1 h.2.2
 |wr a=>exact I.write h.1 h.2.1 h.2.2
theorem AL{w:Str}(B:Kb K m):Kb (K.end a w) (m+1):=⟨by show(K.ev++[_]).length<=_;have:=B.ev;simp;omega,by show K.tk<=_;have:=B.tk;omega,by show K.ids.length<=_;have:=B.ids;omega⟩
theorem Kb.call(B:Kb K m):Kb (Ap K k).2 (m+1):=by
 have h1:=B.ev;have h2:=B.tk;have h3:=B.ids;cases k with
 |bg a=>exact⟨by show(K.ev++[_]).length<=_;simp;omega,by show K.tk<=_;omega,by show(K.ids++[_]).length<=_;simp;omega⟩
 |lk a b=>
  show Kb (jt K a b).2 _;unfold jt;split;exact⟨by show(K.ev++[_]).length<=_;simp;omega,by show K.tk<=_;omega,by show K.ids.length<=_;omega⟩;split;exact AL B;exact⟨by show(K.ev++[_]).length<=_;simp;omega,by show K.tk<=_;omega,by show K.ids.length<=_;omega⟩
 |pt a b v=>exact⟨by show(K.ev++[_]).length<=_;simp;omega,by show K.tk<=_;omega,by show K.ids.length<=_;omega⟩
 |tk a=>
  show Kb (js K a).2 _;unfold js;split;exact AL B;split;exact AL B;exact⟨by show K.ev.length<=_;omega,by show K.tk+1<=_;omega,by show K.ids.length<=_;omega⟩
 |wr a=>
  show Kb (eM K a).2 _;unfold eM;split;exact⟨by show K.ev.length<=_;omega,by show K.tk<=_;omega,by show K.ids.length<=_;omega⟩;dsimp only;split;exact AL ⟨h1,h2,h3⟩;exact⟨by show K.ev.length<=_;omega,by show K.tk<=_;omega,by show K.ids.length<=_;omega⟩
end
section
variable{i:Nat}
theorem Kr.fm(R:Kr cK cA i pos c K p q)(F:Fm j pos c g_ c')(h:i≠j):Kr cK cA i g_ c' K p q:=by
 have k:∀f,g_ (.k i f)=pos (.k i f)/\c' (.k i f)=c (.k i f):=λf=>F (.k i f) h;have a:∀x f,g_ (.a i x f)=pos (.a i x f)/\c' (.a i x f)=c (.a i x f):=λx f=>F (.a i x f) h;exact⟨λf hf=>by rw[(k f).1];exact R.pk f hf,by rw[(k 0).2];exact R.c0,by rw[(k 1).2];exact R.c1,by rw[(k 2).2];exact R.c2,by rw[(k 3).2];exact R.c3,by rw[(k 4).2];exact R.c4,by rw[(k 5).2];exact R.c5,λx hx f hf=>by rw[(a x f).1];exact R.pa x hx f hf,λx hx=>by rw[(a x 0).2];exact R.a0 x hx,λx hx=>by rw[(a x 1).2];exact R.a1 x hx,λx hx=>by rw[(a x 2).2];exact R.a2 x hx,λx hx=>by rw[(a x 3).2];exact R.a3 x hx⟩
def Fx(pos:Pl->Option Nat)(c:Pl->O)(g_:Pl->Option Nat)(c':Pl->O):Prop:=∀s,(∀f i,s≠.x f i)->g_ s=pos s/\c' s=c s
theorem Kr.fx(R:Kr cK cA i pos c K p q)(F:Fx pos c g_ c'):Kr cK cA i g_ c' K p q:=by
 have k:∀f,g_ (.k i f)=pos (.k i f)/\c' (.k i f)=c (.k i f):=λf=>F (.k i f) λ_ _=>by simp
 have a:∀x f,g_ (.a i x f)=pos (.a i x f)/\c' (.a i x f)=c (.a i x f):=λx f=>F (.a i x f) λ_ _=>by simp
 exact⟨λf hf=>by rw[(k f).1];exact R.pk f hf,by rw[(k 0).2];exact R.c0,by rw[(k 1).2];exact R.c1,by rw[(k 2).2];exact R.c2,by rw[(k 3).2];exact R.c3,by rw[(k 4).2];exact R.c4,by rw[(k 5).2];exact R.c5,λx hx f hf=>by rw[(a x f).1];exact R.pa x hx f hf,λx hx=>by rw[(a x 0).2];exact R.a0 x hx,λx hx=>by rw[(a x 1).2];exact R.a1 x hx,λx hx=>by rw[(a x 2).2];exact R.a2 x hx,λx hx=>by rw[(a x 3).2];exact R.a3 x hx⟩
def Fx.upd{f i:Nat}{o:O}:Fx pos c pos (aJ c (.x f i) o):=λs hs=>⟨rfl,aB (hs f i)⟩
theorem Qo{f i lw:Nat}{z m:Int}(M:Mm pos c T)(hp:pos (.x f i)=some lw)(hc:c (.x f i)=.lst [.int z])(hm:0<m)(hb:m<2^60):∃d z',nE [.ref lw,.int m] T=some (.int d,T.set lw (.lst [.int z']))/\Mm pos (aJ c (.x f i) (.lst [.int z'])) (T.set lw (.lst [.int z']))/\0<=d/\d<m:=by
 have h:=M.get hp hc;refine⟨z % m,z / m,?_,M.set hp _,Int.emod_nonneg _ ⋯,Int.emod_lt_of_pos _ hm⟩;unfold nE;rw[x6];have dv:∀(j:Int) (S:Sto),EX (.int j) (.int m) S=some (.int (j / m),S):=λj S=>IV ⟨hm,l9 ⋯ hb⟩;have md:∀(j:Int) (S:Sto),uS (.int j) (.int m) S=some (.int (j % m),S):=λj S=>yy hm;rwa[k6,h,dv,md]
end
theorem yd{S:Sto}{ci el:CE}{ct:CT}{caps:List Nat}{ρ:Rho}{ld:Nat}{kus:List (Key×U)}{t:Key×U->Bool}{v:Key×U->U}{r:Rho}(hi:ci ρ S=some (.ref ld,S))(hd:S[ld]?=some (.dic kus))(hr:uh 1 caps ρ=none::r)(hl:kus.length<=900)
  (ht:∀ep ys,∀p∈kus,ct (some (kU p.1)::r) (S.set ld (.fdc ep kus)++[.lst ys])=some (t p,S.set ld (.fdc ep kus)++[.lst ys])) (he:∀p∈kus,∀Y,el (some (kU p.1)::r) Y=some (v p,Y)) :
  kC ci (gNm 0) ct el 1 caps ρ S=some (.ref S.length,S++[.lst ((kus.filter t).map v)]):=by
 have lk:ld<S.length:=(Q8.mp hd).1;unfold kC oO;rw[hi,Q9];simp only[hd];refine oy λep=>?_;have ek:∀X:Sto,(S.set ld (.fdc ep kus)++X)[ld]?=some (.fdc ep kus):=λX=>aK (by rw[Zr,XO rfl,XO lk]);have key:∀(ks:List (Key×U)) (ys:List U) (r0:Option U),(∀p∈ks,p∈kus)->ys.length+ks.length<=9999->cu (λS'=>S'[ld]?=some (.fdc ep kus)) (gNm 0) ct el S.length (ks.map λp=>kU p.1) (r0::r) (S.set ld (.fdc ep kus)++[.lst ys])=some (S.set ld (.fdc ep kus)++[.lst (ys++(ks.filter t).map v)]):=by
  intro ks;induction ks with
  |nil=>intro ys r0 _ _;rw[Za,List.filter_nil,Za,Zv];exact yb (ek _)
  |cons p ks ih=>
   intro ys r0 hm hn;rw[QK]at hn;have h1:=ht ep ys p (hm p QH);rw[QL];cases hp:t p with
   |false=>
    rw[hp]at h1;rw[List.filter_cons_of_neg (by rw[hp];exact QV)];exact(AX (ρ0:=some (kU p.1)::r) (S0:=S.set ld (.fdc ep kus)++[.lst ys]) (ek _) rfl h1).trans (ih ys _ (λq hq=>hm q (QZ _ hq)) ⋯)
   |true=>
    rw[hp]at h1;rw[List.filter_cons_of_pos hp,QL];refine(x8 (ρ0:=some (kU p.1)::r) (S0:=S.set ld (.fdc ep kus)++[.lst ys]) (S2:=S.set ld (.fdc ep kus)++[.lst ys]) (x:=v p) (ys:=ys) (ek _) rfl h1 (he p (hm p QH) _) ?_ (by unfold LIM;omega)).trans ?_;have:=ga0 (S:=S.set ld (.fdc ep kus)) (X:=[.lst ys]);rw[Zx]at this;rw[this];rfl;have:=gs0 (S:=S.set ld (.fdc ep kus)) (X:=[.lst ys]) (o:=.lst (ys++[v p]));rw[Zx]at this;rw[this];show cu _ _ _ _ _ _ _ (S.set ld (.fdc ep kus)++[.lst (ys++[v p])])=_;rw[ih (ys++[v p]) _ (λq hq=>hm q (QZ _ hq)) (by simp;omega),ZJ];rfl
 rw[hr,key kus [] none (λp h=>h) (by simp;omega),Q9];have e2:(S.set ld (.fdc ep kus)++[O.lst ([]++(kus.filter t).map v)]).set ld (.dic kus)=S++[.lst ((kus.filter t).map v)]:=by
  rw[XE _ _ (by rw[Zx];exact lk),jW hd,Zw]
 simp only[ek,e2]
inductive AnU:U->Prop where
 |no:AnU .non
 |nu (v:Int):AnU (.tup [.str "number",.int v])
 |fa:AnU (.tup [.str "falls"])
 |wd (w:Str) (h:w∈(["done","falls","taken","written",""]:List Str)):AnU (.str w)
section
variable{k:Kl}
theorem O0:AnU (Ap K k).1:=by
 cases k with
 |bg a=>exact .no
 |lk a b=>
  show AnU (jt K a b).1;unfold jt;split;exact .nu _;split;exact .fa;exact .nu _
 |pt a b v=>exact .no
 |tk a=>
  refine .wd _ ?_;unfold js;repeat' split
  all_goals (dsimp only;decide)
 |wr a=>
  refine .wd _ ?_;unfold eM;split;dsimp only;decide
  ·dsimp only;split<;>(dsimp only;decide)
theorem Aa{w:Str}(h:(PyData.str w).canLay0=true):lU (.tuple [.str w]):=⟨by simp[YY,YW]at h ⊢;exact h,by simp[PyData.depth,YX]⟩
theorem Ae{w:Str}{v:Int}(h:(PyData.str w).canLay0=true):lU (.tuple [.str w,.int v]):=⟨by simp[YY,YW]at h ⊢;exact h,by simp[PyData.depth,YX]⟩
def Hd:lU .none:=⟨by simp[YY],by simp[PyData.depth]⟩
def Ad{w:Str}(h:(PyData.str w).canLay0=true):lU (.str w):=⟨h,by simp[PyData.depth]⟩
theorem ly{w:Str}(h:w∈(["done","falls","taken","written",""]:List Str)):(PyData.str w).canLay0=true:=by
 have:(["done","falls","taken","written",""]:List Str).all (λw=>(PyData.str w).canLay0)=true:=by decide +kernel
 exact List.all_eq_true.mp this w h
def lyn:(PyData.str "number").canLay0=true:=∅
theorem yV{x y:Str}:PyData.eqv (.str x) (.str y)=decide (x=y):=by
 show(x == y)=_;by_cases e:x=y;subst e;simp;rw[Xq e];simpa using e
end
end OQ
namespace OL
open PySem PySem.Spec PyProof.Rows L2 OG OP OQ
structure At where
 g:Int
 lk:List Int
 pu:List (Int×Int)
 lf:List Int
 st:Int
 op:Bool
structure Mo where
 bx:List Int
 ma:List Int
 ck:Int
 ids:List Int
 A:Int->At
 lg:List U
def Mo.up(M:Mo)(a:Int)(v:At):Mo:={ M with A:=λx=>if x=a then v else M.A x }
def mD(ck:Int)(p:Nat->Nat):List (Key×U):=[(.inr "boxes",.ref (p 1)),(.inr "marks",.ref (p 2)),(.inr "clock",.int ck),(.inr "tries",.ref (p 3)),(.inr "log",.ref (p 4))]
def aD(g st:Int)(op:Bool)(r1 r2 r3:Nat):List (Key×U):=[(.inr "glance",.int g),(.inr "looked",.ref r1),(.inr "puts",.ref r2),(.inr "left",.ref r3),(.inr "stamp",.int st),(.inr "open",.bl op)]
variable{x:Int}{p:Nat->Nat}
section
variable{ck g st:Int}{op b:Bool}{r1 r2 r3 y:Nat}
def vB:aZ (mD ck p) (.inr "boxes")=uR (p 1):=rfl
def vM:aZ (mD ck p) (.inr "marks")=uR (p 2):=rfl
def vC:aZ (mD ck p) (.inr "clock")=uI ck:=rfl
def vT:aZ (mD ck p) (.inr "tries")=uR (p 3):=rfl
def vL:aZ (mD ck p) (.inr "log")=uR (p 4):=rfl
def wC:dJ (mD ck p) (.inr "clock") (.int x)=mD x p:=rfl
def lM:(mD ck p).length<LIM:=by unfold LIM;exact ZG rfl
def vg:aZ (aD g st op r1 r2 r3) (.inr "glance")=uI g:=rfl
def vl:aZ (aD g st op r1 r2 r3) (.inr "looked")=uR r1:=rfl
def vp:aZ (aD g st op r1 r2 r3) (.inr "puts")=uR r2:=rfl
def vf:aZ (aD g st op r1 r2 r3) (.inr "left")=uR r3:=rfl
def vs:aZ (aD g st op r1 r2 r3) (.inr "stamp")=uI st:=rfl
def vo:aZ (aD g st op r1 r2 r3) (.inr "open")=some (.bl op):=rfl
def wg:dJ (aD g st op r1 r2 r3) (.inr "glance") (.int x)=aD x st op r1 r2 r3:=rfl
def wf:dJ (aD g st op r1 r2 r3) (.inr "left") (.ref y)=aD g st op r1 r2 y:=rfl
def ws:dJ (aD g st op r1 r2 r3) (.inr "stamp") (.int x)=aD g x op r1 r2 r3:=rfl
def wo:dJ (aD g st op r1 r2 r3) (.inr "open") (.bl b)=aD g st b r1 r2 r3:=rfl
def lA:(aD g st op r1 r2 r3).length<LIM:=by unfold LIM;exact ZG rfl
end
def mK(M:Mo)(p:Nat->Nat)(q:Int->Nat->Nat):Nat->O
 |0=>.dic (mD M.ck p)
 |1=>.lst (M.bx.map U.int)
 |2=>.lst (M.ma.map U.int)
 |3=>.dic (M.ids.map λa=>(.inl a,.ref (q a 0)))
 |_=>.lst M.lg
def mA(A:At)(r:Nat->Nat):Nat->O
 |0=>.dic (aD A.g A.st A.op (r 1) (r 2) (r 3))
 |1=>.lst (A.lk.map U.int)
 |2=>.dic (dI A.pu)
 |_=>.lst (A.lf.map U.int)
structure Mr(j:Nat)(pos:Pl->Option Nat)(c:Pl->O)(M:Mo)(p:Nat->Nat)(q:Int->Nat->Nat):Prop where
 pk:∀f,f<5->pos (.k j f)=some (p f)
 ck:∀f,f<5->c (.k j f)=mK M p q f
 pa:∀a∈M.ids,∀f,f<4->pos (.a j a f)=some (q a f)
 ca:∀a∈M.ids,∀f,f<4->c (.a j a f)=mA (M.A a) (q a) f
variable{j n:Nat}{pos g_:Pl->Option Nat}{c c':Pl->O}{M M':Mo}{q:Int->Nat->Nat}{a b:Int}{o:O}
section
variable{v w:At}
theorem Mr.uk(R:Mr j pos c M p q)(f0:Nat)(hi:M'.ids=M.ids)(hA:M'.A=M.A)(h:∀f,f<5->mK M' p q f=if f=f0 then o else mK M p q f):Mr j pos (aJ c (.k j f0) o) M' p q:=
 ⟨R.pk,λf hf=>by
  rw[h f hf];by_cases e:f=f0;subst e;rw[XO rfl,bJ];rw[XS e,aB (λz=>e (by cases z;rfl))];exact R.ck f hf,λa ha=>R.pa a (by rw[<-hi];exact ha),λa ha f hf=>by rw[aB nofun,hA];exact R.ca a (by rw[<-hi];exact ha) f hf⟩
theorem Mr.ua(R:Mr j pos c M p q)(f0:Nat)(h:∀f,f<4->mA v (q a) f=if f=f0 then o else mA (M.A a) (q a) f):Mr j pos (aJ c (.a j a f0) o) (M.up a v) p q:=
 ⟨R.pk,λf hf=>by
  rw[aB nofun,R.ck f hf];match f,hf with
  |0,_=>rfl
  |1,_=>rfl
  |2,_=>rfl
  |3,_=>rfl
  |4,_=>rfl,R.pa,λx hx f hf=>by
  by_cases e:x=a;subst e;have:(M.up x v).A x=v:=XO rfl;rw[this,h f hf];by_cases e:f=f0;subst e;rw[XO rfl,bJ];rw[XS e,aB (λz=>e (by cases z;rfl))];exact R.ca x hx f hf;have:(M.up a v).A x=M.A x:=XS e;rw[this,aB (λz=>e (by cases z;rfl))];exact R.ca x hx f hf⟩
theorem Mr.fm{i:Nat}(R:Mr j pos c M p q)(F:Fm i pos c g_ c')(h:j≠i):Mr j g_ c' M p q:=
 ⟨λf hf=>by rw[(F (.k j f) h).1];exact R.pk f hf,λf hf=>by rw[(F (.k j f) h).2];exact R.ck f hf,λa ha f hf=>by rw[(F (.a j a f) h).1];exact R.pa a ha f hf,λa ha f hf=>by rw[(F (.a j a f) h).2];exact R.ca a ha f hf⟩
theorem Mr.fx(R:Mr j pos c M p q)(F:Fx pos c g_ c'):Mr j g_ c' M p q:=
 ⟨λf hf=>by rw[(F (.k j f) nofun).1];exact R.pk f hf,λf hf=>by rw[(F (.k j f) nofun).2];exact R.ck f hf,λa ha f hf=>by rw[(F (.a j a f) nofun).1];exact R.pa a ha f hf,λa ha f hf=>by rw[(F (.a j a f) nofun).2];exact R.ca a ha f hf⟩
theorem Pr:(M.up a v).up a w=M.up a w:=by
 unfold Mo.up;congr 1;funext x;by_cases h:x=a<;>simp[h]
def gJ:(M.up a v).A a=v:=XO rfl
def Nm(j:Nat)(pos:Pl->Option Nat)(c:Pl->O)(p:Nat->Nat)(M':Mo)(T':Sto):Prop:=∃g_ c' q',Mm g_ c' T'/\Mr j g_ c' M' p q'/\Fm j pos c g_ c'
def C6(M:Mo)(b o:Int):Bool:=!decide ((M.A o).lf=[])&&((aZ (M.A o).pu b).isSome)
def eL(M:Mo)(a b:Int):Bool:=M.ids.any λo=>!decide (o=a)&&C6 M b o
def hl(M:Mo)(q:Int->Nat->Nat)(p0:Nat)(a b:Int):List Int->Option U->Option U->Nat->Out×Rho×Nat
 |[],r3,r4,n=>(.nx,[uR p0,uI a,uI b,r3,r4],n)
 |o::ks,_,_,n=>if o=a then hl M q p0 a b ks (uI o) (uR (q o 0)) n else if C6 M b o=true then(.rt (.bl true),[uR p0,uI a,uI b,uI o,uR (q o 0)],n+1)else hl M q p0 a b ks (uI o) (uR (q o 0)) (n+1)
theorem Ax{p0:Nat}:∀(ks:List Int) (r3 r4:Option U) (n:Nat),(hl M q p0 a b ks r3 r4 n).1=if (ks.any λo=>!decide (o=a)&&C6 M b o)=true then .rt (.bl true)else .nx
 |[],r3,r4,n=>rfl
 |o::ks,r3,r4,n=>by
  unfold hl;rw[Zn];by_cases h:o=a;rw[XO h,Ax ks];simp[h];rw[XS h];cases hh:C6 M b o with
  |true=>simp[h]
  |false=>simp[h,Ax ks]
end
variable{T:Sto}
abbrev nls(n:Nat):Sto:=QR n (.lst [])
theorem rY{Y:Sto}{t:O}(M1:Mm pos c Y)(p0:pos (.k j 0)=some (p 0))(c0:c (.k j 0)=.dic (mD M.ck p))(p3:Y[p 3]?=some t)(ht:∀a:Int,a∈M.ids->kIx (.int a) Y (some t)=some (.ref (q a 0),Y))(ht':∀(a:Int) n,a∈M.ids->kIx (.int a) (Y++nls n) (some t)=some (.ref (q a 0),Y++nls n))
  (pa:∀a∈M.ids,∀f,f<4->pos (.a j a f)=some (q a f)) (ca:∀x∈M.ids,x≠a->∀f,f<4->c (.a j x f)=mA (M.A x) (q x) f) (ok:Sto->Prop) (hok:∀n,ok (Y++nls n)) :
  ∀(ks:List Int) (r3 r4:Option U) (n:Nat),(∀k∈ks,k∈M.ids)->dH ok (gNm 3) bW (ks.map U.int) [uR (p 0),uI a,uI b,r3,r4] (Y++nls n)=some ((hl M q (p 0) a b ks r3 r4 n).1,(hl M q (p 0) a b ks r3 r4 n).2.1,Y++nls (hl M q (p 0) a b ks r3 r4 n).2.2)
 |[],r3,r4,n,_=>fe (hok n)
 |o::ks,r3,r4,n,hks=>by
  have ho:=hks o QH;have ih:=rY M1 p0 c0 p3 ht ht' pa ca ok hok ks (uI o) (uR (q o 0));have N:=M1.app (nls n);have t0:=N.get p0 c0;have t3:(Y++nls n)[p 3]?=some t:=aK p3;have hi:=ht' o n ho;unfold hl;by_cases e:o=a;rw[XO e];have d1:decide (o=a)=true:=Xz e;refine(gy (hok n) rfl ?_).trans (ih n λk hk=>hks k (QZ _ hk));rwa[bW,t0,vT,t3,hi,d1];rw[XS e];have d1:decide (o=a)=false:=Xq e;have to:(Y++nls n)[q o 0]?=some (.dic (aD (M.A o).g (M.A o).st (M.A o).op (q o 1) (q o 2) (q o 3))):=N.get (pa o ho 0 ∅) (ca o ho e 0 ∅);have tf:(Y++nls n)[q o 3]?=some (.lst ((M.A o).lf.map U.int)):=N.get (pa o ho 3 ∅) (ca o ho e 3 ∅);have tp:(Y++nls n)[q o 2]?=some (.dic (dI (M.A o).pu)):=N.get (pa o ho 2 ∅) (ca o ho e 2 ∅);have e1:Y++nls n++[O.lst []]=Y++nls (n+1):=by rw[ZJ,<-List.replicate_succ']
  have eq:=p5 true (S:=Y++nls n++[.lst []]) (l:=q o 3) (l':=(Y++nls n).length) (ns:=(M.A o).lf) (ms:=[]) (aK tf) (by rw[ga0];rfl);have to':=aK (r:=[O.lst []]) to;have tp':=aK (r:=[O.lst []]) tp;simp only[if_true]at eq;rw[ZJ]at eq to' tp';cases hh:C6 M b o with
  |true=>
   rw[XO rfl];unfold C6 at hh;let⟨h1,h2⟩:=Bool.and_eq_true_iff.mp hh;rw[h1]at eq;refine z7 (hok n) rfl ?_;rw[<-e1];rwa[bW,t0,vT,t3,hi,d1,to,vf,eq,to',vp,tp',ib,Option.isSome_map,h2,ZU,if_false]
  |false=>
   rw[XS QV];refine(gy (hok n) rfl ?_).trans (ih (n+1) λk hk=>hks k (QZ _ hk));rw[<-e1];unfold C6 at hh;cases h1:(!decide ((M.A o).lf=[]))with
   |false=>
    rw[h1]at eq;rwa[bW,t0,vT,t3,hi,d1,to,vf,eq]
   |true=>
    rw[h1]at eq hh;rw[YO]at hh;rwa[bW,t0,vT,t3,hi,d1,to,vf,eq,to',vp,tp',ib,Option.isSome_map,hh,ZU,if_false]
def iA:Fn:=fnU 5 3 jP
def hN(M:Mo)(q:Int->Nat->Nat)(p0:Nat)(a b:Int):Nat:=(hl M q p0 a b M.ids none none 0).2.2
def ES:((M.ids.map λa=>((.inl a:Key),U.ref (q a 0))).map λe=>kU e.1)=M.ids.map U.int:=by rw[ZD];rfl
theorem wR{Y:Sto}(M1:Mm pos c Y)(pk:∀f,f<5->pos (.k j f)=some (p f))(ck:∀f,f<5->c (.k j f)=mK M p q f)
  (pa:∀a∈M.ids,∀f,f<4->pos (.a j a f)=some (q a f)) (ca:∀x∈M.ids,x≠a->∀f,f<4->c (.a j x f)=mA (M.A x) (q x) f) :
  iA [.ref (p 0),.int a,.int b] Y=some (.bl (eL M a b),Y++nls (hN M q (p 0) a b)):=by
 have t0:Y[p 0]?=some (.dic (mD M.ck p)):=M1.get (pk 0 ∅) (ck 0 ∅);have t3:Y[p 3]?=some (.dic (M.ids.map λa=>(.inl a,.ref (q a 0)))):=M1.get (pk 3 ∅) (ck 3 ∅);have l3:=(Q8.mp t3).1;have hi:cOp fIx (ah 0) (cC (.str "tries")) [uR (p 0),uI a,uI b,none,none] Y=some (.ref (p 3),Y):=by rwa[t0,vT]
 have ef:sT (cOp fIx (ah 0) (cC (.str "tries"))) (gNm 3) bW [uR (p 0),uI a,uI b,none,none] Y=some ((hl M q (p 0) a b M.ids none none 0).1,(hl M q (p 0) a b M.ids none none 0).2.1,Y++nls (hN M q (p 0) a b)):=by
  unfold sT;rw[hi,Q9];simp only[t3,ES];refine oy λep=>?_;have M2:=M1.set (pk 3 ∅) (.fdc ep (M.ids.map λa=>(.inl a,.ref (q a 0))));have e3:(Y.set (p 3) (O.fdc ep (M.ids.map λa=>(.inl a,.ref (q a 0)))))[p 3]?=some (.fdc ep (M.ids.map λa=>(.inl a,.ref (q a 0)))):=by rw[Zr,XO rfl,XO l3]
  have key:=rY (b:=b) (ok:=λS'=>S'[p 3]?=some (.fdc ep (M.ids.map λa=>(.inl a,.ref (q a 0))))) M2 (pk 0 ∅) ((aB nofun).trans (ck 0 ∅)) e3 (λa ha=>by rw[Bx,Bw,Q9,bb ha];rfl) (λa n ha=>by rw[Bx,Bw,Q9,bb ha];rfl) pa (λx hx hxa f hf=>(aB nofun).trans (ca x hx hxa f hf)) (λn=>aK e3) M.ids none none 0 λ_ h=>h;rw[show nls 0=[]from rfl,Zv]at key;rw[key,Q9];have e4:(Y.set (p 3) (O.fdc ep (M.ids.map λa=>(.inl a,.ref (q a 0))))++nls (hl M q (p 0) a b M.ids none none 0).2.2)[p 3]?=some (.fdc ep (M.ids.map λa=>(.inl a,.ref (q a 0)))):=aK e3;simp only[e4];rw[XE _ _ (by rw[Zx];exact l3),jW t3];rfl
 unfold iA;rw[DD];unfold jP eL;have ho:=Ax (M:=M) (q:=q) (a:=a) (b:=b) (p0:=p 0) M.ids none none 0;cases hm:M.ids.any λo=>!decide (o=a)&&C6 M b o with
 |true=>
  rw[hm,XO rfl]at ho;rw[ho]at ef;rwa[ef]
 |false=>
  rw[hm,XS QV]at ho;rw[ho]at ef;rwa[ef]
theorem Az(M1:Mm pos c T)(R:Mr j pos c M p q):iA [.ref (p 0),.int a,.int b] T=some (.bl (eL M a b),T++nls (hN M q (p 0) a b)):=wR M1 R.pk R.ck R.pa λx hx _=>R.ca x hx
def jR:Fn:=fnU 4 2 (i9 iA)
def eV(M:Mo)(a:Int):Bool:=!((M.A a).lk.any λb=>eL M a b||decide ((M.A a).g<M.ma.getD b.toNat 0))
theorem vR(M1:Mm pos c T)(R:Mr j pos c M p q)(ha:a∈M.ids)(hl:(M.A a).lk.length<=900)(hb:∀b∈(M.A a).lk,0<=b/\b<M.ma.length):∃X,jR [.ref (p 0),.int a] T=some (.bl (eV M a),T++X):=by
 have t0:∀X,(T++X)[p 0]?=some (.dic (mD M.ck p)):=λX=>(M1.app X).get (R.pk 0 ∅) (R.ck 0 ∅);have t2:∀X,(T++X)[p 2]?=some (.lst (M.ma.map U.int)):=λX=>(M1.app X).get (R.pk 2 ∅) (R.ck 2 ∅);have t3:T[p 3]?=some (.dic (M.ids.map λa=>(.inl a,.ref (q a 0)))):=M1.get (R.pk 3 ∅) (R.ck 3 ∅);have to:∀X,(T++X)[q a 0]?=some (.dic (aD (M.A a).g (M.A a).st (M.A a).op (q a 1) (q a 2) (q a 3))):=λX=>(M1.app X).get (R.pa a ha 0 ∅) (R.ca a ha 0 ∅);have tl:∀X,(T++X)[q a 1]?=some (.lst ((M.A a).lk.map U.int)):=λX=>(M1.app X).get (R.pa a ha 1 ∅) (R.ca a ha 1 ∅);have h0:=t0 [];have h1:=to [];have h2:=tl [];rw[Zv]at h0 h1 h2;have vi:=bb (q:=q) ha;have key:Wp (dH (λS=>S[q a 1]?=some (.lst ((M.A a).lk.map U.int))) (gNm 3) (bY iA) ((M.A a).lk.map U.int) [uR (p 0),uI a,uR (q a 0),none] T) λr=>∃X,r.2.2=T++X/\((eV M a=true/\r.1=.nx)\/(eV M a=false/\r.1=.rt (.bl false))):=by
  refine Jm (f:=U.int) (I:=λbs ρ S=>(∀b∈bs,b∈(M.A a).lk)/\eV M a=!(bs.any λb=>eL M a b||decide ((M.A a).g<M.ma.getD b.toNat 0))/\∃r X,ρ=[uR (p 0),uI a,uR (q a 0),r]/\S=T++X) ?_ ?_ _ _ _ ⟨λ_ h=>h,rfl,none,[],rfl,nofun⟩;rintro ρ S ⟨_,h,r,X,rfl,rfl⟩;exact⟨tl X,X,rfl,.inl ⟨h,rfl⟩⟩;rintro b bs ρ S ⟨hs,h,r,X,rfl,rfl⟩;refine⟨tl X,.of rfl ?_⟩;let⟨b0,b1⟩:=hb b (hs b QH);have eh:=Az (a:=a) (b:=b) (M1.app X) R;have am:=E9 (xs:=M.ma) b0 b1;rw[ZJ]at eh;rw[Zn]at h;have z0:=t0 (X++nls (hN M q (p 0) a b));have z2:=t2 (X++nls (hN M q (p 0) a b));have zo:=to (X++nls (hN M q (p 0) a b));dsimp only;cases hh:eL M a b with
  |true=>
   rw[hh]at eh h;refine .of (r:=(.rt (.bl false),[uR (p 0),uI a,uR (q a 0),uI b],T++(X++nls (hN M q (p 0) a b)))) ?_ (.inr ⟨_,rfl,_,rfl,.inr ⟨by simpa using h,rfl⟩⟩);rwa[bY,eh]
  |false=>
   rw[hh]at eh h;cases hg:decide ((M.A a).g<M.ma.getD b.toNat 0)with
   |true=>
    rw[hg]at h;refine .of (r:=(.rt (.bl false),[uR (p 0),uI a,uR (q a 0),uI b],T++(X++nls (hN M q (p 0) a b)))) ?_ (.inr ⟨_,rfl,_,rfl,.inr ⟨by simpa using h,rfl⟩⟩);rwa[bY,eh,z0,vM,z2,am,zo,vg,hg]
   |false=>
    rw[hg]at h;refine .of (r:=(.nx,[uR (p 0),uI a,uR (q a 0),uI b],T++(X++nls (hN M q (p 0) a b)))) ?_ (.inl ⟨rfl,λb hb=>hs b (QZ _ hb),by simpa using h,_,_,rfl,rfl⟩);rwa[bY,eh,z0,vM,z2,am,zo,vg,hg]
 let⟨⟨out,ρ',S'⟩,e,X,e1,e2⟩:=key;dsimp only at e1 e2;subst e1;refine⟨X,?_⟩;have hi:iTp (cOp fIx (ah 2) (cC (.str "looked"))) [uR (p 0),uI a,uR (q a 0),none] T=some ((M.A a).lk.map U.int,λS=>S[q a 1]?=some (.lst ((M.A a).lk.map U.int)),T):=Hs (by rwa[h1,vl]) h2;have ef:oQ (iTp (cOp fIx (ah 2) (cC (.str "looked")))) (gNm 3) (bY iA) [uR (p 0),uI a,uR (q a 0),none] T=some (out,ρ',T++X):=by
  unfold oQ;rw[hi];exact e
 unfold jR;rw[kZ];unfold i9;rcases e2 with⟨e2,rfl⟩|⟨e2,rfl⟩;rw[e2];rwa[h0,vT,t3,vi,ef];rw[e2];rwa[h0,vT,t3,vi,ef]
section
variable{v w:At}{u:U}
theorem Mr.t0(R:Mr j pos c M p q)(M1:Mm pos c T):T[p 0]?=some (.dic (mD M.ck p)):=M1.get (R.pk 0 ∅) (R.ck 0 ∅)
theorem Mr.t1(R:Mr j pos c M p q)(M1:Mm pos c T):T[p 1]?=some (.lst (M.bx.map U.int)):=M1.get (R.pk 1 ∅) (R.ck 1 ∅)
theorem Mr.t2(R:Mr j pos c M p q)(M1:Mm pos c T):T[p 2]?=some (.lst (M.ma.map U.int)):=M1.get (R.pk 2 ∅) (R.ck 2 ∅)
theorem Mr.t3(R:Mr j pos c M p q)(M1:Mm pos c T):T[p 3]?=some (.dic (M.ids.map λa=>(.inl a,.ref (q a 0)))):=M1.get (R.pk 3 ∅) (R.ck 3 ∅)
theorem Mr.t4(R:Mr j pos c M p q)(M1:Mm pos c T):T[p 4]?=some (.lst M.lg):=M1.get (R.pk 4 ∅) (R.ck 4 ∅)
theorem Mr.ao(R:Mr j pos c M p q)(M1:Mm pos c T)(ha:a∈M.ids):T[q a 0]?=some (.dic (aD (M.A a).g (M.A a).st (M.A a).op (q a 1) (q a 2) (q a 3))):=M1.get (R.pa a ha 0 ∅) (R.ca a ha 0 ∅)
theorem Mr.al(R:Mr j pos c M p q)(M1:Mm pos c T)(ha:a∈M.ids):T[q a 1]?=some (.lst ((M.A a).lk.map U.int)):=M1.get (R.pa a ha 1 ∅) (R.ca a ha 1 ∅)
theorem Mr.ap(R:Mr j pos c M p q)(M1:Mm pos c T)(ha:a∈M.ids):T[q a 2]?=some (.dic (dI (M.A a).pu)):=M1.get (R.pa a ha 2 ∅) (R.ca a ha 2 ∅)
theorem Mr.af(R:Mr j pos c M p q)(M1:Mm pos c T)(ha:a∈M.ids):T[q a 3]?=some (.lst ((M.A a).lf.map U.int)):=M1.get (R.pa a ha 3 ∅) (R.ca a ha 3 ∅)
theorem Mr.say(R:Mr j pos c M p q)(lg:List U):Mr j pos (aJ c (.k j 4) (.lst lg)) { M with lg:=lg } p q:=R.uk 4 rfl rfl λf hf=>by
 match f,hf with
 |0,_=>rfl
 |1,_=>rfl
 |2,_=>rfl
 |3,_=>rfl
 |4,_=>rfl
theorem Mr.sO(R:Mr j pos c M p q)(g st:Int)(op:Bool):Mr j pos (aJ c (.a j a 0) (.dic (aD g st op (q a 1) (q a 2) (q a 3)))) (M.up a { M.A a with g:=g,st:=st,op:=op }) p q:=R.ua 0 λf hf=>by
 match f,hf with
 |0,_=>rfl
 |1,_=>rfl
 |2,_=>rfl
 |3,_=>rfl
def Mo.say(M:Mo)(e:U):Mo:={ M with lg:=M.lg++[e] }
def C7(M:Mo)(a:Int)(w:Str):Mo:=(M.up a { M.A a with op:=false }).say (.tup [.str w,.int a])
def lp:Fn:=fnU 4 4 jd
theorem ky{w:Str}(M1:Mm pos c T)(R:Mr j pos c M p q)(ha:a∈M.ids)(hl:M.lg.length<=9000):Wp (lp [.ref (p 0),.int a,.str w,u] T) λr=>r.1=u/\Nm j pos c p (C7 M a w) r.2:=by
 have t0:=R.t0 M1;have t3:=R.t3 M1;have to:=R.ao M1 ha;have vi:=bb (q:=q) ha;have M2:=M1.set (R.pa a ha 0 ∅) (.dic (aD (M.A a).g (M.A a).st false (q a 1) (q a 2) (q a 3)));have R2:=R.sO (a:=a) (M.A a).g (M.A a).st false;have s0:=R2.t0 M2;have s4:=R2.t4 M2;have hL:M.lg.length<LIM:=by unfold LIM;omega
 refine⟨(u,_),?_,rfl,pos,_,q,M2.set (R2.pk 4 ∅) (.lst (M.lg++[.tup [.str w,.int a]])),R2.say _,(Fm.refl.ua a 0).uk 4⟩;unfold lp;rw[ON];rwa[jd,t0,vT,t3,vi,to,lA,if_true,wo,s0,vL,s4,Mo.up,fA hL]
def rK(M:Mo)(a b:Int):Mo:=M.up a { M.A a with g:=if (M.A a).g<M.ma.getD b.toNat 0 then M.ck else(M.A a).g,lk:=(M.A a).lk++[b] }
def mQ(M:Mo)(a b:Int):U×Mo:=match aZ (M.A a).pu b with
 |some v=>(.tup [.str "number",.int v],M.say (.tup [.str "look",.int a,.int b,.int v]))
 |none=>if (eL M a b||(decide ((M.A a).g<M.ma.getD b.toNat 0)&&!eV M a))=true then(.tup [.str "falls"],C7 M a "fall")else(.tup [.str "number",.int (M.bx.getD b.toNat 0)],(rK M a b).say (.tup [.str "look",.int a,.int b,.int (M.bx.getD b.toNat 0)]))
def vq:Fn:=fnU 5 3 (hV iA jR lp)
structure Mw(M:Mo)(n:Nat):Prop where
 lb:M.bx.length=n
 lm:M.ma.length=n
 few:n<=900
 lk:∀a∈M.ids,(M.A a).lk.length<=900/\∀b∈(M.A a).lk,0<=b/\b<n
 pu:∀a∈M.ids,(M.A a).pu.length<64/\((M.A a).pu.map (·.1)).Nodup
theorem CU(M1:Mm pos c T)(R:Mr j pos c M p q)(W:Mw M n)(ha:a∈M.ids)(b0:0<=b)(b1:b<n)(hl:M.lg.length<=9000)(hk:(M.A a).lk.length<=800):Wp (vq [.ref (p 0),.int a,.int b] T) λr=>r.1=(mQ M a b).1/\Nm j pos c p (mQ M a b).2 r.2:=by
 have t0:∀X,(T++X)[p 0]?=_:=λX=>R.t0 (M1.app X);have t1:=R.t1 M1;have t2:∀X,(T++X)[p 2]?=_:=λX=>R.t2 (M1.app X);have t3:=R.t3 M1;have t4:=R.t4 M1;have to:∀X,(T++X)[q a 0]?=_:=λX=>R.ao (M1.app X) ha;have tp:=R.ap M1 ha;have vi:=bb (q:=q) ha;have ab:=E9 (xs:=M.bx) b0 (by rw[W.lb];exact b1);have am:=E9 (xs:=M.ma) b0 (by rw[W.lm];exact b1);have hL:M.lg.length<LIM:=by unfold LIM;omega
 have z0:=t0 [];have zo:=to [];rw[Zv]at z0 zo;unfold vq mQ;rw[DD];cases hv:aZ (M.A a).pu b with
 |some v=>
  refine⟨(_,_),?_,rfl,pos,_,q,M1.set (R.pk 4 ∅) (.lst (M.lg++[.tup [.str "look",.int a,.int b,.int v]])),R.say _,Fm.refl.uk 4⟩;rwa[hV,z0,vT,t3,vi,vB,t1,ab,zo,vp,tp,ib,hv,Zi,ZI,ZU,if_false,vL,t4,fA hL]
 |none=>
  have eh:=Az (a:=a) (b:=b) M1 R;generalize nls (hN M q (p 0) a b)=X1 at eh;let⟨X2,es⟩:=vR (M1.app X1) R ha (W.lk a ha).1 (by rw[W.lm];exact(W.lk a ha).2);rw[ZJ]at es;have y0:=t0 X1;have y2:=t2 X1;have yo:=to X1;dsimp only;have tst:∃X,(cOr (aG (cCB iA (ag (ah 0) (ag (ah 1) (ag (ah 2) aE))))) (A4 (aG (cOp fGt (cOp fIx (cOp fIx (ah 0) (cC (.str "marks"))) (ah 2)) (cOp fIx (ah 3) (cC (.str "glance"))))) (sS (aG (cCB jR (ag (ah 0) (ag (ah 1) aE))))))) [uR (p 0),uI a,uI b,uR (q a 0),uI (M.bx.getD b.toNat 0)] T=some ((eL M a b||(decide ((M.A a).g<M.ma.getD b.toNat 0)&&!eV M a)),T++X):=by
   cases h1:eL M a b with
   |true=>rw[h1]at eh;exact⟨X1,by rwa[eh,Bool.true_or]⟩
   |false=>
    rw[h1]at eh;cases h2:decide ((M.A a).g<M.ma.getD b.toNat 0)with
    |false=>exact⟨X1,by rwa[eh,y0,vM,y2,am,yo,vg,h2,XA,YQ]⟩
    |true=>
     cases h3:eV M a with
     |true=>rw[h3]at es;exact⟨X1++X2,by rwa[eh,y0,vM,y2,am,yo,vg,h2,es,XA,YO,X0]⟩
     |false=>rw[h3]at es;exact⟨X1++X2,by rwa[eh,y0,vM,y2,am,yo,vg,h2,es,XA,YO,XT]⟩
  let⟨X,et⟩:=tst;have M2:=M1.app X;have x0:=t0 X;have x2:=t2 X;have xo:=to X;have x3:=R.t3 M2;have xl:=R.al M2 ha;have x4:=R.t4 M2;unfold hV;rw[bF (ρ':=[uR (p 0),uI a,uI b,uR (q a 0),none]) (S':=T) (by rwa[z0,vT,t3,vi])];rw[bF (ρ':=[uR (p 0),uI a,uI b,uR (q a 0),uI (M.bx.getD b.toNat 0)]) (S':=T) (by rwa[z0,vB,t1,ab])];have ei:∀{c1 c2:CS},dh (aG (cOp (fIn false) (ah 2) (cOp fIx (ah 3) (cC (.str "puts"))))) c1 c2 [uR (p 0),uI a,uI b,uR (q a 0),uI (M.bx.getD b.toNat 0)] T=c2 [uR (p 0),uI a,uI b,uR (q a 0),uI (M.bx.getD b.toNat 0)] T:=λ{c1 c2}=>by
   rwa[zo,vp,tp,ib,hv,Option.map_none,XU,ZU,if_false]
  cases hb:(eL M a b||(decide ((M.A a).g<M.ma.getD b.toNat 0)&&!eV M a))with
  |true=>
   rw[hb]at et;rw[XO rfl];let⟨⟨u1,T1⟩,e4,rfl,N⟩:=ky (w:="fall") (u:=.tup [.str "falls"]) M2 R ha hl;refine⟨(_,T1),?_,rfl,N⟩;rw[oS,ei,jT,et];rwa[e4]
  |false=>
   rw[hb]at et;rw[XS QV];have hK:((M.A a).lk.map U.int).length<LIM:=by unfold LIM;rw[QX];omega
   have mL:(M.A a).lk.map U.int++[.int b]=((M.A a).lk++[b]).map U.int:=by rw[List.map_append];rfl
   by_cases hg:(M.A a).g<M.ma.getD b.toNat 0;have hd:decide ((M.A a).g<M.ma.getD b.toNat 0)=true:=Xz hg;have M3:=M2.set (R.pa a ha 0 ∅) (.dic (aD M.ck (M.A a).st (M.A a).op (q a 1) (q a 2) (q a 3)));have R3:=R.sO (a:=a) M.ck (M.A a).st (M.A a).op;have s0:=R3.t0 M3;have s4:=R3.t4 M3;have so:=R3.ao M3 ha;have sl:=R3.al M3 ha;rw[gJ]at so sl;have M4:=M3.set (R3.pa a ha 1 ∅) (.lst (((M.A a).lk++[b]).map U.int));have R4:Mr j pos (aJ (aJ c (.a j a 0) (.dic (aD M.ck (M.A a).st (M.A a).op (q a 1) (q a 2) (q a 3)))) (.a j a 1) (.lst (((M.A a).lk++[b]).map U.int))) (rK M a b) p q:=by
    have:=R3.ua (a:=a) (v:={ M.A a with g:=M.ck,lk:=(M.A a).lk++[b] }) (o:=.lst (((M.A a).lk++[b]).map U.int)) 1 λf hf=>by
     rw[gJ];match f,hf with
     |0,_=>rfl
     |1,_=>rfl
     |2,_=>rfl
     |3,_=>rfl
    rw[Pr]at this;unfold rK;rw[XO hg];exact this
   have w0:=R4.t0 M4;have w4:=R4.t4 M4;refine⟨(_,_),?_,rfl,pos,_,q,M4.set (R4.pk 4 ∅) (.lst (M.lg++[.tup [.str "look",.int a,.int b,.int (M.bx.getD b.toNat 0)]])),R4.say _,((Fm.refl.ua a 0).ua a 1).uk 4⟩;rw[bF (ρ':=[uR (p 0),uI a,uI b,uR (q a 0),uI (M.bx.getD b.toNat 0)]) (S':=((T++X).set (q a 0) (.dic (aD M.ck (M.A a).st (M.A a).op (q a 1) (q a 2) (q a 3)))).set (q a 1) (.lst (((M.A a).lk++[b]).map U.int))) (by
    rw[ei,jT,et];rwa[x0,vM,x2,am,xo,vg,hd,vC,lA,if_true,wg,so,vl,sl,fA hK,mL])]
   rwa[w0,vL,w4,rK,Mo.up,fA hL];have hd:decide ((M.A a).g<M.ma.getD b.toNat 0)=false:=Xq hg;have M4:=M2.set (R.pa a ha 1 ∅) (.lst (((M.A a).lk++[b]).map U.int));have R4:Mr j pos (aJ c (.a j a 1) (.lst (((M.A a).lk++[b]).map U.int))) (rK M a b) p q:=by
    have:=R.ua (a:=a) (v:={ M.A a with lk:=(M.A a).lk++[b] }) (o:=.lst (((M.A a).lk++[b]).map U.int)) 1 λf hf=>by
     match f,hf with
     |0,_=>rfl
     |1,_=>rfl
     |2,_=>rfl
     |3,_=>rfl
    unfold rK;rw[XS hg];exact this
   have w0:=R4.t0 M4;have w4:=R4.t4 M4;refine⟨(_,_),?_,rfl,pos,_,q,M4.set (R4.pk 4 ∅) (.lst (M.lg++[.tup [.str "look",.int a,.int b,.int (M.bx.getD b.toNat 0)]])),R4.say _,(Fm.refl.ua a 1).uk 4⟩;rw[bF (ρ':=[uR (p 0),uI a,uI b,uR (q a 0),uI (M.bx.getD b.toNat 0)]) (S':=(T++X).set (q a 1) (.lst (((M.A a).lk++[b]).map U.int))) (by
    rw[ei,jT,et];rwa[x0,vM,x2,am,xo,vg,hd,vl,xl,fA hK,mL])]
   rwa[w0,vL,w4,rK,Mo.up,fA hL]
end
theorem LB{S:Sto}{ci el:CE}{caps:List Nat}{ρ:Rho}{ld:Nat}{l:List (Int×Int)}{f:Int->Bool}{h:Int->Nat}{r:Rho}(hi:ci ρ S=some (.ref ld,S))(hd:S[ld]?=some (.dic (dI l)))(hr:uh 1 caps ρ=none::r)(hl:l.length<=900)
  (he:∀ep ys n,∀e∈l,el (uI e.1::r) (S.set ld (.fdc ep (dI l))++(.lst ys::nls n))=some (.bl (f e.1),S.set ld (.fdc ep (dI l))++(.lst ys::nls (n+h e.1)))) :
  fK ci (gNm 0) el 1 caps ρ S=some (.ref S.length,S++(.lst (l.map λe=>.bl (f e.1))::nls ((l.map λe=>h e.1).foldl (· + ·) 0))):=by
 have lk:ld<S.length:=(Q8.mp hd).1;unfold fK oO;rw[hi,Q9];simp only[hd];refine oy λep=>?_;have ek:∀X:Sto,(S.set ld (.fdc ep (dI l))++X)[ld]?=some (.fdc ep (dI l)):=λX=>aK (by rw[Zr,XO rfl,XO lk]);have key:∀(ks:List (Int×Int)) (ys:List U) (n:Nat) (r0:Option U),(∀e∈ks,e∈l)->ys.length+ks.length<=9999->gN (λS'=>S'[ld]?=some (.fdc ep (dI l))) (gNm 0) el S.length ((dI ks).map λp=>kU p.1) (r0::r) (S.set ld (.fdc ep (dI l))++(.lst ys::nls n))=some (S.set ld (.fdc ep (dI l))++(.lst (ys++ks.map λe=>.bl (f e.1))::nls ((ks.map λe=>h e.1).foldl (· + ·) n))):=by
  intro ks;induction ks with
  |nil=>intro ys n r0 _ _;rw[Za,Zv];exact kB (ek _)
  |cons e ks ih=>
   intro ys n r0 hm hn;rw[QK]at hn;have g:(S.set ld (.fdc ep (dI l))++(O.lst ys::nls (n+h e.1)))[S.length]?=some (.lst ys):=by
    have:=ga0 (S:=S.set ld (.fdc ep (dI l))) (X:=O.lst ys::nls (n+h e.1));rw[Zx]at this;rw[this];rfl
   refine(i4 (ρ0:=uI e.1::r) (S0:=S.set ld (.fdc ep (dI l))++(.lst ys::nls n)) (S1:=S.set ld (.fdc ep (dI l))++(.lst ys::nls (n+h e.1))) (x:=.bl (f e.1)) (ys:=ys) (ek _) rfl (he ep ys n e (hm e QH)) g (by unfold LIM;omega)).trans ?_;have:=gs0 (S:=S.set ld (.fdc ep (dI l))) (X:=O.lst ys::nls (n+h e.1)) (o:=.lst (ys++[.bl (f e.1)]));rw[Zx]at this;rw[this];show gN _ _ _ _ ((dI ks).map _) _ (S.set ld (.fdc ep (dI l))++(.lst (ys++[.bl (f e.1)])::nls (n+h e.1)))=_;rw[ih (ys++[U.bl (f e.1)]) (n+h e.1) _ (λq hq=>hm q (QZ _ hq)) (by simp;omega),ZJ];rfl
 have k0:=key l [] 0 none (λp h=>h) (by simp;omega);rw[show nls 0=[]from rfl,Zw]at k0;rw[hr,k0,Q9];simp only[ek];rw[XE _ _ (by rw[Zx];exact lk),jW hd]
section
variable{w:At}{u:U}
def lQ(M:Mo)(a:Int):Str×Mo:=
 if (M.A a).pu=[]then("done",C7 M a "done")else
 if (!eV M a||((M.A a).pu.map (·.1)).any (eL M a))=true then("falls",C7 M a "fall")else
 ("taken",{ M.up a { M.A a with st:=M.ck+1,lf:=cg ((M.A a).pu.map (·.1)) } with ck:=M.ck+1 })
def vn:Fn:=fnU 3 2 (jO lp jR iA)
theorem B9(M1:Mm pos c T)(R:Mr j pos c M p q)(ha:a∈M.ids)(hl:(M.A a).pu.length<=900):∃X,cCB ym (ag (fK (cOp fIx (ah 2) (cC (.str "puts"))) (gNm 0) (cCB iA (ag (ah 1) (ag (ah 2) (ag (ah 0) aE)))) 1 [0,1]) aE) [uR (p 0),uI a,uR (q a 0)] T=some (.bl (((M.A a).pu.map (·.1)).any (eL M a)),T++X):=by
 have to:=R.ao M1 ha;have tp:=R.ap M1 ha;have e:=LB (S:=T) (ci:=cOp fIx (ah 2) (cC (.str "puts"))) (el:=cCB iA (ag (ah 1) (ag (ah 2) (ag (ah 0) aE)))) (caps:=[0,1]) (ρ:=[uR (p 0),uI a,uR (q a 0)]) (r:=[uR (p 0),uI a]) (f:=eL M a) (h:=λb=>hN M q (p 0) a b) (by rwa[to,vp]) tp rfl hl (λep ys n e he=>by
  have N:=(M1.set (R.pa a ha 2 ∅) (.fdc ep (dI (M.A a).pu))).app (.lst ys::nls n);have hr:=wR (a:=a) (b:=e.1) N R.pk (λf hf=>(aB nofun).trans (R.ck f hf)) R.pa (λx hx hxa f hf=>(aB (by simp[hxa])).trans (R.ca x hx f hf));have ea:T.set (q a 2) (O.fdc ep (dI (M.A a).pu))++(O.lst ys::nls n)++nls (hN M q (p 0) a e.1)=T.set (q a 2) (O.fdc ep (dI (M.A a).pu))++(O.lst ys::nls (n+hN M q (p 0) a e.1)):=by
   rw[ZJ,Zt,List.replicate_append_replicate]
  rw[ea]at hr;rwa[hr])
 refine⟨O.lst ((M.A a).pu.map λe=>.bl (eL M a e.1))::nls (((M.A a).pu.map λe=>hN M q (p 0) a e.1).foldl (· + ·) 0),?_⟩;have ga:(T++(O.lst ((M.A a).pu.map λe=>.bl (eL M a e.1))::nls (((M.A a).pu.map λe=>hN M q (p 0) a e.1).foldl (· + ·) 0)))[T.length]?=some (.lst ((M.A a).pu.map λe=>.bl (eL M a e.1))):=by rw[ga0];rfl
 have ha:=any_map (f:=λe:Int×Int=>eL M a e.1) ga;rw[show(M.A a).pu.any (λe=>eL M a e.1)=((M.A a).pu.map (·.1)).any (eL M a)from by rw[List.any_map];rfl]at ha;rwa[e,ha]
theorem Mr.left(R:Mr j pos c M p q)(M1:Mm pos c T)(ha:a∈M.ids)(l:List Int):∃c' q',Mm (dG pos (.a j a 3) T.length) c' ((T++[O.lst (l.map U.int)]).set (q a 0) (.dic (aD (M.A a).g (M.A a).st (M.A a).op (q a 1) (q a 2) T.length)))/\Mr j (dG pos (.a j a 3) T.length) c' (M.up a { M.A a with lf:=l }) p q'/\Fm j pos c (dG pos (.a j a 3) T.length) c':=by
 have M2:=M1.new (.a j a 3) (.lst (l.map U.int)) [];have M3:=M2.set (s:=.a j a 0) (p:=q a 0) (by rw[fF nofun];exact R.pa a ha 0 ∅) (.dic (aD (M.A a).g (M.A a).st (M.A a).op (q a 1) (q a 2) T.length));refine⟨_,λx f=>if x=a/\f=3 then T.length else q x f,M3,⟨λf hf=>by rw[fF nofun];exact R.pk f hf,λf hf=>?_,λx hx f hf=>?_,λx hx f hf=>?_⟩,((Fm.refl.upd (s:=.a j a 3) rfl).upd (s:=.a j a 0) rfl).pn rfl⟩;rw[aB nofun,aB nofun,R.ck f hf];match f,hf with
 |0,_=>rfl
 |1,_=>rfl
 |2,_=>rfl
 |3,_=>show O.dic _=O.dic _;simp[Mo.up]
 |4,_=>rfl
 by_cases e:x=a/\f=3;let⟨rfl,rfl⟩:=e;simp[dG];rw[fF (λz=>by cases z;exact e ⟨rfl,rfl⟩),XS e];exact R.pa x hx f hf;by_cases e:x=a;subst e;rw[gJ];match f,hf with
 |0,_=>rw[bJ];simp[mA]
 |1,_=>rw[aB nofun,aB nofun,R.ca x hx 1 ∅];rfl
 |2,_=>rw[aB nofun,aB nofun,R.ca x hx 2 ∅];rfl
 |3,_=>rw[aB nofun,bJ];rfl
 have h1:(M.up a { M.A a with lf:=l }).A x=M.A x:=XS e;have h2:(λf=>if x=a/\f=3 then T.length else q x f)=q x:=by funext f;rw[XS (λz=>e z.1)]
 rw[h1,h2,aB (by simp[e]),aB (by simp[e])];exact R.ca x hx f hf
theorem Mr.clk(R:Mr j pos c M p q)(x:Int):Mr j pos (aJ c (.k j 0) (.dic (mD x p))) { M with ck:=x } p q:=R.uk 0 rfl rfl λf hf=>by
 match f,hf with
 |0,_=>rfl
 |1,_=>rfl
 |2,_=>rfl
 |3,_=>rfl
 |4,_=>rfl
theorem CL(M1:Mm pos c T)(R:Mr j pos c M p q)(W:Mw M n)(ha:a∈M.ids)(hl:M.lg.length<=9000):Wp (vn [.ref (p 0),.int a] T) λr=>r.1=.str (lQ M a).1/\Nm j pos c p (lQ M a).2 r.2:=by
 have t0:=R.t0 M1;have t3:=R.t3 M1;have to:=R.ao M1 ha;have tp:=R.ap M1 ha;have vi:=bb (q:=q) ha;have pl:=(W.pu a ha).1;unfold vn lQ;rw[x6];unfold jO;rw[bF (ρ':=[uR (p 0),uI a,uR (q a 0)]) (S':=T) (by rwa[t0,vT,t3,vi])];have eE:Lm (.ref (q a 2)) (.ref T.length) (T++[.dic []])=some (.bl (decide ((M.A a).pu=[])),T++[.dic []]):=by
  have h1:=aK (r:=[O.dic []]) tp;have h2:(T++[O.dic []])[T.length]?=some (.dic []):=by rw[ga0];rfl
  simp only[Lm,h1,h2];congr 3;have:(dI (M.A a).pu).length=(M.A a).pu.length:=by unfold dI;rw[QX]
  rw[this,decide_eq_decide];exact Zp
 by_cases hp:(M.A a).pu=[];rw[XO hp];rw[Xz hp]at eE;let⟨⟨u1,T1⟩,e2,rfl,N⟩:=ky (w:="done") (u:=.str "done") (M1.app [.dic []]) R ha hl;refine⟨(_,_),?_,rfl,N⟩;rwa[to,vp,eE,e2];rw[XS hp];rw[Xq hp]at eE;rw[bF (ρ':=[uR (p 0),uI a,uR (q a 0)]) (S':=T++[.dic []]) (by rwa[to,vp,eE])];generalize hTT:T++[O.dic []]=T0;have N0:Mm pos c T0:=by rw[<-hTT];exact M1.app _
 let⟨X1,e1⟩:=vR N0 R ha (W.lk a ha).1 (by rw[W.lm];exact(W.lk a ha).2);let⟨X2,e2⟩:=B9 (N0.app X1) R ha ⋯;rw[ZJ]at e2;have tst:∃X,(cOr (sS (aG (cCB jR (ag (ah 0) (ag (ah 1) aE))))) (aG (cCB ym (ag (fK (cOp fIx (ah 2) (cC (.str "puts"))) (gNm 0) (cCB iA (ag (ah 1) (ag (ah 2) (ag (ah 0) aE)))) 1 [0,1]) aE)))) [uR (p 0),uI a,uR (q a 0)] T0=some ((!eV M a||((M.A a).pu.map (·.1)).any (eL M a)),T0++X):=by
  cases h1:eV M a with
  |false=>rw[h1]at e1;exact⟨X1,by rwa[e1,XT,Bool.true_or]⟩
  |true=>
   rw[h1]at e1;have ec:sS (aG (cCB jR (ag (ah 0) (ag (ah 1) aE)))) [uR (p 0),uI a,uR (q a 0)] T0=some (false,T0++X1):=by rwa[e1]
   refine⟨X1++X2,?_⟩;rw[O7,ec,Q9];show(aG _) _ (T0++X1)=_;rw[vz,e2];rfl
 let⟨X,et⟩:=tst;have N1:=N0.app X;cases hb:(!eV M a||((M.A a).pu.map (·.1)).any (eL M a))with
 |true=>
  rw[XO rfl];rw[hb]at et;let⟨⟨u1,T1⟩,e4,rfl,N⟩:=ky (w:="fall") (u:=.str "falls") N1 R ha hl;refine⟨(_,_),?_,rfl,N⟩;rw[oS,jT,et];rwa[e4]
 |false=>
  rw[XS QV];rw[hb]at et;rw[bF (ρ':=[uR (p 0),uI a,uR (q a 0)]) (S':=T0++X) (by rw[jT,et];rfl)];have s0:=R.t0 N1;have N2:=N1.set (R.pk 0 ∅) (.dic (mD (M.ck+1) p));have R2:=R.clk (M.ck+1);have y0:=R2.t0 N2;have yo:=R2.ao N2 ha;rw[bF (ρ':=[uR (p 0),uI a,uR (q a 0)]) (S':=(T0++X).set (p 0) (.dic (mD (M.ck+1) p))) (by rwa[s0,vC,lM,if_true,wC])];have N3:=N2.set (R2.pa a ha 0 ∅) (.dic (aD (M.A a).g (M.ck+1) (M.A a).op (q a 1) (q a 2) (q a 3)));have R3:=R2.sO (a:=a) (M.A a).g (M.ck+1) (M.A a).op;have zo:=R3.ao N3 ha;have zp:=R3.ap N3 ha;rw[gJ]at zo zp;rw[bF (ρ':=[uR (p 0),uI a,uR (q a 0)]) (S':=((T0++X).set (p 0) (.dic (mD (M.ck+1) p))).set (q a 0) (.dic (aD (M.A a).g (M.ck+1) (M.A a).op (q a 1) (q a 2) (q a 3)))) (by rwa[y0,vC,yo,lA,if_true,ws])];generalize hT3:((T0++X).set (p 0) (.dic (mD (M.ck+1) p))).set (q a 0) (.dic (aD (M.A a).g (M.ck+1) (M.A a).op (q a 1) (q a 2) (q a 3)))=T3 at N3 zo zp;have es:iX [.ref (q a 2)] T3=some (.ref T3.length,T3++[.lst ((cg ((M.A a).pu.map (·.1))).map U.int)]):=by
   have hlt:((M.A a).pu.map (·.1)).length<64:=by rw[QX];exact pl
   simp only[iX,zp,uE,Q9,hlt,if_true]
  let⟨c',q',N4,R4,F4⟩:=R3.left N3 ha (cg ((M.A a).pu.map (·.1)));rw[gJ,Pr]at R4;rw[gJ]at N4;have zo':=aK (r:=[O.lst ((cg ((M.A a).pu.map (·.1))).map U.int)]) zo;refine⟨(.str "taken",_),?_,rfl,_,c',q',N4,R4,((Fm.refl.uk 0).ua a 0).trans F4⟩;rwa[zo,vp,es,zo',lA,if_true,wf]
end
section
variable{v w:At}{u:U}
def gK(M:Mo)(a:Int):Str×Mo:=match (M.A a).lf with
 |[]=>("",M)
 |b::r=>
  let M':Mo:={ M.up a { M.A a with lf:=r } with bx:=M.bx.set b.toNat ((aZ (M.A a).pu b).getD 0),ma:=M.ma.set b.toNat (M.A a).st }
  if r=[]then("done",C7 M' a "done")else("written",M')
def qG:Fn:=fnU 4 2 (i7 lp)
theorem zQ{r:List Int}(M1:Mm pos c T)(R:Mr j pos c M p q)(W:Mw M n)(ha:a∈M.ids)(hun:(M.A a).lf=b::r)(b0:0<=b)(b1:b<n)(hb:(aZ (M.A a).pu b).isSome=true)(hr:r.length<=900)(hl:M.lg.length<=9000):Wp (qG [.ref (p 0),.int a] T) λs=>s.1=.str (gK M a).1/\Nm j pos c p (gK M a).2 s.2:=by
 let⟨v,hv⟩:=Zz.mp hb;have t0:=R.t0 M1;have t3:=R.t3 M1;have to:=R.ao M1 ha;have tu:=R.af M1 ha;have vi:=bb (q:=q) ha;rw[hun,QL]at tu;have M2:=M1.set (R.pa a ha 3 ∅) (.lst (r.map U.int));have R2:Mr j pos (aJ c (.a j a 3) (.lst (r.map U.int))) (M.up a { M.A a with lf:=r }) p q:=R.ua 3 λf hf=>by
  match f,hf with
  |0,_=>rfl
  |1,_=>rfl
  |2,_=>rfl
  |3,_=>rfl
 have s0:=R2.t0 M2;have s1:=R2.t1 M2;have so:=R2.ao M2 ha;have sp:=R2.ap M2 ha;rw[gJ]at so sp;have M3:=M2.set (R2.pk 1 ∅) (.lst ((M.bx.set b.toNat v).map U.int));have R3:Mr j pos (aJ (aJ c (.a j a 3) (.lst (r.map U.int))) (.k j 1) (.lst ((M.bx.set b.toNat v).map U.int))) { M.up a { M.A a with lf:=r } with bx:=M.bx.set b.toNat v } p q:=R2.uk 1 rfl rfl λf hf=>by
  match f,hf with
  |0,_=>rfl
  |1,_=>rfl
  |2,_=>rfl
  |3,_=>rfl
  |4,_=>rfl
 have u0:=R3.t0 M3;have u2:=R3.t2 M3;have uo:=R3.ao M3 ha;have M4:=M3.set (R3.pk 2 ∅) (.lst ((M.ma.set b.toNat (M.A a).st).map U.int));have R4:Mr j pos (aJ (aJ (aJ c (.a j a 3) (.lst (r.map U.int))) (.k j 1) (.lst ((M.bx.set b.toNat v).map U.int))) (.k j 2) (.lst ((M.ma.set b.toNat (M.A a).st).map U.int))) { M.up a { M.A a with lf:=r } with bx:=M.bx.set b.toNat v,ma:=M.ma.set b.toNat (M.A a).st } p q:=R3.uk 2 rfl rfl λf hf=>by
  match f,hf with
  |0,_=>rfl
  |1,_=>rfl
  |2,_=>rfl
  |3,_=>rfl
  |4,_=>rfl
 have wo:=R4.ao M4 ha;have wf:=R4.af M4 ha;have eA:(M.up a { M.A a with lf:=r }).A a={ M.A a with lf:=r }:=gJ;simp only[eA]at uo wo wf;have hL1:(U.int b::r.map U.int).length<=LIM:=by unfold LIM;simp;omega
 have er:(U.int b::r.map U.int).eraseIdx (Int.toNat 0)=r.map U.int:=rfl;have i1:=Mh (xs:=M.bx) b0 (by rw[W.lb];exact b1);have i2:=Mh (xs:=M.ma) b0 (by rw[W.lm];exact b1);have m1:∀(xs:List Int) (v:Int) (i:Nat),(xs.map U.int).set i (.int v)=(xs.set i v).map U.int:=λxs v i=>by rw[List.map_set]
 have em:gK M a=if r=[]then(("done":Str),C7 ({ M.up a { M.A a with lf:=r } with bx:=M.bx.set b.toNat v,ma:=M.ma.set b.toNat (M.A a).st }:Mo) a "done")else(("written":Str),({ M.up a { M.A a with lf:=r } with bx:=M.bx.set b.toNat v,ma:=M.ma.set b.toNat (M.A a).st }:Mo)):=by
  unfold gK;rw[hun];dsimp only;rw[hv];rfl
 rw[em];unfold qG;rw[kZ];unfold i7;rw[bF (ρ':=[uR (p 0),uI a,uR (q a 0),none]) (S':=T) (by rwa[t0,vT,t3,vi])];rw[bF (ρ':=[uR (p 0),uI a,uR (q a 0),uI b]) (S':=T.set (q a 3) (.lst (r.map U.int))) (by rwa[to,vf,tu,yw,vD (Int.le_refl 0) nofun hL1 rfl,er])];rw[bF (ρ':=[uR (p 0),uI a,uR (q a 0),uI b]) (S':=(T.set (q a 3) (.lst (r.map U.int))).set (p 1) (.lst ((M.bx.set b.toNat v).map U.int))) (by rwa[so,vp,sp,ib,hv,Zi,s0,vB,s1,Mo.up,i1,m1])];rw[bF (ρ':=[uR (p 0),uI a,uR (q a 0),uI b]) (S':=((T.set (q a 3) (.lst (r.map U.int))).set (p 1) (.lst ((M.bx.set b.toNat v).map U.int))).set (p 2) (.lst ((M.ma.set b.toNat (M.A a).st).map U.int))) (by rwa[uo,vs,u0,vM,u2,Mo.up,i2,m1])];generalize hT3:((T.set (q a 3) (.lst (r.map U.int))).set (p 1) (.lst ((M.bx.set b.toNat v).map U.int))).set (p 2) (.lst ((M.ma.set b.toNat (M.A a).st).map U.int))=T3 at *;have eq:=p5 true (S:=T3++[.lst []]) (l:=q a 3) (l':=T3.length) (ns:=r) (ms:=[]) (aK wf) (by rw[ga0];rfl);simp only[if_true]at eq;by_cases h:r=[];rw[XO h];rw[show(!decide (r=[]))=false from by rw[Xz h];rfl]at eq;let⟨⟨u1,T4⟩,e4,rfl,g_,c',q',M5,R5,F5⟩:=ky (w:="done") (u:=.str "done") (M4.app [.lst []]) R4 ha hl;refine⟨(_,T4),?_,rfl,g_,c',q',M5,R5,(((Fm.refl (j:=j) (pos:=pos) (c:=c)).ua a 3).uk 1).uk 2 |>.trans F5⟩;rwa[wo,vf,eq,e4];rw[XS h];rw[show(!decide (r=[]))=true from by rw[Xq h];rfl]at eq;refine⟨(_,T3++[.lst []]),?_,rfl,pos,_,q,M4.app _,R4,((Fm.refl.ua a 3).uk 1).uk 2⟩;rwa[wo,vf,eq]
inductive Kv where
 |k (k:Kl)|fl (a:Int)
def Kv.uu:Kv->U
 |.k x=>x.u
 |.fl a=>.tup [.str "fall",.int a]
def Pu(M:Mo)(a b v:Int):Mo:=(M.up a { M.A a with pu:=dJ (M.A a).pu b v }).say (.tup [.str "put",.int a,.int b,.int v])
def iV(M:Mo)(a:Int):Mo:={ M with ids:=M.ids++[a],A:=λx=>if x=a then⟨M.ck,[],[],[],-1,true⟩else M.A x,lg:=M.lg++[.tup [.str "begin",.int a]] }
def rJ(M:Mo):Kv->U×Mo
 |.k (.bg a)=>(.non,iV M a)
 |.k (.lk a b)=>mQ M a b
 |.k (.pt a b v)=>(.non,Pu M a b v)
 |.k (.tk a)=>(.str (lQ M a).1,(lQ M a).2)
 |.k (.wr a)=>(.str (gK M a).1,(gK M a).2)
 |.fl a=>(.non,C7 M a "fall")
def Mz(M:Mo)(n:Nat):Kv->Prop
 |.k (.bg a)=>a∉M.ids
 |.k (.lk a b)=>(a∈M.ids/\(M.A a).op=true/\(M.A a).st<0)/\0<=b/\b<n
 |.k (.pt a b _)=>(a∈M.ids/\(M.A a).op=true/\(M.A a).st<0)/\0<=b/\b<n
 |.k (.tk a)=>a∈M.ids/\(M.A a).op=true/\(M.A a).st<0
 |.k (.wr a)=>(a∈M.ids/\(M.A a).op=true/\0<=(M.A a).st)/\∃b r,(M.A a).lf=b::r/\0<=b/\b<n/\(aZ (M.A a).pu b).isSome=true/\r.length<=900
 |.fl a=>a∈M.ids/\(M.A a).op=true/\(M.A a).st<0
def gE:Fn:=fnU 4 2 (bC vq vn qG lp)
theorem swK(a0:Option U)(x y:U)(r:List U)(R:Rho)(T:Sto):HI (LC (ah 1) none (some (cC (.int 2)))) (gTp [2,3]) (a0::some (.tup (x::y::r))::none::none::R) T=some (.nx,a0::some (.tup (x::y::r))::some x::some y::R,T):=by
 have e:DK (x::y::r) none (some 2)=[x,y]:=by
  have hs:HT.sIx (x::y::r).length (x::y::r).length (some ((2:Nat):Int))=2:=by rw[HT.sIx_nat,QK,QK];omega
  unfold DK;rw[show(2:Int)=((2:Nat):Int)from rfl,hs,HT.sIx_none];rfl
 have e2:LC (ah 1) none (some (cC (.int 2))) (a0::some (.tup (x::y::r))::none::none::R) T=some (.tup [x,y],T):=by
  show some (U.tup (DK (x::y::r) none (some 2)),T)=_;rw[e]
 rw[IZ,e2];rfl
end
section
variable{w:At}{u:U}
def bgE:CE:=yf [((cC (.str "glance")),(cOp fIx (ah 0) (cC (.str "clock")))),((cC (.str "looked")),(jn aE)),((cC (.str "puts")),oo),((cC (.str "left")),(jn aE)),((cC (.str "stamp")),(Mv (cC (.int 1)))),((cC (.str "open")),(cC (.bl true)))]
theorem LD{p0:Nat}{ck:Int}{r:Rho}(h:T[p0]?=some (.dic (mD ck p))):bgE (uR p0::r) T=some (.ref T.length,T++[.dic (aD ck (-1) true (T.length+1) (T.length+2) (T.length+3)),.lst [],.dic [],.lst []]):=by
 have l1:∀o:O,(T++[o]).length=T.length+1:=λo=>by rw[Z6];rfl
 have l2:∀o o':O,(T++[o,o']).length=T.length+2:=λo o'=>by rw[Z6];rfl
 have l3:∀o o' o2:O,(T++[o,o',o2]).length=T.length+3:=λo o' o2=>by rw[Z6];rfl
 have h':=aK (r:=[O.dic []]) h;have ge:(T++[O.dic [],O.lst [],O.dic [],O.lst []])[T.length]?=some (.dic []):=by rw[ga0];rfl
 have em:oH [(.inr "glance",.int ck),(.inr "looked",.ref (T.length+1)),(.inr "puts",.ref (T.length+2)),(.inr "left",.ref (T.length+3)),(.inr "stamp",.int (-1)),(.inr "open",.bl true)]=aD ck (-1) true (T.length+1) (T.length+2) (T.length+3):=rfl;have gs:=gs0 (S:=T) (X:=[O.dic [],O.lst [],O.dic [],O.lst []]) (o:=.dic (aD ck (-1) true (T.length+1) (T.length+2) (T.length+3)));have ng:∀(ρ:Rho) (S:Sto),Mv (cC (.int 1)) ρ S=some (.int (-1),S):=λ_ _=>rfl;unfold bgE;rwa[h',ng,vC,l1,l2,l3,ge,em,gs]
theorem zT(M1:Mm pos c T)(R:Mr j pos c M p q)(ha:a∉M.ids):Nm j pos c p (iV M a) (((T++[O.dic (aD M.ck (-1) true (T.length+1) (T.length+2) (T.length+3)),O.lst [],O.dic [],O.lst []]).set (p 3) (O.dic (dJ (M.ids.map λa=>((.inl a:Key),U.ref (q a 0))) (.inl a) (.ref T.length)))).set (p 4) (O.lst (M.lg++[U.tup [.str "begin",.int a]]))):=by
 generalize ho0:O.dic (aD M.ck (-1) true (T.length+1) (T.length+2) (T.length+3))=o0;have N1:=M1.new (.a j a 0) o0 [];have N2:=N1.new (.a j a 1) (.lst []) [];have N3:=N2.new (.a j a 2) (.dic []) [];have N4:=N3.new (.a j a 3) (.lst []) [];have z1:(T++[o0]).length=T.length+1:=by simp
 have z2:(T++[o0]++[O.lst []]).length=T.length+2:=by simp
 have z3:(T++[o0]++[O.lst []]++[O.dic []]).length=T.length+3:=by simp
 rw[z1,z2,z3]at N4;have eT:T++[o0]++[O.lst []]++[O.dic []]++[O.lst []]=T++[o0,.lst [],.dic [],.lst []]:=by simp
 rw[eT]at N4;generalize R7:dG (dG (dG (dG pos (.a j a 0) T.length) (.a j a 1) (T.length+1)) (.a j a 2) (T.length+2)) (.a j a 3) (T.length+3)=pos4 at N4;generalize hcc:aJ (aJ (aJ (aJ c (.a j a 0) o0) (.a j a 1) (.lst [])) (.a j a 2) (.dic [])) (.a j a 3) (.lst [])=c4 at N4;have pk:∀f,pos4 (.k j f)=pos (.k j f):=λf=>by rw[<-R7];simp[dG]
 have pb:∀x,x≠a->∀f,pos4 (.a j x f)=pos (.a j x f):=λx hx f=>by rw[<-R7];simp[dG,hx]
 have ck:∀f,c4 (.k j f)=c (.k j f):=λf=>by rw[<-hcc];simp[aJ]
 have cb:∀x,x≠a->∀f,c4 (.a j x f)=c (.a j x f):=λx hx f=>by rw[<-hcc];simp[aJ,hx]
 have ne:∀x∈M.ids,x≠a:=λx hx e=>ha (by rw[<-e];exact hx);have N5:=N4.set (s:=.k j 3) (p:=p 3) (by rw[pk];exact R.pk 3 ∅) (.dic (dJ (M.ids.map λa=>((.inl a:Key),U.ref (q a 0))) (.inl a) (.ref T.length)));have N6:=N5.set (s:=.k j 4) (p:=p 4) (by rw[pk];exact R.pk 4 ∅) (.lst (M.lg++[.tup [.str "begin",.int a]]));have ep:dJ (M.ids.map λa=>((.inl a:Key),U.ref (q a 0))) (.inl a) (.ref T.length)=M.ids.map (λa=>((.inl a:Key),U.ref (q a 0)))++[(.inl a,.ref T.length)]:=wc λh=>by
  rw[ZD]at h;let⟨x,hx,e⟩:=ZT.mp h;exact ne x hx (Sum.inl.inj e)
 refine⟨pos4,_,λx f=>if x=a then T.length+f else q x f,N6,⟨λf hf=>by rw[pk];exact R.pk f hf,λf hf=>?_,λx hx f hf=>?_,λx hx f hf=>?_⟩,λs hs=>?_⟩;match f,hf with
 |0,_=>rw[aB nofun,aB nofun,ck,R.ck 0 ∅];rfl
 |1,_=>rw[aB nofun,aB nofun,ck,R.ck 1 ∅];rfl
 |2,_=>rw[aB nofun,aB nofun,ck,R.ck 2 ∅];rfl
 |3,_=>
  rw[aB nofun,bJ,ep];show _=O.dic ((M.ids++[a]).map _);rw[List.map_append];congr 2;exact Ze λx hx=>by dsimp only;rw[XS (ne x hx)]
  simp
 |4,_=>rw[bJ];rfl
 rcases ZF.mp hx with hx|hx;rw[pb x (ne x hx),XS (ne x hx)];exact R.pa x hx f hf;rw[ZX.mp hx,XO rfl,<-R7];match f,hf with
 |0,_=>simp[dG]
 |1,_=>simp[dG]
 |2,_=>simp[dG]
 |3,_=>simp[dG]
 rw[aB nofun,aB nofun];rcases ZF.mp hx with hx|hx;have h1:(iV M a).A x=M.A x:=XS (ne x hx);have h2:(λf=>if x=a then T.length+f else q x f)=q x:=by funext f;rw[XS (ne x hx)]
 rw[cb x (ne x hx),h1,h2];exact R.ca x hx f hf;have h1:(iV M a).A a=⟨M.ck,[],[],[],-1,true⟩:=XO rfl;rw[ZX.mp hx,<-hcc,h1];match f,hf with
 |0,_=>simp[aJ,mA,<-ho0]
 |1,_=>simp[aJ,mA]
 |2,_=>simp[aJ,mA,dI]
 |3,_=>simp[aJ,mA]
 rw[<-R7,<-hcc];cases s with
 |k i f=>have:i≠j:=hs;simp[dG,aJ,this]
 |a i x f=>have:i≠j:=hs;simp[dG,aJ,this]
 |x m i=>simp[dG,aJ]
def Lx:decide (("look":Str)="begin")=false:=∅
def Lw:decide (("put":Str)="begin")=false:=∅
def Mp:decide (("put":Str)="look")=false:=∅
def Qz:decide (("put":Str)="take")=false:=∅
def P4:decide (("put":Str)="write")=false:=∅
def QB:decide (("put":Str)="fall")=false:=∅
def Lu:decide (("take":Str)="begin")=false:=∅
def Mn:decide (("take":Str)="look")=false:=∅
def OU:decide (("take":Str)="put")=false:=∅
def P0:decide (("take":Str)="write")=false:=∅
def Ig:decide (("write":Str)="begin")=false:=∅
def Ml:decide (("write":Str)="look")=false:=∅
def OT:decide (("write":Str)="put")=false:=∅
def Mj:decide (("write":Str)="take")=false:=∅
def P5:decide (("look":Str)="write")=false:=∅
def LA:decide (("fall":Str)="begin")=false:=∅
def Ms:decide (("fall":Str)="look")=false:=∅
def OX:decide (("fall":Str)="put")=false:=∅
def Mq:decide (("fall":Str)="take")=false:=∅
def Lz:decide (("fall":Str)="write")=false:=∅
theorem CY{k:Kv}(M1:Mm pos c T)(R:Mr j pos c M p q)(W:Mw M n)(hl:M.lg.length<=9000)(hi:M.ids.length<=900)(hk:∀a∈M.ids,(M.A a).lk.length<=800)(h:Mz M n k):Wp (gE [.ref (p 0),k.uu] T) λr=>r.1=(rJ M k).1/\Nm j pos c p (rJ M k).2 r.2:=by
 have t0:=R.t0 M1;have t3:=R.t3 M1;have hL:M.lg.length<LIM:=by unfold LIM;omega
 have n0:∀{x:Int},x<0->decide (0<=x)=false:=λh=>Xq ⋯;unfold gE;cases k with
 |fl a=>
  let⟨ha,op,st⟩:=h;have to:=R.ao M1 ha;have vi:=bb (q:=q) ha;rw[op]at to;let⟨⟨u,T1⟩,e,rfl,N⟩:=ky (w:="fall") (u:=.non) M1 R ha hl;refine⟨(_,T1),?_,rfl,N⟩;rw[kZ];unfold bC;simp only[Kv.uu,Kl.u];rw[bF (swK _ _ _ _ _ _)];rwa[LA,t0,vT,t3,vi,ZI,X0,if_true,to,vo,vs,n0 st,Lz,Ms,Mq,e];rfl
 |k k=>
  cases k with
  |bg a=>
   have vi:=gH (q:=q) h;have eb:=LD (p:=p) (ck:=M.ck) (r:=[some (.tup [.str "begin",.int a]),some (.str "begin"),uI a]) t0;unfold bgE at eb;have hK:(M.ids.map λa=>((.inl a:Key),U.ref (q a 0))).length<LIM:=by unfold LIM;rw[QX];omega
   have g0:=aK (r:=[O.dic (aD M.ck (-1) true (T.length+1) (T.length+2) (T.length+3)),.lst [],.dic [],.lst []]) t0;have g3:=aK (r:=[O.dic (aD M.ck (-1) true (T.length+1) (T.length+2) (T.length+3)),.lst [],.dic [],.lst []]) t3;have N0:=M1.app [O.dic (aD M.ck (-1) true (T.length+1) (T.length+2) (T.length+3)),.lst [],.dic [],.lst []];have N1:=N0.set (R.pk 3 ∅) (.dic (dJ (M.ids.map λa=>((.inl a:Key),U.ref (q a 0))) (.inl a) (.ref T.length)));have y0:=N1.get (R.pk 0 ∅) ((aB nofun).trans (R.ck 0 ∅));have y4:=N1.get (R.pk 4 ∅) ((aB nofun).trans (R.ck 4 ∅));refine⟨(.non,_),?_,rfl,zT M1 R h⟩;rw[kZ];unfold bC;simp only[Kv.uu,Kl.u];rw[bF (swK _ _ _ _ _ _)];rwa[t0,vT,t3,vi,XU,ZU,if_false,eb,g0,g3,hK,if_true,y0,mK,vL,y4,fA hL]
  |lk a b=>
   let⟨⟨ha,op,st⟩,b0,b1⟩:=h;have to:=R.ao M1 ha;have vi:=bb (q:=q) ha;rw[op]at to;let⟨⟨u,T1⟩,e,rfl,N⟩:=CU M1 R W ha b0 b1 hl (hk a ha);refine⟨(_,T1),?_,rfl,N⟩;rw[kZ];unfold bC;simp only[Kv.uu,Kl.u];rw[bF (swK _ _ _ _ _ _)];rwa[Lx,t0,vT,t3,vi,ZI,X0,if_true,to,vo,vs,n0 st,P5,e];rfl
  |pt a b x=>
   let⟨⟨ha,op,st⟩,b0,b1⟩:=h;have to:=R.ao M1 ha;have tp:=R.ap M1 ha;have vi:=bb (q:=q) ha;have to':=to;rw[op]at to;have hP:(dI (M.A a).pu).length<LIM:=by unfold LIM dI;rw[QX];have:=(W.pu a ha).1;omega
   have N1:=M1.set (R.pa a ha 2 ∅) (.dic (dI (dJ (M.A a).pu b x)));have R1:Mr j pos (aJ c (.a j a 2) (.dic (dI (dJ (M.A a).pu b x)))) (M.up a { M.A a with pu:=dJ (M.A a).pu b x }) p q:=R.ua 2 λf hf=>by
    match f,hf with
    |0,_=>rfl
    |1,_=>rfl
    |2,_=>rfl
    |3,_=>rfl
   have y0:=R1.t0 N1;have y4:=R1.t4 N1;refine⟨(.non,_),?_,rfl,pos,_,q,N1.set (R1.pk 4 ∅) (.lst (M.lg++[.tup [.str "put",.int a,.int b,.int x]])),R1.say _,(Fm.refl.ua a 2).uk 4⟩;rw[kZ];unfold bC;simp only[Kv.uu,Kl.u];rw[bF (swK _ _ _ _ _ _)];rwa[Lw,t0,vT,t3,vi,ZI,X0,if_true,to,vo,vs,n0 st,P4,Mp,Qz,QB,vp,tp,hP,zv,y0,vL,y4,Mo.up,fA hL]
  |tk a=>
   let⟨ha,op,st⟩:=h;have to:=R.ao M1 ha;have vi:=bb (q:=q) ha;rw[op]at to;let⟨⟨u,T1⟩,e,rfl,N⟩:=CL M1 R W ha hl;refine⟨(_,T1),?_,rfl,N⟩;rw[kZ];unfold bC;simp only[Kv.uu,Kl.u];rw[bF (swK _ _ _ _ _ _)];rwa[Lu,t0,vT,t3,vi,ZI,X0,if_true,to,vo,vs,n0 st,P0,Mn,e];rfl
  |wr a=>
   let⟨⟨ha,op,st⟩,b,r,hf,b0,b1,hb,hr⟩:=h;have to:=R.ao M1 ha;have vi:=bb (q:=q) ha;have p0:decide (0<=(M.A a).st)=true:=Xz st;rw[op]at to;let⟨⟨u,T1⟩,e,rfl,N⟩:=zQ M1 R W ha hf b0 b1 hb hr hl;refine⟨(_,T1),?_,rfl,N⟩;rw[kZ];unfold bC;simp only[Kv.uu,Kl.u];rw[bF (swK _ _ _ _ _ _)];rwa[Ig,t0,vT,t3,vi,ZI,X0,if_true,to,vo,vs,p0,Ml,Mj,e];rfl
end
variable{i:Nat}
def kQ(M:Mo)(e:Int×Nat):List Int:=if 0<=(M.A e.1).st then[(M.A e.1).st,0,(e.2:Int),e.1]else[(M.A e.1).g,1,(e.2:Int),e.1]
def mGb(M:Mo)(e:Int×Nat):O:=.lst [.tup [.int (M.A e.1).g,.int 1,.int e.2,.int e.1],.tup [.int (M.A e.1).st,.int 0,.int e.2,.int e.1]]
def rH(M:Mo):List Int:=(kH (M.ids.zipIdx.map (kQ M))).map λr=>r.getD 3 0
def Kx(q:Int->Nat->Nat)(p0 L:Nat):List (Int×Nat)->Rho->Rho
 |[],ρ=>ρ
 |e::l,_=>Kx q p0 L l [uR p0,uR L,uI e.2,uI e.1,uR (q e.1 0)]
theorem wm{Y:Sto}{t:O}{L p0:Nat}(h0:Y[p0]?=some (.dic (mD M.ck p)))(h3:Y[p 3]?=some t)(ht:∀(a:Int) S,a∈M.ids->kIx (.int a) S (some t)=some (.ref (q a 0),S))(ha:∀a∈M.ids,Y[q a 0]?=some (.dic (aD (M.A a).g (M.A a).st (M.A a).op (q a 1) (q a 2) (q a 3))))(hL:L=Y.length)(ok:Sto->Prop)(hok:∀X,ok (Y++X)) :
  ∀(l:List (Int×Nat)) (rs:List U) (G:Sto) (r2 r3 r4:Option U),(∀e∈l,e.1∈M.ids)->rs.length+l.length<=9000->dH ok (gTp [2,3]) cT (l.map λe=>.tup [.int e.2,.int e.1]) [uR p0,uR L,r2,r3,r4] (Y++(.lst rs::G))=some (.nx,Kx q p0 L l [uR p0,uR L,r2,r3,r4],Y++(.lst (rs++l.map λe=>rwU (kQ M e))::(G++l.map (mGb M))))
 |[],rs,G,r2,r3,r4,_,_=>by rw[Za,Za,Za,Zv,Zv];exact fe (hok _)
 |e::l,rs,G,r2,r3,r4,hm,hn=>by
  rw[QK]at hn;have he:=hm e QH;have ih:=wm h0 h3 ht ha hL ok hok l (rs++[rwU (kQ M e)]) (G++[mGb M e]) (uI e.2) (uI e.1) (uR (q e.1 0)) (λx hx=>hm x (QZ _ hx)) (by simp;omega);have g0:∀X,(Y++X)[p0]?=some (.dic (mD M.ck p)):=λX=>aK h0;have g3:∀X,(Y++X)[p 3]?=some t:=λX=>aK h3;have go:∀X,(Y++X)[q e.1 0]?=_:=λX=>aK (ha e.1 he);have hi:=ht e.1 (Y++(.lst rs::G)) he;have gl:(Y++(O.lst rs::(G++[mGb M e])))[L]?=some (.lst rs):=by rw[hL,ga0];rfl
  have gl0:(Y++(O.lst rs::G))[L]?=some (.lst rs):=by rw[hL,ga0];rfl
  have gs:(Y++(O.lst rs::(G++[mGb M e]))).set L (.lst (rs++[rwU (kQ M e)]))=Y++(O.lst (rs++[rwU (kQ M e)])::(G++[mGb M e])):=by rw[hL,gs0];rfl
  have gn:(Y++(O.lst rs::(G++[mGb M e])))[(Y++(O.lst rs::G)).length]?=some (mGb M e):=by
   have:Y++(O.lst rs::(G++[mGb M e]))=(Y++(O.lst rs::G))++[mGb M e]:=by simp
   rw[this,ga0];rfl
  have hR:rs.length<LIM:=by unfold LIM;omega
  refine(gy (ρ1:=[uR p0,uR L,uI e.2,uI e.1,uR (q e.1 0)]) (S1:=Y++(O.lst (rs++[rwU (kQ M e)])::(G++[mGb M e]))) (hok _) rfl ?_).trans (ih.trans ?_);rw[<-gs];by_cases h:0<=(M.A e.1).st;have hd:decide (0<=(M.A e.1).st)=true:=Xz h;have er:rwU (kQ M e)=.tup [.int (M.A e.1).st,.int 0,.int e.2,.int e.1]:=by unfold kQ;rw[XO h];rfl
  have ix:∀S,kIx (.int 1) S (some (mGb M e))=some (.tup [.int (M.A e.1).st,.int 0,.int e.2,.int e.1],S):=λS=>rfl;rw[er];unfold mGb at gl gn ix ⊢;rwa[cT,g0,vT,g3,hi,go,vg,vs,hd,if_true,gl0,gn,ix,gl,fA hR];have hd:decide (0<=(M.A e.1).st)=false:=Xq h;have er:rwU (kQ M e)=.tup [.int (M.A e.1).g,.int 1,.int e.2,.int e.1]:=by unfold kQ;rw[XS h];rfl
  have ix:∀S,kIx (.int 0) S (some (mGb M e))=some (.tup [.int (M.A e.1).g,.int 1,.int e.2,.int e.1],S):=λS=>rfl;rw[er];unfold mGb at gl gn ix ⊢;rwa[cT,g0,vT,g3,hi,go,vg,vs,hd,ZU,if_false,gl0,gn,ix,gl,fA hR];simp only[QL,ZJ,Zt,Zw];rfl
theorem JH(M:Mo):(M.ids.zipIdx.map (kQ M)).Nodup:=by
 have h:((M.ids.zipIdx.map (kQ M)).map λr=>r.getD 2 0).Nodup:=by
  have:(M.ids.zipIdx.map (kQ M)).map (λr=>r.getD 2 0)=(ZO M.ids.length).map λi:Nat=>(i:Int):=by
   rw[ZD,List.range_eq_range',<-List.zipIdx_map_snd 0 M.ids,ZD];refine Ze λe _=>?_;show(kQ M e).getD 2 0=_;unfold kQ;split<;>rfl
  rw[this];exact List.pairwise_map.mpr (List.nodup_range.imp λh e=>h (Int.ofNat.inj e))
 exact(List.pairwise_map.mp h).imp λhne e=>hne (by rw[e])
def uA(A:At):Int×Int:=if 0<=A.st then(A.st,0)else(A.g,1)
theorem pQ(M:Mo)(e:Int×Nat):kQ M e=[(uA (M.A e.1)).1,(uA (M.A e.1)).2,(e.2:Int),e.1]:=by
 unfold kQ uA;split<;>rfl
theorem o8(M:Mo):kH (M.ids.zipIdx.map (kQ M))=(tP (M.ids.map λa=>uA (M.A a))).map λi=>kQ M (M.ids.getD i 0,i):=by
 have pm:=fG (M.ids.map λa=>uA (M.A a));rw[QX]at pm;have nd:(tP (M.ids.map λa=>uA (M.A a))).Nodup:=pm.nodup_iff.mpr List.nodup_range;have lt:∀i∈tP (M.ids.map λa=>uA (M.A a)),i<M.ids.length:=λi hi=>X5.mp (pm.mem_iff.mp hi);have gk:∀i,i<M.ids.length->(M.ids.map λa=>uA (M.A a)).getD i (0,0)=uA (M.A (M.ids.getD i 0)):=λi hi=>by
  rw[ZV,ZH,Q7 hi,ZV,Q7 hi];rfl
 refine vV ?_ λx=>?_;rw[List.pairwise_map];refine((wt _).and nd).imp_of_mem λ{i k} hi hk h=>?_;let⟨h1,h2⟩:=h;have li:=gk i (lt i hi);have lk:=gk k (lt k hk);rw[pQ,pQ];unfold ltS ltK ltP at h1;rw[li,lk]at h1;simp only[ltR];simp only[Bool.or_eq_false_iff,Bool.and_eq_false_iff,Bool.not_eq_false',decide_eq_false_iff_not,decide_eq_true_eq]at h1;have e4:((i:Nat):Int)≠(k:Int):=λe=>h2 ⋯;by_cases e1:(uA (M.A (M.ids.getD i 0))).1=(uA (M.A (M.ids.getD k 0))).1;rw[XO e1];by_cases e2:(uA (M.A (M.ids.getD i 0))).2=(uA (M.A (M.ids.getD k 0))).2;rw[XO e2,XS e4];exact Xz ⋯;rw[XS e2];exact Xz ⋯;rw[XS e1];exact Xz ⋯;constructor;intro h;let⟨i,hi,rfl⟩:=ZT.mp h;refine ZT.mpr ⟨(M.ids.getD i 0,i),?_,rfl⟩;rw[List.mk_mem_zipIdx_iff_getElem?,Q7 (lt i hi),ZV,Q7 (lt i hi)];rfl;intro h;let⟨⟨a,i⟩,hi,rfl⟩:=ZT.mp h;rw[List.mk_mem_zipIdx_iff_getElem?]at hi;refine ZT.mpr ⟨i,pm.mem_iff.mpr (X5.mpr (Q8.mp hi).1),?_⟩;rw[ZV,hi];rfl
theorem zU(M:Mo):rH M=o9 (M.ids.map λa=>uA (M.A a)) M.ids:=by
 unfold rH o9;rw[o8,ZD];refine Ze λi _=>?_;show(kQ M _).getD 3 0=_;rw[pQ];rfl
def mj:Fn:=fnU 5 1 jb
theorem zR(M1:Mm pos c T)(R:Mr j pos c M p q)(h64:M.ids.length<64):∃X l,mj [.ref (p 0)] T=some (.ref l,T++X)/\(T++X)[l]?=some (.lst ((rH M).map U.int)):=by
 have t0:=R.t0 M1;have N:=M1.app [.lst []];have y0:=R.t0 N;have y3:=R.t3 N;have l3:=(Q8.mp (R.t3 M1)).1;have hi:cOp fIx (ah 0) (cC (.str "tries")) [uR (p 0),uR T.length,none,none,none] (T++[.lst []])=some (.ref (p 3),T++[.lst []]):=by rwa[y0,vT]
 have ek:uW ((M.ids.map λa=>((.inl a:Key),U.ref (q a 0))).map λe=>kU e.1)=M.ids.zipIdx.map λe=>.tup [.int e.2,.int e.1]:=by
  rw[ES];unfold uW;rw[List.zipIdx_map,ZD];rfl
 generalize hrs:(M.ids.zipIdx.map λe=>rwU (kQ M e))=rs;generalize hG:M.ids.zipIdx.map (mGb M)=G;have ef:A2 (cOp fIx (ah 0) (cC (.str "tries"))) (gTp [2,3]) cT [uR (p 0),uR T.length,none,none,none] (T++[.lst []])=some (.nx,Kx q (p 0) T.length M.ids.zipIdx [uR (p 0),uR T.length,none,none,none],T++(.lst rs::G)):=by
  unfold A2;rw[hi,Q9];simp only[y3,ek];refine oy λep=>?_;have M2:=M1.set (R.pk 3 ∅) (.fdc ep (M.ids.map λa=>(.inl a,.ref (q a 0))));have e3:(T.set (p 3) (O.fdc ep (M.ids.map λa=>(.inl a,.ref (q a 0)))))[p 3]?=some (.fdc ep (M.ids.map λa=>(.inl a,.ref (q a 0)))):=by rw[Zr,XO rfl,XO l3]
  have key:=wm (M:=M) (q:=q) (p:=p) (L:=T.length) (p0:=p 0) (ok:=λS'=>S'[p 3]?=some (.fdc ep (M.ids.map λa=>(.inl a,.ref (q a 0))))) (M2.get (R.pk 0 ∅) ((aB nofun).trans (R.ck 0 ∅))) e3 (λa S ha=>by rw[Bx,Bw,Q9,bb ha];rfl) (λa ha=>M2.get (R.pa a ha 0 ∅) ((aB nofun).trans (R.ca a ha 0 ∅))) (by rw[Zx]) (λX=>aK e3) M.ids.zipIdx [] [] none none none (λe he=>(List.mem_zipIdx he).2.2▸YV _) (by simp;omega);rw[XE _ _ l3,key,Q9,Zw,Zw,hrs,hG];have e4:(T.set (p 3) (O.fdc ep (M.ids.map λa=>(.inl a,.ref (q a 0))))++(.lst rs::G))[p 3]?=some (.fdc ep (M.ids.map λa=>(.inl a,.ref (q a 0)))):=aK e3;simp only[e4];rw[XE _ _ (by rw[Zx];exact l3),jW (R.t3 M1)]
 have hρ:∃r2 r3 r4,Kx q (p 0) T.length M.ids.zipIdx [uR (p 0),uR T.length,none,none,none]=[uR (p 0),uR T.length,r2,r3,r4]:=by
  have:∀(l:List (Int×Nat)) (x y z:Option U),∃r2 r3 r4,Kx q (p 0) T.length l [uR (p 0),uR T.length,x,y,z]=[uR (p 0),uR T.length,r2,r3,r4]:=by
   intro l;induction l with
   |nil=>intro x y z;exact⟨x,y,z,rfl⟩
   |cons e l ih=>intro x y z;exact ih _ _ _
  exact this _ _ _ _
 let⟨r2,r3,r4,hρ⟩:=hρ;rw[hρ]at ef;have gl:(T++(O.lst rs::G))[T.length]?=some (.lst rs):=by rw[ga0];rfl
 have eR:ug rs=some (M.ids.zipIdx.map (kQ M)):=by rw[<-hrs,<-rg,ZD];rfl
 have es:jm [.ref T.length] (T++(O.lst rs::G))=some (.ref (T++(O.lst rs::G)).length,T++(O.lst rs::G)++[.lst ((kH (M.ids.zipIdx.map (kQ M))).map rwU)]):=by
  unfold jm;simp only[gl,eR,Q9];rw[XO];refine⟨λr hr=>?_,JH M,by simp;omega⟩;let⟨e,_,rfl⟩:=ZT.mp hr;unfold kQ;split<;>simp
 have hS:∀r∈kH (M.ids.zipIdx.map (kQ M)),r.length=4:=λr hr=>by
  rw[o8]at hr;let⟨i,_,rfl⟩:=ZT.mp hr;rw[pQ];rfl
 have ls:(kH (M.ids.zipIdx.map (kQ M))).length<=9000:=by
  rw[o8,QX,(fG _).length_eq,List.length_range,QX];omega
 unfold rH;generalize kH (M.ids.zipIdx.map (kQ M))=sr at es hS ls;have gsr:(T++(O.lst rs::G)++[O.lst (sr.map rwU)])[(T++(O.lst rs::G)).length]?=some (.lst (sr.map rwU)):=by rw[ga0];rfl
 have ei:iTp (cCB jm (ag (ah 1) aE)) [uR (p 0),uR T.length,r2,r3,r4] (T++(O.lst rs::G))=some (sr.map rwU,λS=>S[(T++(O.lst rs::G)).length]?=some (.lst (sr.map rwU)),T++(O.lst rs::G)++[O.lst (sr.map rwU)]):=Hs (by
  rw[LY,vE];exact es) gsr
 let⟨⟨u,T2⟩,e2,e2',G2,e2''⟩:=Nz (ce:=cOp fIx (ah 0) (cC (.int 3))) (caps:=[]) (ρ:=[uR (p 0),uR T.length,r2,r3,r4]) (cs:=[]) (xs:=sr) (f:=rwU) (v:=λr=>.int (r.getD 3 0)) (Q:=λr=>r.1=.ref (T++(O.lst rs::G)++[O.lst (sr.map rwU)]).length/\∃G2,r.2=T++(O.lst rs::G)++[O.lst (sr.map rwU)]++(.lst (sr.map λr=>.int (r.getD 3 0))::G2)) ei (λX=>aK gsr) ls rfl (λr hr X=>by
  refine .of (r:=(.int (r.getD 3 0),T++(O.lst rs::G)++[O.lst (sr.map rwU)]++X)) ?_ ⟨rfl,[],nofun⟩;have l4:=hS r hr;match r,l4 with
  |[_,_,_,_],_=>rfl) (λX=>⟨rfl,X,rfl⟩)
 dsimp only at e2' e2'';subst e2' e2'';refine⟨(O.lst rs::G)++[O.lst (sr.map rwU)]++(.lst (sr.map λr=>.int (r.getD 3 0))::G2),(T++(O.lst rs::G)++[O.lst (sr.map rwU)]).length,?_,?_⟩;unfold mj;rw[OM];unfold jb;rw[bF (ρ':=[uR (p 0),uR T.length,none,none,none]) (S':=T++[.lst []]) (by rwa[]),bF ef,IE,e2];simp only[<-ZJ];rfl;have:T++((O.lst rs::G)++[O.lst (sr.map rwU)]++(.lst (sr.map λr=>.int (r.getD 3 0))::G2))=(T++(O.lst rs::G)++[O.lst (sr.map rwU)])++(.lst (sr.map λr=>.int (r.getD 3 0))::G2):=by simp
 rw[this,ga0,ZD];rfl
structure Sa(A:Ac)(B:At):Prop where
 g:B.g=A.g
 pu:B.pu=A.pu
 op:B.op=A.op
 lf:B.lf=A.un
 lk:∀b:Int,b∈B.lk↔b∈A.lk
 st:(A.st=none/\B.st<0/\A.un=[])\/∃t,A.st=some t/\B.st=t/\0<=t
structure Sm(K:Kc)(M:Mo):Prop where
 bx:M.bx=K.bx
 ma:M.ma=K.ma
 ck:M.ck=K.tk
 ids:M.ids=K.ids
 lg:M.lg=K.ev
 tk:0<=K.tk
 A:∀a∈K.ids,Sa (K.A a) (M.A a)
 ho:∀b o:Int,aZ K.ho b=some o↔o∈K.ids/\(K.A o).un≠[]/\(aZ (K.A o).pu b).isSome=true
variable{K:Kc}
section
variable{w:Str}{v:Ac}{v':At}
theorem p9(S:Sm K M):eL M a b=!decide ((aZ K.ho b).getD a=a):=by
 rw[Zf,X9,decide_eq_false_iff_not];unfold eL C6;rw[S.ids,XW];constructor;rintro⟨o,ho,h⟩;simp only[Zl,X9,decide_eq_false_iff_not]at h;let⟨h1,h2,h3⟩:=h;have:=S.A o ho;rw[this.lf]at h2;rw[this.pu]at h3;rw[(S.ho b o).mpr ⟨ho,h2,h3⟩];exact h1;intro h;cases hv:aZ K.ho b with
 |none=>rw[hv]at h;exact absurd rfl h
 |some o=>
  rw[hv]at h;let⟨ho,h2,h3⟩:=(S.ho b o).mp hv;have:=S.A o ho;refine⟨o,ho,?_⟩;simp only[Zl,X9,decide_eq_false_iff_not];exact⟨h,by rw[this.lf];exact h2,by rw[this.pu];exact h3⟩
theorem vS(S:Sm K M)(ha:a∈K.ids):eV M a=!(brd K a (K.A a).lk||Br K a):=by
 unfold eV brd Br;congr 1;have:=S.A a ha;rw[Zf,Bool.or_eq_true,XW,XW,XW,S.ma,this.g];constructor;rintro⟨b,hb,h⟩;rw[Bool.or_eq_true,p9 S]at h;exact h.imp (λh=>⟨b,(this.lk b).mp hb,h⟩) λh=>⟨b,(this.lk b).mp hb,h⟩;rintro(⟨b,hb,h⟩|⟨b,hb,h⟩);exact⟨b,(this.lk b).mpr hb,by rw[p9 S,h];rfl⟩;exact⟨b,(this.lk b).mpr hb,by rw[h,Bool.or_true]⟩
theorem Sm.say(S:Sm K M)(e:U):Sm (K.say e) (M.say e):=⟨S.bx,S.ma,S.ck,S.ids,by show M.lg++[e]=K.ev++[e];rw[S.lg],S.tk,S.A,S.ho⟩
theorem Sm.up(S:Sm K M)(ha:a∈K.ids)(h:Sa v v')(hu:v.un=[]↔(K.A a).un=[])(hp:v.un≠[]->v.pu=(K.A a).pu):Sm (K.up a v) (M.up a v'):=by
 refine⟨S.bx,S.ma,S.ck,S.ids,S.lg,S.tk,λy hy=>?_,λb o=>?_⟩;by_cases e:y=a;subst e;rw[gI,gJ];exact h;rw[show(K.up a v).A y=K.A y from XS e,show(M.up a v').A y=M.A y from XS e];exact S.A y hy;show aZ K.ho b=some o↔o∈K.ids/\((K.up a v).A o).un≠[]/\(aZ ((K.up a v).A o).pu b).isSome=true;rw[S.ho];by_cases e:o=a;subst e;rw[gI];refine and_congr_right λ_=>?_;constructor;rintro⟨h1,h2⟩;have z:v.un≠[]:=λz=>h1 (hu.mp z);exact⟨z,by rw[hp z];exact h2⟩;rintro⟨h1,h2⟩;exact⟨λz=>h1 (hu.mpr z),by rw[<-hp h1];exact h2⟩;rw[show(K.up a v).A o=K.A o from XS e]
theorem Sm.end(S:Sm K M)(ha:a∈K.ids)(w:Str):Sm (K.end a w) (C7 M a w):=by
 have h:=S.A a ha;exact(S.up ha (v:={ K.A a with op:=false }) (v':={ M.A a with op:=false }) ⟨h.g,h.pu,rfl,h.lf,h.lk,h.st⟩ Iff.rfl λ_=>rfl).say _
theorem CW{l:List Int}{b x:Int}:x∈tR l b↔x∈l\/x=b:=by
 unfold tR;split;rename_i h;constructor;exact .inl;rintro(z|rfl);exact z;simpa using h;rw[ZF,ZX]
theorem Sm.look(S:Sm K M)(ha:a∈K.ids)(st:(K.A a).st=none):(mQ M a b).1=(jt K a b).1/\Sm (jt K a b).2 (mQ M a b).2:=by
 have h:=S.A a ha;unfold mQ jt;rw[h.pu];cases hv:aZ (K.A a).pu b with
 |some v=>exact⟨rfl,S.say _⟩
 |none=>
  dsimp only;have ew:(eL M a b||(decide ((M.A a).g<M.ma.getD b.toNat 0)&&!eV M a))=FQ K a b:=by
   unfold FQ;rw[p9 S,vS S ha,h.g,S.ma,Bool.not_not];congr 1;unfold brd;rw[Zn,List.any_nil,Bool.or_false];congr 1;rw[Zf,X9,decide_eq_true_eq,decide_eq_false_iff_not];omega
  rw[ew];cases FQ K a b with
  |true=>rw[XO rfl,XO rfl];exact⟨rfl,S.end ha _⟩
  |false=>
   rw[XS QV,XS QV,S.bx];refine⟨rfl,Sm.say ?_ _⟩;unfold rK Kc.anew;refine S.up ha ⟨?_,h.pu,h.op,h.lf,λy=>?_,h.st⟩ Iff.rfl λ_=>rfl;show(if _ then _ else _)=if _ then _ else _
   rw[h.g,S.ma,S.ck];show y∈(M.A a).lk++[b]↔y∈tR (K.A a).lk b;rw[CW,ZF,ZX,h.lk]
theorem En(S:Sm K M)(ha:a∈K.ids)(st:(K.A a).st=none):(K.A a).un=[]:=by
 rcases(S.A a ha).st with h|⟨t,h,_⟩;exact h.2.2;rw[st]at h;cases h
theorem Sm.put(S:Sm K M)(ha:a∈K.ids)(st:(K.A a).st=none):Sm (Me K a b x) (Pu M a b x):=by
 have h:=S.A a ha;have hu:=En S ha st;refine Sm.say (S.up ha (v:={ K.A a with pu:=dJ (K.A a).pu b x }) (v':={ M.A a with pu:=dJ (M.A a).pu b x }) ⟨h.g,?_,h.op,h.lf,h.lk,h.st⟩ Iff.rfl λz=>absurd hu z) _;show dJ _ b x=dJ _ b x;rw[h.pu]
theorem Sm.begin(S:Sm K M)(ha:a∉K.ids):Sm (dc K a) (iV M a):=by
 have ne:∀y∈K.ids,y≠a:=λy hy e=>ha (by rw[<-e];exact hy);refine⟨S.bx,S.ma,S.ck,by show M.ids++[a]=K.ids++[a];rw[S.ids],by show M.lg++_=K.ev++_;rw[S.lg],S.tk,λy hy=>?_,λb o=>?_⟩;rcases ZF.mp hy with h|h;rw[show(dc K a).A y=K.A y from XS (ne y h),show(iV M a).A y=M.A y from XS (ne y h)];exact S.A y h;rw[ZX.mp h,show(dc K a).A a=a0 K.tk from XO rfl,show(iV M a).A a=⟨M.ck,[],[],[],-1,true⟩from XO rfl];exact⟨S.ck,rfl,rfl,rfl,λb=>Iff.rfl,.inl ⟨rfl,by show(-1:Int)<0;omega,rfl⟩⟩;show aZ K.ho b=some o↔o∈K.ids++[a]/\_;rw[S.ho,ZF,ZX];constructor;rintro⟨h1,h2,h3⟩;exact⟨.inl h1,by rw[show(dc K a).A o=K.A o from XS (ne o h1)];exact⟨h2,h3⟩⟩;rintro⟨h1|rfl,h2,h3⟩;rw[show(dc K a).A o=K.A o from XS (ne o h1)]at h2 h3;exact⟨h1,h2,h3⟩;rw[show(dc K o).A o=a0 K.tk from XO rfl]at h2;exact absurd rfl h2
theorem t8{l:List (Int×Int)}{b:Int}:(aZ l b).isSome=true↔b∈l.map (·.1):=
 ⟨λh=>Classical.byContradiction λz=>(by rw[my.mpr z]at h;cases h),oX⟩
theorem Sm.take(S:Sm K M)(ha:a∈K.ids)(st:(K.A a).st=none):(lQ M a).1=(js K a).1/\Sm (js K a).2 (lQ M a).2:=by
 have h:=S.A a ha;have hu:=En S ha st;unfold lQ js;rw[h.pu];by_cases hp:(K.A a).pu=[];rw[XO hp,XO hp];exact⟨rfl,S.end ha _⟩;rw[XS hp,XS hp];have eb:(!eV M a||((K.A a).pu.map (·.1)).any (eL M a))=(brd K a (K.A a).lk||(brd K a ((K.A a).pu.map (·.1))||Br K a)):=by
  have:((K.A a).pu.map (·.1)).any (eL M a)=brd K a ((K.A a).pu.map (·.1)):=by
   unfold brd;congr 1;funext b;exact p9 S
  rw[vS S ha,Bool.not_not,this];cases brd K a (K.A a).lk<;>cases Br K a<;>cases brd K a ((K.A a).pu.map (·.1))<;>rfl
 rw[eb];cases hb:(brd K a (K.A a).lk||(brd K a ((K.A a).pu.map (·.1))||Br K a))with
 |true=>rw[XO rfl,XO rfl];exact⟨rfl,S.end ha _⟩
 |false=>
  rw[XS QV,XS QV];refine⟨rfl,S.bx,S.ma,by show M.ck+1=K.tk+1;rw[S.ck],S.ids,S.lg,by show 0<=K.tk+1;have:=S.tk;omega,λy hy=>?_,λd o=>?_⟩;by_cases e:y=a;subst e;show Sa ((K.up y _).A y) ((M.up y _).A y);rw[gI,gJ];exact⟨h.g,h.pu,h.op,rfl,h.lk,.inr ⟨K.tk+1,rfl,by show M.ck+1=K.tk+1;rw[S.ck],by have:=S.tk;omega⟩⟩;show Sa ((K.up a _).A y) ((M.up a _).A y);rw[show(K.up a _).A y=K.A y from XS e,show(M.up a _).A y=M.A y from XS e];exact S.A y hy;have free:∀d∈(K.A a).pu.map (·.1),(aZ K.ho d).getD a=a:=λd hd=>by
   have hb2:brd K a ((K.A a).pu.map (·.1))=false:=by
    cases z:brd K a ((K.A a).pu.map (·.1))with
    |false=>rfl
    |true=>rw[z]at hb;simp at hb
   unfold brd at hb2;have:=List.any_eq_false.mp hb2 d hd;simpa using this
  have pm:=jk ((K.A a).pu.map (·.1));show aZ (hold a (cg ((K.A a).pu.map (·.1))) K.ho) d=some o↔o∈K.ids/\((K.up a _).A o).un≠[]/\(aZ ((K.up a _).A o).pu d).isSome=true;rw[lW];simp only[pm.mem_iff];by_cases e:o=a;subst e;rw[gI];by_cases hd:d∈(K.A o).pu.map (·.1);rw[XO hd];refine⟨λ_=>⟨ha,λz=>?_,t8.mpr hd⟩,λ_=>rfl⟩;have z':cg ((K.A o).pu.map (·.1))=[]:=z;rw[z']at pm;exact absurd (pm.mem_iff.mpr hd) nofun;rw[XS hd];constructor;intro z;exact absurd hu ((S.ho d o).mp z).2.1;rintro⟨_,_,z⟩;exact absurd (t8.mp z) hd;rw[show(K.up a _).A o=K.A o from XS e];by_cases hd:d∈(K.A a).pu.map (·.1);rw[XO hd];constructor;intro z;exact absurd (Yc z).symm e;intro z;have:=free d hd;rw[(S.ho d o).mpr z]at this;exact absurd this e;rw[XS hd];exact S.ho d o
theorem AN{l:List (Int×Int)}{b d:Int}(h:d=b\/aZ l d=none):aZ (iB l b) d=none:=by
 rw[my]at h ⊢;intro z;let⟨e,he,rfl⟩:=ZT.mp z;unfold iB at he;rw[List.mem_filter]at he;rcases h with h|h;simpa [h] using he.2;exact h (ZT.mpr ⟨e,he.1,rfl⟩)
theorem ow:∀(bs:List Int) (ho:List (Int×Int)) (d:Int),(d∈bs\/aZ ho d=none)->aZ (de bs ho) d=none
 |[],ho,d,h=>h.resolve_left nofun
 |b::bs,ho,d,h=>ow bs (iB ho b) d (by
  by_cases e:d∈bs;exact .inl e;refine .inr (AN (h.imp (λz=>?_) id));exact(Z8.mp z).resolve_right e)
theorem Sm.write(S:Sm K M)(I:Ki K n)(ha:a∈K.ids)(op:(K.A a).op=true)(st:(K.A a).st.isSome=true):(gK M a).1=(eM K a).1/\Sm (eM K a).2 (gK M a).2:=by
 have h:=S.A a ha;have t:=I.tak a ha op st;let⟨tt,ht⟩:=Zz.mp st;obtain⟨t',h1,h2,h3⟩:∃t,(K.A a).st=some t/\(M.A a).st=t/\0<=t:=by
  rcases h.st with z|z;rw[z.1]at ht;cases ht;exact z
 unfold gK eM;rw[h.lf];cases hu:(K.A a).un with
 |nil=>exact absurd hu t.un
 |cons b r=>
  dsimp only;have e1:M.bx.set b.toNat ((aZ (M.A a).pu b).getD 0)=K.bx.set b.toNat ((aZ (K.A a).pu b).getD 0):=by rw[h.pu,S.bx]
  have e2:M.ma.set b.toNat (M.A a).st=K.ma.set b.toNat ((K.A a).st.getD 0):=by rw[S.ma,h1,h2];rfl
  rw[e1,e2];have J:∀(x y:List Int) (K:Kc) (M:Mo),Sm K M->Sm { K with bx:=x,ma:=y } { M with bx:=x,ma:=y }:=λx y K M S=>⟨rfl,rfl,S.ck,S.ids,S.lg,S.tk,S.A,S.ho⟩;by_cases hr:r=[];rw[XO hr,XO hr];refine⟨rfl,?_⟩;have S1:Sm { K.up a { K.A a with un:=r } with ho:=de ((K.A a).pu.map (·.1)) K.ho } (M.up a { M.A a with lf:=r }):=by
   refine⟨S.bx,S.ma,S.ck,S.ids,S.lg,S.tk,λy hy=>?_,λd o=>?_⟩;by_cases e:y=a;subst e;show Sa ((K.up y _).A y) ((M.up y _).A y);rw[gI,gJ];exact⟨h.g,h.pu,h.op,rfl,h.lk,.inr ⟨t',h1,h2,h3⟩⟩;show Sa ((K.up a _).A y) ((M.up a _).A y);rw[show(K.up a _).A y=K.A y from XS e,show(M.up a _).A y=M.A y from XS e];exact S.A y hy;show aZ (de ((K.A a).pu.map (·.1)) K.ho) d=some o↔o∈K.ids/\((K.up a _).A o).un≠[]/\(aZ ((K.up a _).A o).pu d).isSome=true;by_cases hd:d∈(K.A a).pu.map (·.1);rw[ow _ _ d (.inl hd)];refine⟨(λz=>nomatch z),λ⟨z1,z2,z3⟩=>?_⟩;by_cases e:o=a;subst e;rw[gI]at z2;exact absurd hr z2;rw[show(K.up a _).A o=K.A o from XS e]at z2 z3;have e1:=(S.ho d o).mpr ⟨z1,z2,z3⟩;have e2:=t.hld d hd;rw[e1]at e2;exact absurd (Yc e2) e;rw[mx _ _ d hd,S.ho];by_cases e:o=a;subst e;rw[gI];constructor;rintro⟨_,_,z⟩;exact absurd (t8.mp z) hd;rintro⟨_,z,_⟩;exact absurd hr z;rw[show(K.up a _).A o=K.A o from XS e]
  have S2:=J (K.bx.set b.toNat ((aZ (K.A a).pu b).getD 0)) (K.ma.set b.toNat ((K.A a).st.getD 0)) _ _ S1;have S3:=S2.end (a:=a) ha "done";exact S3;rw[XS hr,XS hr];refine⟨rfl,J _ _ _ _ (S.up ha ⟨h.g,h.pu,h.op,rfl,h.lk,.inr ⟨t',h1,h2,h3⟩⟩ ?_ λ_=>rfl)⟩;show r=[]↔(K.A a).un=[];rw[hu];exact⟨λz=>absurd z hr,(λz=>nomatch z)⟩
end
variable{cK cA:Cl}{CP:Addr}
section
variable{CA:Addr}{v:Int}
theorem jS{cl:Cl}{f:FnR}{ca:CE}{cr:OP.CA}{ρ:Rho}{S:Sto}{l:Nat}{fs:List (Option U)}{us:List U}(h1:ca ρ S=some (.ref l,S))(h2:S[l]?=some (.ins cl fs))(h3:cr ρ S=some (us,S)):iE cl f ca cr ρ S=f (.ref l::us) S:=by
 unfold iE;rw[h1,Q9];simp only[h2,h3,if_true,Q9]
theorem xq{t:CT}{x1 x2:CR}{ρ:Rho}{S S':Sto}{b:Bool}(h:t ρ S=some (b,S')):xIf t x1 x2 ρ S=if b=true then x1 ρ S' else x2 ρ S':=by
 unfold xIf;rw[h,Q9]
theorem Ds{x1 x2:Str}{ρ:Rho}{S:Sto}{C:Addr}{a:Int}(h:ρ[1]?=some (uI a))(a0:0<=a)(a1:a<1000):mq C (ag (cFs x1 x2 (ah 1)) aE) ρ S=some (C,S):=by
 have e:ah 1 ρ S=some (.int a,S):=by unfold ah;rw[h]
 have e2:cFs x1 x2 (ah 1) ρ S=some (.str (x1++Str.ofString (toString a)++x2),S):=by
  unfold cFs;rw[e,Q9];simp only[a0,a1,and_self,if_true]
 unfold mq;rwa[e2]
def LO(K:Kc)(a:Int):Prop:=a∉K.ids\/(a∈K.ids/\(K.A a).op=false)
def lj(cK cA:Cl)(CA CP:Addr):FnR:=fnX 2 2 (bQ cK cA CA CP)
theorem OF(M:Mm pos c T)(R:Kr cK cA j pos c K p q)(r:Rho):(LO K a->cOr (aG (cOp (fIn true) (ah 1) (bD cK 5 (ah 0)))) (sS (aG (bD cA 5 (cOp fIx (bD cK 5 (ah 0)) (ah 1))))) (uR (p 0)::uI a::r) T=some (true,T))/\(a∈K.ids->(K.A a).op=true->cOr (aG (cOp (fIn true) (ah 1) (bD cK 5 (ah 0)))) (sS (aG (bD cA 5 (cOp fIx (bD cK 5 (ah 0)) (ah 1))))) (uR (p 0)::uI a::r) T=some (false,T)):=by
 have t0:=M.get (R.pk 0 ∅) R.c0;have t5:=M.get (R.pk 5 ∅) R.c5;refine⟨λh=>?_,λha op=>?_⟩;rcases h with h|⟨ha,op⟩;have v:=gH (q:=q) h;rwa[t0,t5,v,XU,XT,if_true];have tr:=M.get (R.pa a ha 0 ∅) (R.a0 a ha);have v:=bb (q:=q) ha;rw[op]at tr;rwa[t0,t5,v,tr,ZI,X0,if_true];have tr:=M.get (R.pa a ha 0 ∅) (R.a0 a ha);have v:=bb (q:=q) ha;rw[op]at tr;rwa[t0,t5,v,tr,ZI,X0,if_true]
theorem nev{t:CT}{ρ:Rho}{S S':Sto}{cr:CS}(h:t ρ S=some (true,S')):aT (dh t oP bI) cr ρ S=none:=by
 rw[oS,jT,h];rfl
theorem wX(M:Mm pos c T)(R:Kr cK cA j pos c K p q)(h:LO K a)(a0:0<=a)(a1:a<1000):gF cK cA [.ref (p 0),.int a] T=none/\lj cK cA CA CP [.ref (p 0),.int a] T=some (CA,T):=by
 constructor;unfold gF;rw[uX];unfold eG;rw[nev ((OF M R []).1 h)];rfl;unfold lj;rw[iZ];unfold bQ;rw[xq ((OF M R []).1 h),XO rfl];exact Ds rfl a0 a1
theorem AB(M:Mm pos c T)(R:Kr cK cA j pos c K p q)(ha:a∈K.ids)(op:(K.A a).op=true):lj cK cA CA CP [.ref (p 0),.int a] T=none:=by
 unfold lj;rw[iZ];unfold bQ;rw[xq ((OF M R []).2 ha op),XS QV];rfl
theorem LH{x1 x2:CR}{ρ:Rho}{S:Sto}{r:Addr×Sto}(h:x1 ρ S=some r):El x1 x2 ρ S=some r:=by
 unfold El;rw[h]
theorem LG{x1 x2:CR}{ρ:Rho}{S:Sto}{r:Addr×Sto}(h:x1 ρ S=none)(h2:x2 ρ S=some r):El x1 x2 ρ S=some r:=by
 unfold El;rw[h];exact h2
theorem Io{c1:CS}{x:CR}{ρ ρ':Rho}{S S':Sto}(h:c1 ρ S=some (.nx,ρ',S')):Jd c1 x ρ S=x ρ' S':=by
 unfold Jd;rw[h];rfl
def gD(cK cA:Cl)(CA CP:Addr):FnR:=fnX 3 2 (bz (gF cK cA) (lj cK cA CA CP) cK cA CA CP)
theorem BU(M:Mm pos c T)(R:Kr cK cA j pos c K p q)(h:LO K a)(a0:0<=a)(a1:a<1000):c8 cK cA [.ref (p 0),.int a] T=none/\gD cK cA CA CP [.ref (p 0),.int a] T=some (CA,T):=by
 have t0:=M.get (R.pk 0 ∅) R.c0;let⟨e1,e2⟩:=wX (CA:=CA) (CP:=CP) M R h a0 a1;constructor;unfold c8;rw[x6];rwa[bX,t0,e1,Zg];unfold gD;rw[gM];unfold bz;exact LH ((jS (us:=[.int a]) rfl t0 rfl).trans e2)
theorem BS{t:Int}(M:Mm pos c T)(R:Kr cK cA j pos c K p q)(ha:a∈K.ids)(op:(K.A a).op=true)(st:(K.A a).st=some t)(a0:0<=a)(a1:a<1000):c8 cK cA [.ref (p 0),.int a] T=none/\gD cK cA CA CP [.ref (p 0),.int a] T=some (CP,T):=by
 have t0:=M.get (R.pk 0 ∅) R.c0;have tr:=M.get (R.pa a ha 0 ∅) (R.a0 a ha);have f:=mh M R ha op;have fx:=AB (CA:=CA) (CP:=CP) M R ha op;rw[st]at tr;constructor;unfold c8;rw[x6];unfold bX;rw[bF (ρ':=[uR (p 0),uI a,uR (q a 0)]) (S':=T) (by rwa[t0,f])];rw[nev (S':=T) (by rwa[tr,stU,yx,wQ])];rfl;unfold gD;rw[gM];unfold bz;refine LG ((jS (us:=[.int a]) rfl t0 rfl).trans fx) ?_;rw[Io (ρ':=[uR (p 0),uI a,uR (q a 0)]) (S':=T) (by rwa[t0,f])];rw[xq (S':=T) (b:=true) (by rwa[tr,stU,yx,wQ]),XO rfl];exact Ds rfl a0 a1
def vh(cK:Cl)(CA CP:Addr):FnR:=fnX 2 2 (cf cK CA CP)
theorem DU(M:Mm pos c T)(R:Kr cK cA j pos c K p q)(ha:a∈K.ids)(a0:0<=a)(a1:a<1000):nJ cK cA [.ref (p 0),.int a] T=none/\vh cK CA CP [.ref (p 0),.int a] T=some (CA,T):=by
 have t0:=M.get (R.pk 0 ∅) R.c0;have t5:=M.get (R.pk 5 ∅) R.c5;have v:=bb (q:=q) ha;have t:∀r:Rho,aG (cOp (fIn false) (ah 1) (bD cK 5 (ah 0))) (uR (p 0)::uI a::r) T=some (true,T):=λr=>by rwa[t0,t5,v,ZI,ZU,if_false]
 constructor;unfold nJ;rw[uX];unfold eI;rw[nev (t _)];rfl;unfold vh;rw[nj];unfold cf;rw[xq (t _),XO rfl];exact Ds rfl a0 a1
def Bg(cK cA:Cl)(CA CP:Addr):FnR:=fnX 5 3 (cQ (gD cK cA CA CP) cK CA CP)
def Bh(cK cA:Cl)(CA CP:Addr):FnR:=fnX 5 4 (di (gD cK cA CA CP) cK CA CP)
def vb(cK cA:Cl)(CA CP:Addr):FnR:=fnX 4 2 (cP (gD cK cA CA CP) cK CA CP)
def ve(cK cA:Cl)(CA CP:Addr):FnR:=fnX 2 2 (cR (gD cK cA CA CP) cK CA CP)
def jq(cK cA:Cl)(CA CP:Addr):FnR:=fnX 5 2 (bP (gF cK cA) (lj cK cA CA CP) cK cA CA CP)
def nI(cK cA:Cl):Fn:=fnU 2 2 (fk (c8 cK cA) (jy cK cA) cK)
section
variable{C:Addr}(t0:T[p 0]?=some (kO cK p K.tk))(h:c8 cK cA [.ref (p 0),.int a] T=none/\gD cK cA CA CP [.ref (p 0),.int a] T=some (C,T))
include t0 h
theorem Hc:tq cK cA [.ref (p 0),.int a,.int b] T=none/\Bg cK cA CA CP [.ref (p 0),.int a,.int b] T=some (C,T):=by
 let⟨e1,e2⟩:=h;refine⟨?_,by unfold Bg;rw[oh];unfold cQ;exact(jS (us:=[.int a]) rfl t0 rfl).trans e2⟩;unfold tq;rw[DD];rwa[cE,t0,e1,Zg]
theorem JX:tD cK cA [.ref (p 0),.int a,.int b,.int v] T=none/\Bh cK cA CA CP [.ref (p 0),.int a,.int b,.int v] T=some (C,T):=by
 let⟨e1,e2⟩:=h;refine⟨?_,by unfold Bh;rw[qo];unfold di;exact(jS (us:=[.int a]) rfl t0 rfl).trans e2⟩;unfold tD;rw[Ls];rwa[f7,t0,e1,Zg]
theorem FY:nG cK cA [.ref (p 0),.int a] T=none/\vb cK cA CA CP [.ref (p 0),.int a] T=some (C,T):=by
 let⟨e1,e2⟩:=h;refine⟨?_,by unfold vb;rw[og];unfold cP;exact(jS (us:=[.int a]) rfl t0 rfl).trans e2⟩;unfold nG;rw[kZ];rwa[fj,t0,e1,Zg]
theorem Hy:nI cK cA [.ref (p 0),.int a] T=none/\ve cK cA CA CP [.ref (p 0),.int a] T=some (C,T):=by
 let⟨e1,e2⟩:=h;refine⟨?_,by unfold ve;rw[oi];unfold cR;exact(jS (us:=[.int a]) rfl t0 rfl).trans e2⟩;unfold nI;rw[uX];rwa[fk,t0,e1,Zg]
end
theorem BA(M:Mm pos c T)(R:Kr cK cA j pos c K p q)(h:LO K a)(a0:0<=a)(a1:a<1000):gh cK cA [.ref (p 0),.int a] T=none/\jq cK cA CA CP [.ref (p 0),.int a] T=some (CA,T):=by
 have t0:=M.get (R.pk 0 ∅) R.c0;let⟨e1,e2⟩:=wX (CA:=CA) (CP:=CP) M R h a0 a1;refine⟨?_,by unfold jq;rw[iY];unfold bP;exact LH ((jS (us:=[.int a]) rfl t0 rfl).trans e2)⟩;unfold gh;rw[DG];rwa[cS,t0,e1,Zg]
theorem By(M:Mm pos c T)(R:Kr cK cA j pos c K p q)(ha:a∈K.ids)(op:(K.A a).op=true)(st:(K.A a).st=none)(a0:0<=a)(a1:a<1000):gh cK cA [.ref (p 0),.int a] T=none/\jq cK cA CA CP [.ref (p 0),.int a] T=some (CP,T):=by
 have t0:=M.get (R.pk 0 ∅) R.c0;have tr:=M.get (R.pa a ha 0 ∅) (R.a0 a ha);have f:=mh M R ha op;have fx:=AB (CA:=CA) (CP:=CP) M R ha op;rw[st]at tr;constructor;unfold gh;rw[DG];unfold cS;rw[bF (ρ':=[uR (p 0),uI a,uR (q a 0),none,none]) (S':=T) (by rwa[t0,f])];rw[nev (S':=T) (by rwa[tr,stU,yz,rW])];rfl;unfold jq;rw[iY];unfold bP;refine LG ((jS (us:=[.int a]) rfl t0 rfl).trans fx) ?_;rw[Io (ρ':=[uR (p 0),uI a,uR (q a 0),none,none]) (S':=T) (by rwa[t0,f])];rw[xq (S':=T) (b:=true) (by rwa[tr,stU,yz,rW]),XO rfl];exact Ds rfl a0 a1
end
section
variable{CA:Addr}{m:Nat}{k:Kv}
def jB(K:Kc):Kv->U×Kc
 |.k x=>Ap K x
 |.fl a=>(.non,K.end a "fall")
def VOk(K:Kc)(n:Nat):Kv->Prop
 |.k x=>P8 K n x
 |.fl a=>a∈K.ids/\(K.A a).op=true/\(K.A a).st=none
theorem FV(I:Ki K n)(h:VOk K n k):Ki (jB K k).2 n:=by
 cases k with
 |k x=>exact I.call h
 |fl a=>exact I.end h.1 _
theorem FW(B:Kb K m):Kb (jB K k).2 (m+1):=by
 cases k with
 |k x=>exact B.call
 |fl a=>exact AL B
theorem O8:AnU (jB K k).1:=by
 cases k with
 |k x=>exact O0
 |fl a=>exact .no
theorem De(M:Mm pos c T)(R:Kr cK cA j pos c K p q)(ha:a∈K.ids)(op:(K.A a).op=true)(st:(K.A a).st=none)(hl:K.ev.length<=9000):Wp (nI cK cA [.ref (p 0),.int a] T) λr=>r.1=.non/\Nx cK cA j pos c p (K.end a "fall") r.2:=by
 have t0:=M.get (R.pk 0 ∅) R.c0;have f:=lY M R ha op st;let⟨⟨u,T1⟩,e,rfl,N⟩:=mW (w:="fall") M R ha hl;refine⟨(.non,T1),?_,rfl,N⟩;unfold nI;rw[uX];rwa[fk,t0,f,e]
theorem PM{w z:Str}{x0 x1:Option U}{R:Rho}{ca cb:CS}{S:Sto}:dh (aG (cOp fEq (ah 2) (cC (.str z)))) ca cb (x0::x1::some (.str w)::R) S=if decide (w=z)=true then ca (x0::x1::some (.str w)::R) S else cb (x0::x1::some (.str w)::R) S:=by
 have tw:aG (cOp fEq (ah 2) (cC (.str z))) (x0::x1::some (.str w)::R) S=some (decide (w=z),S):=rfl;rw[jT,tw];cases decide (w=z)<;>rfl
theorem Jq{Cs:List Addr}{i:Nat}{c h:CS}{x:CR}{ρ:Rho}{S:Sto}{r:Out×Rho×Sto}(e:c ρ S=some r):DQ Cs i c x h ρ S=some r:=by
 unfold DQ;rw[e]
theorem Ld{w z:Str}{x0 x1:Option U}{R:Rho}{ca cb:CR}{S:Sto}:xIf (aG (cOp fEq (ah 2) (cC (.str z)))) ca cb (x0::x1::some (.str w)::R) S=if decide (w=z)=true then ca (x0::x1::some (.str w)::R) S else cb (x0::x1::some (.str w)::R) S:=xq rfl
section
variable{w z:Str}{x0 x1:Option U}{R:Rho}{ca cb:CS}{xa xb:CR}{S:Sto}
theorem dg(h:decide (w=z)=false):dh (aG (cOp fEq (ah 2) (cC (.str z)))) ca cb (x0::x1::some (.str w)::R) S=cb (x0::x1::some (.str w)::R) S:=by rw[PM,h];rfl
theorem nW:dh (aG (cOp fEq (ah 2) (cC (.str w)))) ca cb (x0::x1::some (.str w)::R) S=ca (x0::x1::some (.str w)::R) S:=by rw[PM,Xz rfl];rfl
theorem jK(h:decide (w=z)=false):xIf (aG (cOp fEq (ah 2) (cC (.str z)))) xa xb (x0::x1::some (.str w)::R) S=xb (x0::x1::some (.str w)::R) S:=by rw[Ld,h];rfl
theorem Aw:xIf (aG (cOp fEq (ah 2) (cC (.str w)))) xa xb (x0::x1::some (.str w)::R) S=xa (x0::x1::some (.str w)::R) S:=by rw[Ld,Xz rfl];rfl
end
def rfW:Bool->Str
 |true=>"noattempt"
 |false=>"nostep"
theorem eQ{a0 a1 a2 a3:Option U}{cr:CS}{S:Sto}:aT (cH 4 (cC .non)) (aT (cH 5 (cC .non)) cr) [a0,a1,a2,a3,none,none,none,none] S=cr [a0,a1,a2,a3,some .non,some .non,none,none] S:=by
 rw[bF (ρ':=[a0,a1,a2,a3,some .non,none,none,none]) (S':=S) rfl,bF (ρ':=[a0,a1,a2,a3,some .non,some .non,none,none]) (S':=S) rfl]
theorem gQ{Cs:List Addr}{a0 a1 a2 a3:Option U}{u:U}{c1 h cr:CS}{x1:CR}{S S1:Sto}(e:c1 [a0,a1,a2,a3,some .non,some .non,none,none] S=some (.nx,[a0,a1,a2,a3,some u,some .non,none,none],S1)):(aT (DQ Cs 7 c1 x1 h) (aT (dh (aG (cOp Dz (ah 5) (cC .non))) (bV (ah 4)) bI) cr) [a0,a1,a2,a3,some .non,some .non,none,none] S).bind kFn=some (u,S1):=by
 rw[bF (Jq e)];rfl
theorem jo{w:Str}{x:U}{r:List U}{k0:Nat}{t:Bool}{C:Addr}(hne:CA≠CP)(hC:C=if t then CA else CP){c1:CS}{x1:CR}
  (e1:c1 [uR k0,some (.tup (.str w::x::r)),some (.str w),some x,some .non,some .non,none,none] T=none) (e2:x1 [uR k0,some (.tup (.str w::x::r)),some (.str w),some x,some .non,some .non,none,none] T=some (C,T)) :
  ∃X,(aT (DQ [CA,CP] 7 c1 x1 (cH 5 (ah 7)))
  (aT (dh (aG (cOp Dz (ah 5) (cC .non))) (bV (ah 4)) bI)
  (aT (cH 6 (jn (ag (ye (fX CA CP true false) (ah 5)) (ag (ye (fX CA CP false true) (ah 5)) (ag (ye (fX CA CP false false) (ah 5)) aE)))))
  (aT (dh (cOr (aG (cOp fNe (cBM uV (ah 6) (ag (cC (.bl true)) aE)) (cC (.int 1)))) (sS (aG (ye (fX CA CP true true) (ah 5))))) (bV (cC (.str "odd"))) bI)
  (bV (cOp fIx (jn (ag (cC (.str "noattempt")) (ag (cC (.str "nostep")) (ag (cC (.str "odd")) aE)))) (cBM uT (ah 6) (ag (cC (.bl true)) aE))))))) [uR k0,some (.tup (.str w::x::r)),some (.str w),some x,some .non,some .non,none,none] T).bind kFn=some (.str (rfW t),T++X):=by
 have hm:C∈[CA,CP]:=by cases t<;>simp[hC]
 have et:DQ [CA,CP] 7 c1 x1 (cH 5 (ah 7)) [uR k0,some (.tup (.str w::x::r)),some (.str w),some x,some .non,some .non,none,none] T=some (.nx,[uR k0,some (.tup (.str w::x::r)),some (.str w),some x,some .non,uR T.length,none,none],T++[.exc C]):=by
  unfold DQ;rw[e1];dsimp only;rw[e2,Q9,XO hm];rfl
 have gx:∀Y,(T++(O.exc C::Y))[T.length]?=some (.exc C):=λY=>by rw[ga0];rfl
 have gx0:=gx [];have f1:∀b1 b2,fX CA CP b1 b2 C=some (if t then b1 else b2):=λb1 b2=>by
  unfold fX;cases t with
  |true=>have hC':C=CA:=hC;rw[XO hC'];rfl
  |false=>have hC':C=CP:=hC;rw[XS (λz=>hne (z.symm.trans hC')),XO hC'];rfl
 have ix:∀b1 b2 Y (R:Rho),ye (fX CA CP b1 b2) (ah 5) (uR k0::some (.tup (.str w::x::r))::some (.str w)::some x::some .non::uR T.length::R) (T++(O.exc C::Y))=some (.bl (if t then b1 else b2),T++(O.exc C::Y)):=λb1 b2 Y R=>by
  unfold ye;show Option.bind (some (U.ref T.length,T++(O.exc C::Y))) _=_;rw[Q9];simp only[gx Y,f1,Q9]
 have gl:∀Y,(T++[O.exc C,.lst [.bl (if t then true else false),.bl (if t then false else true),.bl (if t then false else false)]]++Y)[T.length+1]?=some (.lst [.bl (if t then true else false),.bl (if t then false else true),.bl (if t then false else false)]):=λY=>by rw[ZJ,ga];rfl
 refine⟨[.exc C,.lst [.bl (if t then true else false),.bl (if t then false else true),.bl (if t then false else false)],.lst [.str "noattempt",.str "nostep",.str "odd"]],?_⟩;rw[bF et];rw[bF (ρ':=[uR k0,some (.tup (.str w::x::r)),some (.str w),some x,some .non,uR T.length,none,none]) (S':=T++[.exc C]) rfl];rw[bF (ρ':=[uR k0,some (.tup (.str w::x::r)),some (.str w),some x,some .non,uR T.length,uR (T.length+1),none]) (S':=T++[O.exc C,.lst [.bl (if t then true else false),.bl (if t then false else true),.bl (if t then false else false)]]) (by rwa[ix];simp)];have g1:=gl [];rw[Zv]at g1;have g2:=gl [.lst [.str "noattempt",.str "nostep",.str "odd"]];have cn:uV (.ref (T.length+1)) [.bl true] (T++[O.exc C,.lst [.bl (if t then true else false),.bl (if t then false else true),.bl (if t then false else false)]])=some (.int 1,T++[O.exc C,.lst [.bl (if t then true else false),.bl (if t then false else true),.bl (if t then false else false)]]):=by
  unfold uV;simp only[g1];cases t<;>rfl
 have dx:uT (.ref (T.length+1)) [.bl true] (T++[O.exc C,.lst [.bl (if t then true else false),.bl (if t then false else true),.bl (if t then false else false)]]++[.lst [.str "noattempt",.str "nostep",.str "odd"]])=some (.int (if t then 0 else 1),T++[O.exc C,.lst [.bl (if t then true else false),.bl (if t then false else true),.bl (if t then false else false)]]++[.lst [.str "noattempt",.str "nostep",.str "odd"]]):=by
  unfold uT;simp only[g2];cases t<;>rfl
 have i2:=ix true true [.lst [.bl (if t then true else false),.bl (if t then false else true),.bl (if t then false else false)]] [uR (T.length+1),none];obtain⟨S2,hS2⟩:∃S2,S2=T++[O.exc C,.lst [.bl (if t then true else false),.bl (if t then false else true),.bl (if t then false else false)]]:=⟨_,rfl⟩;have fin:T++[O.exc C,.lst [.bl (if t then true else false),.bl (if t then false else true),.bl (if t then false else false)],.lst [.str "noattempt",.str "nostep",.str "odd"]]=S2++[.lst [.str "noattempt",.str "nostep",.str "odd"]]:=by rw[hS2];simp
 rw[fin];rw[<-hS2]at cn dx i2 g1 g2 ⊢;have it:(if t then true else true)=true:=by cases t<;>rfl
 rw[it]at i2;rw[bF (ρ':=[uR k0,some (.tup (.str w::x::r)),some (.str w),some x,some .non,uR T.length,uR (T.length+1),none]) (S':=S2) (by rwa[g1,cn,i2])];have g3:(S2++[O.lst [.str "noattempt",.str "nostep",.str "odd"]])[S2.length]?=some (.lst [.str "noattempt",.str "nostep",.str "odd"]):=by rw[ga0];rfl
 have ai:atI [U.str "noattempt",.str "nostep",.str "odd"] (if t then 0 else 1)=some (.str (rfW t)):=by cases t<;>rfl
 rwa[g2,dx,g3,ai]
def nL(cK cA:Cl)(CA CP:Addr):Fn:=fnU 8 2 (aW (nJ cK cA) (tq cK cA) (tD cK cA) (nG cK cA) (gh cK cA) (nI cK cA) (vh cK CA CP) (Bg cK cA CA CP) (Bh cK cA CA CP) (vb cK cA CA CP) (jq cK cA CA CP) (ve cK cA CA CP) cK CA CP)
theorem DV(hns:cA.ns.length=6)(M:Mm pos c T)(R:Kr cK cA j pos c K p q)(I:Ki K n)(B:Kb K m)(hm:m<=1000)(h:VOk K n k):Wp (nL cK cA CA CP [.ref (p 0),k.uu] T) λr=>r.1=(jB K k).1/\Nx cK cA j pos c p (jB K k).2 r.2:=by
 have t0:=M.get (R.pk 0 ∅) R.c0;have b1:=B.ev;have b2:=B.tk;have b3:=B.ids;have b4:=I.hol;unfold nL;cases k with
 |fl a=>
  let⟨ha,op,st⟩:=h;let⟨⟨u,T1⟩,e,rfl,N⟩:=De M R ha op st ⋯;refine⟨(_,T1),?_,rfl,N⟩;rw[lT];unfold aW;simp only[Kv.uu];rw[bF (swK _ _ _ _ _ _),eQ];exact gQ (u:=.non) (by rw[dg LA,dg Ms,dg OX,dg Mq,dg Lz];rwa[t0,e])
 |k k=>
  cases k with
  |bg a=>
   let⟨⟨u,T1⟩,e,rfl,N⟩:=DT hns M R h ⋯ ⋯;refine⟨(_,T1),?_,rfl,N⟩;rw[lT];unfold aW;simp only[Kv.uu,Kl.u];rw[bF (swK _ _ _ _ _ _),eQ];exact gQ (u:=.non) (by rw[nW];rwa[t0,e])
  |lk a b=>
   let⟨⟨ha,op,st⟩,b0,b1'⟩:=h;let⟨⟨u,T1⟩,e,rfl,N⟩:=Hb M R I.w ha op st b0 b1' ⋯;refine⟨(_,T1),?_,rfl,N⟩;rw[lT];unfold aW;simp only[Kv.uu,Kl.u];rw[bF (swK _ _ _ _ _ _),eQ];exact gQ (u:=(jt K a b).1) (by rw[dg Lx,nW];rwa[t0,e])
  |pt a b v=>
   let⟨⟨ha,op,st⟩,b0,b1'⟩:=h;let⟨⟨u,T1⟩,e,rfl,N⟩:=Hh (b:=b) (v:=v) M R I.w ha op st ⋯;refine⟨(_,T1),?_,rfl,N⟩;rw[lT];unfold aW;simp only[Kv.uu,Kl.u];rw[bF (swK _ _ _ _ _ _),eQ];exact gQ (u:=.non) (by rw[dg Lw,dg Mp,nW];rwa[t0,e])
  |tk a=>
   let⟨ha,op,st⟩:=h;let⟨⟨u,T1⟩,e,rfl,N⟩:=Dd M R I.w ha op st ⋯ ⋯;refine⟨(_,T1),?_,rfl,N⟩;rw[lT];unfold aW;simp only[Kv.uu,Kl.u];rw[bF (swK _ _ _ _ _ _),eQ];exact gQ (u:=(.str (js K a).1)) (by rw[dg Lu,dg Mn,dg OU,nW];rwa[t0,e])
  |wr a=>
   let⟨ha,op,st⟩:=h;have t:=I.tak a ha op st;let⟨tt,ht⟩:=Zz.mp st;cases hu:(K.A a).un with
   |nil=>exact absurd hu t.un
   |cons b r=>
    have hb:b∈(K.A a).pu.map (·.1):=t.sub b (by rw[hu];exact QH);let⟨b0,b1'⟩:=I.pub a ha b hb;have fw:=t.few;rw[hu,QK]at fw;let⟨⟨u,T1⟩,e,rfl,N⟩:=Bz M R I.w ha op ht hu b0 b1' (oX hb) ⋯ (λ_ d hd=>by rw[t.hld d hd];rfl) ⋯;refine⟨(_,T1),?_,rfl,N⟩;rw[lT];unfold aW;simp only[Kv.uu,Kl.u];rw[bF (swK _ _ _ _ _ _),eQ];exact gQ (u:=(.str (eM K a).1)) (by rw[dg Ig,dg Ml,dg OT,dg Mj,nW];rwa[t0,e])
def DOk(M:Mo)(n:Nat):Kv->Prop
 |.k (.wr a)=>a∈M.ids/\(M.A a).op=true/\0<=(M.A a).st
 |k=>Mz M n k
theorem F9(S:Sm K M)(ha:a∈K.ids)(h:(M.A a).st<0):(K.A a).st=none:=by
 rcases(S.A a ha).st with z|⟨t,z1,z2,z3⟩;exact z.1;omega
theorem F8(S:Sm K M)(ha:a∈K.ids)(h:0<=(M.A a).st):(K.A a).st.isSome=true:=by
 rcases(S.A a ha).st with z|⟨t,z1,z2,z3⟩;omega;rw[z1];rfl
theorem KG(S:Sm K M)(h:a∈M.ids/\(M.A a).op=true/\(M.A a).st<0):a∈K.ids/\(K.A a).op=true/\(K.A a).st=none:=by
 let⟨h1,h2,h3⟩:=h;rw[S.ids]at h1;exact⟨h1,by rw[<-(S.A a h1).op];exact h2,F9 S h1 h3⟩
theorem NA(S:Sm K M)(h:a∈M.ids/\(M.A a).op=true/\0<=(M.A a).st):a∈K.ids/\(K.A a).op=true/\(K.A a).st.isSome=true:=by
 let⟨h1,h2,h3⟩:=h;rw[S.ids]at h1;exact⟨h1,by rw[<-(S.A a h1).op];exact h2,F8 S h1 h3⟩
theorem DOk.v(S:Sm K M)(h:DOk M n k):VOk K n k:=by
 cases k with
 |fl a=>exact KG S h
 |k k=>
  cases k with
  |bg a=>have h':a∉M.ids:=h;rw[S.ids]at h';exact h'
  |lk a b=>exact⟨KG S h.1,h.2⟩
  |pt a b v=>exact⟨KG S h.1,h.2⟩
  |tk a=>exact KG S h
  |wr a=>exact NA S h
theorem DOk.mv(S:Sm K M)(I:Ki K n)(h:DOk M n k):Mz M n k:=by
 cases k with
 |fl a=>exact h
 |k k=>
  cases k with
  |wr a=>
   let⟨ha,op,st⟩:=NA S h;have t:=I.tak a ha op st;refine⟨h,?_⟩;cases hu:(K.A a).un with
   |nil=>exact absurd hu t.un
   |cons b r=>
    have hb:b∈(K.A a).pu.map (·.1):=t.sub b (by rw[hu];exact QH);let⟨b0,b1⟩:=I.pub a ha b hb;have fw:=t.few;rw[hu,QK]at fw;have z:=S.A a ha;exact⟨b,r,by rw[z.lf,hu],b0,b1,by rw[z.pu];exact oX hb,⋯⟩
  |bg a=>exact h
  |lk a b=>exact h
  |pt a b v=>exact h
  |tk a=>exact h
theorem Sm.call(S:Sm K M)(I:Ki K n)(h:VOk K n k):(rJ M k).1=(jB K k).1/\Sm (jB K k).2 (rJ M k).2:=by
 cases k with
 |fl a=>exact⟨rfl,S.end h.1 _⟩
 |k k=>
  cases k with
  |bg a=>exact⟨rfl,S.begin h⟩
  |lk a b=>exact S.look h.1.1 h.1.2.2
  |pt a b v=>exact⟨rfl,S.put h.1.1 h.1.2.2⟩
  |tk a=>have z:=S.take h.1 h.2.2;exact⟨by show U.str _=U.str _;rw[z.1],z.2⟩
  |wr a=>have z:=S.write I h.1 h.2.1 h.2.2;exact⟨by show U.str _=U.str _;rw[z.1],z.2⟩
def Lb(M:Mo)(m:Nat):Prop:=∀a∈M.ids,(M.A a).lk.length<=m
theorem Lb.up{v:At}(L:Lb M m)(h:v.lk.length<=m+1):Lb (M.up a v) (m+1):=λy hy=>by
 by_cases e:y=a;subst e;rw[gJ];exact h;rw[show(M.up a v).A y=M.A y from XS e];have:=L y hy;omega
theorem Lb.end(L:Lb M m)(w:Str)(ha:a∈M.ids):Lb (C7 M a w) (m+1):=Lb.up L (by have:=L a ha;show(M.A a).lk.length<=_;omega)
def Lb.su(L:Lb M m):Lb M (m+1):=λy hy=>by have:=L y hy;omega
theorem Lb.call(L:Lb M m)(h:Mz M n k):Lb (rJ M k).2 (m+1):=by
 cases k with
 |fl a=>exact L.end _ h.1
 |k k=>
  cases k with
  |bg a=>
   intro y hy;have hy':y∈M.ids++[a]:=hy;by_cases e:y=a;subst e;show((iV M y).A y).lk.length<=_;rw[show(iV M y).A y=⟨M.ck,[],[],[],-1,true⟩from XO rfl];exact Zh _;show((iV M a).A y).lk.length<=_;rw[show(iV M a).A y=M.A y from XS e];have:=L y ((ZF.mp hy').resolve_right ‹e›);omega
  |lk a b=>
   have l:=L a h.1.1;show Lb (mQ M a b).2 _;unfold mQ;split;exact L.su;split;exact L.end _ h.1.1;exact Lb.up L (by show((M.A a).lk++[b]).length<=_;rw[Z6];exact Nat.add_le_add_right l 1)
  |pt a b v=>exact Lb.up L (by have:=L a h.1.1;show(M.A a).lk.length<=_;omega)
  |tk a=>
   have l:=L a h.1;show Lb (lQ M a).2 _;unfold lQ;split;exact L.end _ h.1;split;exact L.end _ h.1;exact Lb.up L (by show(M.A a).lk.length<=_;omega)
  |wr a=>
   have l:=L a h.1.1;show Lb (gK M a).2 _;unfold gK;split;exact L.su;dsimp only;have L1:∀(x y:List Int) (r:List Int),Lb ({ M.up a { M.A a with lf:=r } with bx:=x,ma:=y }:Mo) m:=λx y r z hz=>by
    show((M.up a _).A z).lk.length<=_;by_cases e:z=a;subst e;rw[gJ];exact l;rw[show(M.up a _).A z=M.A z from XS e];exact L z hz
   split;exact(L1 _ _ _).end _ h.1.1;exact(L1 _ _ _).su
theorem Sm.mw(S:Sm K M)(I:Ki K n)(L:Lb M m)(hm:m<=800):Mw M n:=⟨by rw[S.bx];exact I.lb,by rw[S.ma];exact I.lm,by have:=I.few;omega,λa ha=>⟨by have:=L a ha;omega,λb hb=>by rw[S.ids]at ha;exact I.lkb a ha b (((S.A a ha).lk b).mp hb)⟩,λa ha=>by rw[S.ids]at ha;rw[(S.A a ha).pu];exact⟨(I.w.pu a ha).1,I.pun a ha⟩⟩
theorem Sm.ord(S:Sm K M):rH M=dE K:=by
 rw[zU];unfold dE;rw[S.ids];congr 1;refine Ze λa ha=>?_;have z:=S.A a ha;unfold uA EO;rcases z.st with h|⟨t,h1,h2,h3⟩;rw[h.1,XS ⋯,z.g];rw[h1,XO ⋯,h2]
end
end OL
namespace OQ
open PySem PySem.Spec PyProof.Rows L2 OG OP
section
variable{k:Kl}{u:U}
def evW:List Str:=["begin","look","put","done","fall"]
inductive EvL:U->Prop where
 |two (w:Str) (h:w∈evW) (a:Int):EvL (.tup [.str w,.int a])
 |four (w:Str) (h:w∈evW) (a b v:Int):EvL (.tup [.str w,.int a,.int b,.int v])
theorem EY{w:Str}(h:w∈evW):(PyData.str w).canLay0=true:=by
 have:evW.all (λw=>(PyData.str w).canLay0)=true:=by decide +kernel
 exact List.all_eq_true.mp this w h
theorem EvL.lay(h:EvL u)(S:Sto):Lay 1 S u:=by
 cases h with
 |two w h a=>exact⟨.tuple [.str w,.int a],.tup (.cons (.str _) (.cons (.int _) .nil)),by have:=EY h;simp[YY,YW]at this ⊢;exact this,by simp[PyData.depth,YX]⟩
 |four w h a b v=>exact⟨.tuple [.str w,.int a,.int b,.int v],.tup (.cons (.str _) (.cons (.int _) (.cons (.int _) (.cons (.int _) .nil)))),by have:=EY h;simp[YY,YW]at this ⊢;exact this,by simp[PyData.depth,YX]⟩
theorem AnU.lay(h:AnU u)(S:Sto):Lay 1 S u:=by
 cases h with
 |no=>exact⟨.none,.non,by simp[YY],by simp[PyData.depth]⟩
 |nu v=>exact⟨_,.tup (.cons (.str _) (.cons (.int _) .nil)),(Ae lyn).1,by simp[PyData.depth,YX]⟩
 |fa=>exact⟨_,.tup (.cons (.str _) .nil),(Aa (ly ∅)).1,by simp[PyData.depth,YX]⟩
 |wd w h=>exact⟨_,.str _,ly h,by simp[PyData.depth]⟩
theorem j8{K:Kc}{e:U}(h:∀x∈K.ev,EvL x)(he:EvL e):∀x∈K.ev++[e],EvL x:=λx hx=>by
 rcases ZF.mp hx with z|z;exact h x z;rw[ZX.mp z];exact he
theorem HB{K:Kc}(h:∀x∈K.ev,EvL x):∀x∈(Ap K k).2.ev,EvL x:=by
 cases k with
 |bg a=>exact j8 h (.two _ ∅ _)
 |lk a b=>
  show ∀x∈(jt K a b).2.ev,EvL x;unfold jt;split;exact j8 h (.four _ ∅ _ _ _);split;exact j8 h (.two _ ∅ _);exact j8 h (.four _ ∅ _ _ _)
 |pt a b v=>exact j8 h (.four _ ∅ _ _ _)
 |tk a=>
  show ∀x∈(js K a).2.ev,EvL x;unfold js;split;exact j8 h (.two _ ∅ _);split;exact j8 h (.two _ ∅ _);exact h
 |wr a=>
  show ∀x∈(eM K a).2.ev,EvL x;unfold eM;split;exact h;dsimp only;split;exact j8 (K:=K) h (.two _ ∅ _);exact h
end
theorem Ki.new{st:List Int}{n:Nat}(h:st.length=n)(hn:n<64):Ki (xT st) n:=
 ⟨h,by simp[xT,h],hn,List.nodup_nil,λ_ h=>(nomatch h),λ_ h=>(nomatch h),λ_ h=>(nomatch h),λ_ h=>(nomatch h),λ_ h=>(nomatch h),by simp[xT]⟩
def Kb.new{st:List Int}:Kb (xT st) 0:=⟨QQ _,by simp[xT],QQ _⟩
section
variable{pos:Pl->Option Nat}{c:Pl->O}{T:Sto}{l:Nat}{o:O}
theorem Mm.setF(M:Mm pos c T)(h:∀s,pos s≠some l):Mm pos c (T.set l o):=⟨λs p hp=>by rw[ZK (λe=>h s (by rw[e];exact hp))];exact M.at_ s p hp,M.inj⟩
end
end OQ
namespace OL
open PySem PySem.Spec PyProof.Rows L2 OG OP OQ
variable{c:Pl->O}
theorem yP{s:Pl}{o:O}(h:c s=o):aJ c s o=c:=by
 funext s';by_cases e:s'=s;subst e;rw[bJ,h];rw[aB e]
theorem BR{s:Pl}{o o':O}:aJ (aJ c s o) s o'=aJ c s o':=by
 funext s';by_cases e:s'=s;subst e;rw[bJ,bJ];rw[aB e,aB e,aB e]
variable{pos:Pl->Option Nat}{T S:Sto}{lw:Nat}
def Ws(pos:Pl->Option Nat)(c:Pl->O)(S:Sto):Prop:=∃z,Mm pos (aJ c (.x 9 0) (.lst [.int z])) S
def Ws.app(W:Ws pos c S)(X:Sto):Ws pos c (S++X):=let ⟨z,M⟩:=W;⟨z,M.app X⟩
theorem Ws.sip{mm:Int}(W:Ws pos c S)(hw:pos (.x 9 0)=some lw)(h0:0<mm)(h1:mm<2^60):∃d S',nE [.ref lw,.int mm] S=some (.int d,S')/\Ws pos c S'/\0<=d/\d<mm/\(∀l,l≠lw->S'[l]?=S[l]?)/\S'.length=S.length:=by
 let⟨z,M⟩:=W;let⟨d,z',e,M',d0,d1⟩:=Qo M hw bJ h0 h1;rw[BR]at M';exact⟨d,_,e,⟨z',M'⟩,d0,d1,λl h=>ZK h.symm,Zx ..⟩
def Ws.lt(W:Ws pos c S)(hw:pos (.x 9 0)=some lw):lw<S.length:=let ⟨z,M⟩:=W;M.lt hw
theorem w6{w:Int}{l:Nat}(hw:pos (.x 9 0)=some lw)(w0:0<w)(w1:w<2^60)(hl:∀s,pos s≠some l):∀(xs:List Nat) (ys:List Int) (r0:Option U) (S:Sto),Ws pos c S->S[l]?=some (.lst (ys.map U.int))->ys.length+xs.length<=900->
  ∃(vs:List Int) (S':Sto),gN (λ_=>True) (gNm 0) (cCB nE (ag (ah 1) (ag (ah 2) aE))) l (xs.map λi:Nat=>U.int (i:Int)) [r0,some (.ref lw),some (.int w)] S=some S'/\Ws pos c S'/\S'[l]?=some (.lst (vs.map U.int))/\vs.length=ys.length+xs.length
 |[],ys,r0,S,W,h,_=>⟨ys,S,kB trivial,W,h,rfl⟩
 |x::xs,ys,r0,S,W,h,hn=>by
  rw[QK]at hn;let⟨d,S1,e,W1,_,_,k1,l1⟩:=W.sip hw w0 w1;have nl:l≠lw:=λz=>hl _ (by rw[z];exact hw);have lt:l<S1.length:=by rw[l1];exact(Q8.mp h).1
  have W2:Ws pos c (S1.set l (.lst ((ys++[d]).map U.int))):=let ⟨z,M⟩:=W1;⟨z,M.setF hl⟩
  let⟨vs,S',e',W',g',lv⟩:=w6 hw w0 w1 hl xs (ys++[d]) (some (.int x)) _ W2 (by rw[Zr,XO rfl,XO lt]) (by simp;omega);refine⟨vs,S',(i4 (ρ0:=[some (.int x),some (.ref lw),some (.int w)]) (S0:=S) (S1:=S1) (x:=.int d) (ys:=ys.map U.int) trivial rfl (by rwa[e]) (by rw[k1 l nl];exact h) (by unfold LIM;rw[QX];omega)).trans ?_,W',g',by rw[lv];simp;omega⟩;rw[show ys.map U.int++[U.int d]=(ys++[d]).map U.int by simp];exact e'
def ml:Fn:=fnU 3 1 (i8 nE)
theorem zV(W:Ws pos c T)(hw:pos (.x 9 0)=some lw)(hlt:∀s p,pos s=some p->p<T.length):Wp (ml [.ref lw] T) λr=>∃(ni w:Int) (st:List Int),r.1=.tup [.tup [.int ni,.int w],.tup (st.map U.int)]/\1<=ni/\ni<=6/\1<=w/\w<=1000/\st.length=ni.toNat/\Ws pos c r.2/\T.length<=r.2.length:=by
 have lwT:=W.lt hw;let⟨d1,S1,e1,W1,d10,d11,k1,l1⟩:=(W.app [.lst [.int 2,.int 3,.int 6]]).sip (mm:=3) hw ∅ ∅;have g1:S1[T.length]?=some (.lst [.int 2,.int 3,.int 6]):=by rw[k1 _ (XH lwT),ga0];rfl
 have a1:∃v:Int,atI [U.int 2,.int 3,.int 6] d1=some (.int v)/\1<=v/\v<=6:=by
  have:d1=0\/d1=1\/d1=2:=by omega
  rcases this with rfl|rfl|rfl;exact⟨2,rfl,∅,∅⟩;exact⟨3,rfl,∅,∅⟩;exact⟨6,rfl,∅,∅⟩
 let⟨v1,a1,v10,v11⟩:=a1;let⟨d2,S2,e2,W2,d20,d21,k2,l2⟩:=W1.sip (mm:=v1) hw ⋯ ⋯;unfold ml;rw[OR];unfold i8;rw[bF (ρ':=[some (.ref lw),some (.int (1+d2)),none]) (S':=S2) (by rwa[e1,g1,a1,e2])];let⟨d3,S3,e3,W3,d30,d31,k3,l3⟩:=(W2.app [.lst [.int 2,.int 3,.int 7,.int 1000]]).sip (mm:=4) hw ∅ ∅;have g3:S3[S2.length]?=some (.lst [.int 2,.int 3,.int 7,.int 1000]):=by rw[k3 _ (XH (W2.lt hw)),ga0];rfl
 have a3:∃v:Int,atI [U.int 2,.int 3,.int 7,.int 1000] d3=some (.int v)/\1<=v/\v<=1000:=by
  have:d3=0\/d3=1\/d3=2\/d3=3:=by omega
  rcases this with rfl|rfl|rfl|rfl;exact⟨2,rfl,∅,∅⟩;exact⟨3,rfl,∅,∅⟩;exact⟨7,rfl,∅,∅⟩;exact⟨1000,rfl,∅,∅⟩
 let⟨w,a3,w0,w1⟩:=a3;rw[bF (ρ':=[some (.ref lw),some (.int (1+d2)),some (.int w)]) (S':=S3) (by rwa[e3,g3,a3])];obtain⟨ni,eni⟩:∃ni,ni=1+d2:=⟨_,rfl⟩;rw[<-eni];have T3:T.length<=S3.length:=by rw[l3,Z6,l2,l1,Z6];omega
 have hl3:∀s,pos s≠some S3.length:=λs z=>by have:=hlt s _ z;omega
 have hi:c6 (ag (ah 1) aE) [some (.ref lw),some (.int ni),some (.int w)] S3=some ((ZO ni.toNat).map λi:Nat=>U.int (i:Int),λ_=>True,S3):=by
  rw[p7 (n:=ni) (S1:=S3) rfl ⋯ ⋯,v7]
 let⟨vs,S4,e4,W4,g4,lv⟩:=w6 (w:=w) (l:=S3.length) hw ⋯ ⋯ hl3 (ZO ni.toNat) [] none (S3++[.lst []]) (W3.app _) (by rw[ga0];rfl) (by simp;omega);have ec:ji (c6 (ag (ah 1) aE)) (gNm 0) (cCB nE (ag (ah 1) (ag (ah 2) aE))) 1 [0,2] [some (.ref lw),some (.int ni),some (.int w)] S3=some (.ref S3.length,S4):=by
  unfold ji;rw[hi,Q9];show Option.bind (gN (λ_=>True) (gNm 0) (cCB nE (ag (ah 1) (ag (ah 2) aE))) S3.length _ [none,some (.ref lw),some (.int w)] _) _=_;rw[e4];rfl
 refine⟨(.tup [.tup [.int ni,.int w],.tup (vs.map U.int)],S4),?_,ni,w,vs,rfl,⋯,⋯,w0,w1,by rw[lv];simp,W4,?_⟩;rwa[ec,g4];have:=(Q8.mp g4).1;dsimp only;omega
variable{cK cA:Cl}{CP:Addr}{j n:Nat}{K:Kc}{M:Mo}{p:Nat->Nat}{q:Int->Nat->Nat}{a b:Int}{t:Bool}
section
variable{CA:Addr}{k:Kv}
def NaM(M:Mo)(a:Int):Prop:=a∉M.ids\/(a∈M.ids/\(M.A a).op=false)
def Rg(M:Mo)(a:Int)(t:Bool):Prop:=(t=true/\NaM M a)\/(t=false/\a∈M.ids/\(M.A a).op=true/\0<=(M.A a).st)
def Rf(M:Mo):Kv->Bool->Prop
 |.k (.bg a),t=>t=true/\a∈M.ids
 |.k (.wr a),t=>(t=true/\NaM M a)\/(t=false/\a∈M.ids/\(M.A a).op=true/\(M.A a).st<0)
 |.k (.lk a _),t=>Rg M a t
 |.k (.pt a _ _),t=>Rg M a t
 |.k (.tk a),t=>Rg M a t
 |.fl a,t=>Rg M a t
def Kv.of:Kv->Int
 |.k x=>x.of
 |.fl a=>a
def Ab(n:Nat)(k:Kv):Prop:=(0<=k.of/\k.of<1000)/\match k with
 |.k (.lk _ b)=>0<=b/\b<n
 |.k (.pt _ b _)=>0<=b/\b<n
 |_=>True
theorem pq:(a∈M.ids/\(M.A a).op=true/\(M.A a).st<0)\/∃t,Rg M a t:=by
 by_cases h:a∈M.ids;cases op:(M.A a).op with
 |false=>exact .inr ⟨true,.inl ⟨rfl,.inr ⟨h,op⟩⟩⟩
 |true=>
  by_cases st:(M.A a).st<0;exact .inl ⟨h,rfl,st⟩;exact .inr ⟨false,.inr ⟨rfl,h,op,⋯⟩⟩
 exact .inr ⟨true,.inl ⟨rfl,.inl h⟩⟩
theorem DX(hb:Ab n k):DOk M n k\/∃t,Rf M k t:=by
 cases k with
 |fl a=>exact pq
 |k k=>
  cases k with
  |bg a=>
   by_cases h:a∈M.ids;exact .inr ⟨true,rfl,h⟩;exact .inl h
  |lk a b=>exact pq.imp (λh=>⟨h,hb.2⟩) id
  |pt a b v=>exact pq.imp (λh=>⟨h,hb.2⟩) id
  |tk a=>exact pq
  |wr a=>
   by_cases h:a∈M.ids;cases op:(M.A a).op with
   |false=>exact .inr ⟨true,.inl ⟨rfl,.inr ⟨h,op⟩⟩⟩
   |true=>
    by_cases st:(M.A a).st<0;exact .inr ⟨false,.inr ⟨rfl,h,op,st⟩⟩;exact .inl ⟨h,op,⋯⟩
   exact .inr ⟨true,.inl ⟨rfl,.inl h⟩⟩
theorem KO{w:Str}{r:List U}(M1:Mm pos c T)(R:Mr j pos c M p q)(hw:decide (w="begin")=false)(h:NaM M a):gE [.ref (p 0),.tup (.str w::.int a::r)] T=some (.str "noattempt",T):=by
 have t0:=R.t0 M1;have t3:=R.t3 M1;unfold gE;rw[kZ];unfold bC;rw[bF (swK _ _ _ _ _ _)];rcases h with h|⟨ha,op⟩;have vi:=gH (q:=q) h;rwa[hw,t0,vT,t3,vi,XU,XT,if_true];have to:=R.ao M1 ha;have vi:=bb (q:=q) ha;rw[op]at to;rwa[hw,t0,vT,t3,vi,ZI,X0,if_true,to,vo]
theorem KJ{w:Str}{r:List U}{b:Bool}(M1:Mm pos c T)(R:Mr j pos c M p q)(hw:decide (w="begin")=false)(ha:a∈M.ids)(op:(M.A a).op=true)(hs:decide (0<=(M.A a).st)=b)(hv:decide (w="write")=!b):gE [.ref (p 0),.tup (.str w::.int a::r)] T=some (.str "nostep",T):=by
 have t0:=R.t0 M1;have t3:=R.t3 M1;unfold gE;rw[kZ];unfold bC;rw[bF (swK _ _ _ _ _ _)];have to:=R.ao M1 ha;have vi:=bb (q:=q) ha;rw[op]at to;have nb:decide (b=!b)=false:=by cases b<;>rfl
 rwa[hw,t0,vT,t3,vi,ZI,X0,if_true,to,vo,vs,hs,hv,nb,XT]
theorem CV{w:Str}{r:List U}(M1:Mm pos c T)(R:Mr j pos c M p q)(hw:decide (w="begin")=false)(hv:decide (w="write")=false)(h:Rg M a t):gE [.ref (p 0),.tup (.str w::.int a::r)] T=some (.str (rfW t),T):=by
 rcases h with⟨rfl,h⟩|⟨rfl,ha,op,st⟩;exact KO M1 R hw h;exact KJ (b:=true) M1 R hw ha op (Xz st) hv
theorem CZ(M1:Mm pos c T)(R:Mr j pos c M p q)(h:Rf M k t):gE [.ref (p 0),k.uu] T=some (.str (rfW t),T):=by
 cases k with
 |fl a=>exact CV M1 R LA Lz h
 |k k=>
  cases k with
  |bg a=>
   let⟨rfl,h⟩:=h;have t0:=R.t0 M1;have t3:=R.t3 M1;have vi:=bb (q:=q) h;unfold gE;rw[kZ];unfold bC;simp only[Kv.uu,Kl.u];rw[bF (swK _ _ _ _ _ _)];rwa[t0,vT,t3,vi,ZI,ZU,if_false];rfl
  |lk a b=>exact CV M1 R Lx P5 h
  |pt a b v=>exact CV M1 R Lw P4 h
  |tk a=>exact CV M1 R Lu P0 h
  |wr a=>
   rcases h with⟨rfl,h⟩|⟨rfl,ha,op,st⟩;exact KO M1 R Ig h;exact KJ (b:=false) M1 R Ig ha op (Xq ⋯) (Xz rfl)
theorem Pq(S:Sm K M)(h:NaM M a):LO K a:=by
 rcases h with h|⟨h,op⟩;rw[S.ids]at h;exact .inl h;rw[S.ids]at h;exact .inr ⟨h,by rw[<-(S.A a h).op];exact op⟩
theorem L5(S:Sm K M)(M1:Mm pos c T)(R:Kr cK cA j pos c K p q)(h:Rg M a t)(a0:0<=a)(a1:a<1000):c8 cK cA [.ref (p 0),.int a] T=none/\gD cK cA CA CP [.ref (p 0),.int a] T=some ((if t then CA else CP),T):=by
 rcases h with⟨rfl,h⟩|⟨rfl,h⟩;exact BU M1 R (Pq S h) a0 a1;let⟨h1,h2,h3⟩:=NA S h;let⟨tt,ht⟩:=Zz.mp h3;exact BS M1 R h1 h2 ht a0 a1
theorem HL(hne:CA≠CP)(S:Sm K M)(M1:Mm pos c T)(R:Kr cK cA j pos c K p q)(hb:Ab n k)(h:Rf M k t):∃X,nL cK cA CA CP [.ref (p 0),k.uu] T=some (.str (rfW t),T++X):=by
 have t0:=M1.get (R.pk 0 ∅) R.c0;obtain⟨⟨a0,a1⟩,-⟩:=hb;unfold nL;cases k with
 |fl a=>
  let⟨e1,e2⟩:=Hy t0 (L5 (CA:=CA) (CP:=CP) S M1 R h a0 a1);rw[lT];unfold aW;simp only[Kv.uu];rw[bF (swK _ _ _ _ _ _),eQ];refine jo hne rfl (by rw[dg LA,dg Ms,dg OX,dg Mq,dg Lz];rwa[t0,e1,Zg]) ?_;rw[jK LA,jK Ms,jK OX,jK Mq,jK Lz];exact(jS (us:=[.int a]) rfl t0 rfl).trans e2
 |k k=>
  cases k with
  |bg a=>
   let⟨rfl,h⟩:=h;rw[S.ids]at h;let⟨e1,e2⟩:=DU (CA:=CA) (CP:=CP) M1 R h a0 a1;rw[lT];unfold aW;simp only[Kv.uu,Kl.u];rw[bF (swK _ _ _ _ _ _),eQ];refine jo hne rfl (by rw[nW];rwa[t0,e1,Zg]) ?_;rw[Aw];exact(jS (us:=[.int a]) rfl t0 rfl).trans e2
  |lk a b=>
   let⟨e1,e2⟩:=Hc (b:=b) t0 (L5 (CA:=CA) (CP:=CP) S M1 R h a0 a1);rw[lT];unfold aW;simp only[Kv.uu,Kl.u];rw[bF (swK _ _ _ _ _ _),eQ];refine jo hne rfl (by rw[dg Lx,nW];rwa[t0,e1,Zg]) ?_;rw[jK Lx,Aw];exact(jS (us:=[.int a,.int b]) rfl t0 rfl).trans e2
  |pt a b v=>
   let⟨e1,e2⟩:=JX (b:=b) (v:=v) t0 (L5 (CA:=CA) (CP:=CP) S M1 R h a0 a1);rw[lT];unfold aW;simp only[Kv.uu,Kl.u];rw[bF (swK _ _ _ _ _ _),eQ];refine jo hne rfl (by rw[dg Lw,dg Mp,nW];rwa[t0,e1,Zg]) ?_;rw[jK Lw,jK Mp,Aw];exact(jS (us:=[.int a,.int b,.int v]) rfl t0 rfl).trans e2
  |tk a=>
   let⟨e1,e2⟩:=FY t0 (L5 (CA:=CA) (CP:=CP) S M1 R h a0 a1);rw[lT];unfold aW;simp only[Kv.uu,Kl.u];rw[bF (swK _ _ _ _ _ _),eQ];refine jo hne rfl (by rw[dg Lu,dg Mn,dg OU,nW];rwa[t0,e1,Zg]) ?_;rw[jK Lu,jK Mn,jK OU,Aw];exact(jS (us:=[.int a]) rfl t0 rfl).trans e2
  |wr a=>
   have e:gh cK cA [.ref (p 0),.int a] T=none/\jq cK cA CA CP [.ref (p 0),.int a] T=some ((if t then CA else CP),T):=by
    rcases h with⟨rfl,h⟩|⟨rfl,h⟩;exact BA M1 R (Pq S h) a0 a1;let⟨h1,h2,h3⟩:=KG S h;exact By M1 R h1 h2 h3 a0 a1
   let⟨e1,e2⟩:=e;rw[lT];unfold aW;simp only[Kv.uu,Kl.u];rw[bF (swK _ _ _ _ _ _),eQ];refine jo hne rfl (by rw[dg Ig,dg Ml,dg OT,dg Mj,nW];rwa[t0,e1,Zg]) ?_;rw[jK Ig,jK Ml,jK OT,jK Mj,Aw];exact(jS (us:=[.int a]) rfl t0 rfl).trans e2
end
variable{m:Nat}
section
variable{g_:Pl->Option Nat}{c':Pl->O}{lg:Nat}{go:List Int}
def qH:Fn:=fnU 1 1 jc
def pMo(L:Nat):Nat->Nat
 |0=>L
 |1=>L+1
 |2=>L+3
 |3=>L+4
 |_=>L+5
def m0(st:List Int):Mo:=⟨st,QR st.length 0,0,[],λ_=>⟨0,[],[],[],-1,true⟩,[]⟩
theorem CQ{st:List Int}(hl:st.length<=900):qH [.tup (st.map U.int)] T=some (.ref T.length,T++[.dic (mD 0 (pMo T.length)),.lst (st.map U.int),.lst [.int 0],.lst ((QR st.length (0:Int)).map U.int),.dic [],.lst []]):=by
 unfold qH;rw[uY];obtain⟨us,hus⟩:∃us,us=st.map U.int:=⟨_,rfl⟩;have lus:us.length=st.length:=by rw[hus,QX]
 obtain⟨rs,hrs⟩:∃rs,rs=(QR st.length (0:Int)).map U.int:=⟨_,rfl⟩;rw[<-hus,<-hrs];have mul:∀o1 o2:O,sD (.ref (T.length+2)) (.int us.length) (T++[o1,o2,.lst [.int 0]])=some (.ref (T.length+3),T++[o1,o2,.lst [.int 0],.lst rs]):=λo1 o2=>by
  have g1:(T++[o1,o2,O.lst [U.int 0]])[T.length+2]?=some (.lst [.int 0]):=by rw[ga];rfl
  have g2:(0:Int)<=us.length/\(us.length:Int)<=100000/\[U.int 0].length*(us.length:Int).toNat<=LIM:=by
   refine⟨⋯,⋯,?_⟩;unfold LIM;rw[List.length_singleton];omega
  simp only[sD,g1];rw[XO g2,hrs,List.map_replicate,lus];simp only[XD,List.flatten_replicate_singleton,Z6,QK,XF,ZJ,Zt,Zw]
 have l1:∀o:O,(T++[o]).length=T.length+1:=λo=>by rw[Z6];rfl
 have l2:∀o o':O,(T++[o,o']).length=T.length+2:=λo o'=>by rw[Z6];rfl
 have l4:∀o o' o2 o3:O,(T++[o,o',o2,o3]).length=T.length+4:=λo o' o2 o3=>by rw[Z6];rfl
 have l5:∀o o' o2 o3 o4:O,(T++[o,o',o2,o3,o4]).length=T.length+5:=λo o' o2 o3 o4=>by rw[Z6];rfl
 have ge:∀X,(T++(O.dic []::X))[T.length]?=some (.dic []):=λX=>by rw[ga0];rfl
 have em:oH [(.inr "boxes",.ref (T.length+1)),(.inr "marks",.ref (T.length+3)),(.inr "clock",.int 0),(.inr "tries",.ref (T.length+4)),(.inr "log",.ref (T.length+5))]=mD 0 (pMo T.length):=rfl;have gs:∀X,(T++(O.dic []::X)).set T.length (.dic (mD 0 (pMo T.length)))=T++(.dic (mD 0 (pMo T.length))::X):=λX=>by rw[gs0];rfl
 rwa[jc,mul,l1,l2,l4,l5,ge,em,gs]
theorem CO{st:List Int}(M1:Mm pos c T):∃g_ c',Mm g_ c' (T++[.dic (mD 0 (pMo T.length)),.lst (st.map U.int),.lst [.int 0],.lst ((QR st.length (0:Int)).map U.int),.dic [],.lst []])/\Mr j g_ c' (m0 st) (pMo T.length) (λ_ _=>0)/\Fm j pos c g_ c':=by
 have N1:=M1.new (.k j 0) (.dic (mD 0 (pMo T.length))) [];have N2:=(N1.new (.k j 1) (.lst (st.map U.int)) [.lst [.int 0]]);have N3:=N2.new (.k j 2) (.lst ((QR st.length (0:Int)).map U.int)) [];have N4:=N3.new (.k j 3) (.dic []) [];have N5:=N4.new (.k j 4) (.lst []) [];have eT:T++[O.dic (mD 0 (pMo T.length))]++[O.lst (st.map U.int),O.lst [.int 0]]++[O.lst ((QR st.length (0:Int)).map U.int)]++[O.dic []]++[O.lst []]=T++[.dic (mD 0 (pMo T.length)),.lst (st.map U.int),.lst [.int 0],.lst ((QR st.length (0:Int)).map U.int),.dic [],.lst []]:=by simp
 rw[eT]at N5;refine⟨_,_,N5,⟨λf hf=>?_,λf hf=>?_,λa h=>(nomatch h),λa h=>nomatch h⟩,λs hs=>?_⟩;match f,hf with
 |0,_=>simp[dG,pMo]
 |1,_=>simp[dG,pMo]
 |2,_=>simp[dG,pMo]
 |3,_=>simp[dG,pMo]
 |4,_=>simp[dG,pMo]
 match f,hf with
 |0,_=>simp[aJ,mK,m0]
 |1,_=>simp[aJ,mK,m0]
 |2,_=>simp[aJ,mK,m0]
 |3,_=>simp[aJ,mK,m0]
 |4,_=>simp[aJ,mK,m0]
 cases s with
 |k i f=>have:i≠j:=hs;simp[dG,aJ,this]
 |a i x f=>simp[dG,aJ]
 |x m i=>simp[dG,aJ]
def dm(a:Int):Prop:=(0<=a/\a<7)\/a=199
def dm.bd(h:dm a):0<=a/\a<1000:=by rcases h with h|h<;>omega
theorem PX:∀{l:List Int},l.Nodup->l.length<=(l.filter λa=>decide (a≠199)).length+1
 |[],_=>Zh _
 |a::l,h=>by
  have ⟨h1,h2⟩:=XQ.mp h;by_cases e:a=199;subst e;have:l.filter (λa=>decide (a≠199))=l:=List.filter_eq_self.mpr λx hx=>Xz λz=>h1 (z▸hx);rw[List.filter_cons_of_neg nofun,this];exact QQ _;rw[List.filter_cons_of_pos ‹e›];have:=PX h2;simp only[QK];omega
theorem OH{l:List Int}(h:l.Nodup)(hd:∀a∈l,dm a):l.length<=8:=by
 have h1:=PX h;have h2:=qi (n:=7) (h.sublist (List.filter_sublist (p:=λa=>decide (a≠(199:Int))))) λb hb=>by
  let⟨b1,b2⟩:=List.mem_filter.mp hb;exact(hd b b1).resolve_right (of_decide_eq_true b2)
 omega
structure Dv(pos:Pl->Option Nat)(c:Pl->O)(lg:Nat)(go:List Int)(S:Sto):Prop where
 m:Ws pos c S
 g:S[lg]?=some (.lst (go.map U.int))
def Dv.app(D:Dv pos c lg go S)(X:Sto):Dv pos c lg go (S++X):=⟨D.m.app X,aK D.g⟩
theorem Dv.sip{mm:Int}(D:Dv pos c lg go S)(hw:pos (.x 9 0)=some lw)(hg:lg≠lw)(h0:0<mm)(h1:mm<2^60):∃d S',nE [.ref lw,.int mm] S=some (.int d,S')/\Dv pos c lg go S'/\0<=d/\d<mm:=by
 let⟨d,S',e,W,d0,d1,k,_⟩:=D.m.sip hw h0 h1;exact⟨d,S',e,⟨W,by rw[k lg hg];exact D.g⟩,d0,d1⟩
def opT(M:Mo):Key×U->Bool
 |(.inl x,_)=>(M.A x).op
 |_=>false
def qM:Fn:=fnU 9 4 (dS nE)
def DrC(M:Mo)(n m:Nat)(pos:Pl->Option Nat)(c:Pl->O)(r:U×Sto):Prop:=
 (r.1=.non\/∃k:Kv,r.1=k.uu/\Ab n k/\dm k.of)/\Ws pos c r.2
theorem qy{k:Kl}(h:∀a,k≠.bg a):(rJ M (.k k)).2.ids=M.ids:=by
 cases k with
 |bg a=>exact absurd rfl (h a)
 |lk a b=>
  show(mQ M a b).2.ids=_;unfold mQ;split;rfl
  ·split<;>rfl
 |pt a b v=>rfl
 |tk a=>
  show(lQ M a).2.ids=_;unfold lQ;split;rfl
  ·split<;>rfl
 |wr a=>
  show(gK M a).2.ids=_;unfold gK;split;rfl
  ·dsimp only;split<;>rfl
theorem DJ{z w:Int}(M1:Mm pos c T)(R:Mr j pos c M p q)(hw:pos (.x 9 0)=some lw)(cw:c (.x 9 0)=.lst [.int z])(S9:M.ids.length=m)(hd:∀a∈M.ids,dm a)(hm:m<=8)(ni:Int)(hni:ni.toNat=n)(n0:1<=ni)(n1:ni<=60)(w0:1<=w)(w1:w<2^60) :
  Wp (qM [.ref lw,.tup [.int ni,.int w],.ref (p 0),.int 5] T) (DrC M n m pos c):=by
 have t0:=R.t0 M1;have t3:=R.t3 M1;have l3:=(Q8.mp t3).1;have lid:(M.ids.map λa=>((.inl a:Key),U.ref (q a 0))).length=m:=by rw[QX,S9]
 obtain⟨mi,hmi⟩:∃mi:Int,mi=(m:Int):=⟨_,rfl⟩;have lidi:(((M.ids.map λa=>((.inl a:Key),U.ref (q a 0))).length:Nat):Int)=mi:=by rw[lid,hmi]
 obtain⟨go,ego⟩:∃go:List Int,go=M.ids.filter λx=>(M.A x).op:=⟨_,rfl⟩;have hgo:∀x∈go,x∈M.ids/\(M.A x).op=true:=λx hx=>by
  rw[ego]at hx;exact List.mem_filter.mp hx
 have ec:kC (cOp fIx (ah 2) (cC (.str "tries"))) (gNm 0) (aG (cOp fIx (cOp fIx (cOp fIx (ah 1) (cC (.str "tries"))) (ah 0)) (cC (.str "open")))) (ah 0) 1 [2] [uR lw,some (.tup [.int ni,.int w]),uR (p 0),uI 5,none,none,none,none,none] T=some (.ref T.length,T++[.lst (go.map U.int)]):=by
  have:=yd (S:=T) (ci:=cOp fIx (ah 2) (cC (.str "tries"))) (el:=ah 0) (ct:=aG (cOp fIx (cOp fIx (cOp fIx (ah 1) (cC (.str "tries"))) (ah 0)) (cC (.str "open")))) (caps:=[2]) (ρ:=[uR lw,some (.tup [.int ni,.int w]),uR (p 0),uI 5,none,none,none,none,none]) (ld:=p 3) (kus:=M.ids.map λa=>(.inl a,.ref (q a 0))) (t:=opT M) (v:=λe=>kU e.1) (r:=[uR (p 0)]) (by rwa[t0,vT]) t3 rfl (by rw[lid];omega) (λep ys e he=>by
   let⟨x,hx,rfl⟩:=ZT.mp he;have N:=(M1.set (R.pk 3 ∅) (.fdc ep (M.ids.map λa=>(.inl a,.ref (q a 0))))).app [.lst ys];have g0:(T.set (p 3) (.fdc ep (M.ids.map λa=>(.inl a,.ref (q a 0))))++[O.lst ys])[p 0]?=some (.dic (mD M.ck p)):=N.get (R.pk 0 ∅) ((aB nofun).trans (R.ck 0 ∅));have g3:=N.get (R.pk 3 ∅) bJ;have go:(T.set (p 3) (.fdc ep (M.ids.map λa=>(.inl a,.ref (q a 0))))++[O.lst ys])[q x 0]?=some (.dic (aD (M.A x).g (M.A x).st (M.A x).op (q x 1) (q x 2) (q x 3))):=N.get (R.pa x hx 0 ∅) ((aB nofun).trans (R.ca x hx 0 ∅));have vi:=bb (q:=q) hx;show aG (cOp fIx (cOp fIx (cOp fIx (ah 1) (cC (.str "tries"))) (ah 0)) (cC (.str "open"))) [uI x,uR (p 0)] _=_;rwa[g0,vT,g3,Bx,vi,go,vo,opT]) (λe he Y=>rfl)
  rw[this];have eg:((M.ids.map λa=>((.inl a:Key),U.ref (q a 0))).filter (opT M)).map (λe=>kU e.1)=go.map U.int:=by
   rw[List.filter_map,ZD,ego];rfl
  rw[eg]
 have hlw:=M1.lt hw;have hlg:T.length≠lw:=XH hlw;have D1:Dv pos c T.length go (T++[.lst (go.map U.int)]):=⟨⟨z,by rw[yP cw];exact M1.app _⟩,by rw[ga0];rfl⟩;generalize T++[O.lst (go.map U.int)]=S1 at D1 ec;have rd:∀{S},Dv pos c T.length go S->∃N:Pl->O,Mm pos N S/\Mr j pos N M p q:=λ{S} D=>by
  let⟨z,N⟩:=D.m;exact⟨_,N,R.fx Fx.upd⟩
 have eq0:∀S,Dv pos c T.length go S->ql false (.ref T.length) (.ref S.length) (S++[.lst []])=some (.bl (decide (go=[])),S++[.lst []]):=λS D=>by
  have:=p5 false (S:=S++[.lst []]) (l:=T.length) (l':=S.length) (ns:=go) (ms:=[]) (aK D.g) (by rw[ga0];rfl);rw[XS QV]at this;exact this
 unfold qM;rw[OI];unfold dS;rw[bF (ρ':=[uR lw,some (.tup [.int ni,.int w]),uR (p 0),uI 5,uR T.length,none,none,none,none]) (S':=S1) (by rwa[ec])];let⟨c1,N1,R1⟩:=rd D1;have a0:=R1.t0 N1;have a3:=R1.t3 N1;rw[bF (ρ':=[uR lw,some (.tup [.int ni,.int w]),uR (p 0),uI 5,uR T.length,uI mi,none,none,none]) (S':=S1) (by rwa[a0,vT,a3,lidi])];have tst:∃b S2,(A4 (aG (cOp fLt (ah 5) (ah 3))) (cOr (aG (cOp (ql false) (ah 4) (jn aE))) (aG (cOp fEq (cCB nE (ag (ah 0) (ag (cC (.int 5)) aE))) (cC (.int 0)))))) [uR lw,some (.tup [.int ni,.int w]),uR (p 0),uI 5,uR T.length,uI mi,none,none,none] S1=some (b,S2)/\Dv pos c T.length go S2/\(b=true->m<5):=by
  by_cases h6:m<5;have z6:decide (mi<5)=true:=Xz ⋯;have q:=eq0 _ D1;by_cases hg:go=[];rw[Xz hg]at q;exact⟨true,_,by rwa[z6,q],D1.app [.lst []],λ_=>h6⟩;rw[Xq hg]at q;let⟨d,S',e,D',_,_⟩:=(D1.app [.lst []]).sip (mm:=5) hw hlg ∅ ∅;exact⟨decide (d=0),S',by rwa[z6,q,e],D',λ_=>h6⟩;have z6:decide (mi<5)=false:=Xq ⋯;exact⟨false,_,by rwa[z6],D1,λh=>nomatch h⟩
 let⟨b,S2,et,D2,hb⟩:=tst;cases b with
 |true=>
  have h7:=hb rfl;refine⟨((Kl.bg (mi*3 % 5)).u,S2),?_,.inr ⟨.k (.bg (mi*3 % 5)),rfl,And.intro ⟨by show 0<=mi*3 % 5;omega,by show mi*3 % 5<1000;omega⟩ trivial,.inl ⟨by show 0<=mi*3 % 5;omega,by show mi*3 % 5<7;omega⟩⟩,D2.m⟩;have mm:n9 (.int mi) (.int 3) S2=some (.int (mi*3),S2):=qO (.inr ∅);have md:uS (.int (mi*3)) (.int 5) S2=some (.int (mi*3 % 5),S2):=yy ∅;rw[oS,jT,et];rwa[mm,md,Kl.u]
 |false=>
  rw[bF (ρ':=[uR lw,some (.tup [.int ni,.int w]),uR (p 0),uI 5,uR T.length,uI mi,none,none,none]) (S':=S2) (by rw[jT,et];rfl)];have q2:=eq0 _ D2;by_cases hg:go=[];rw[Xz hg]at q2;refine⟨(.non,S2++[.lst []]),?_,.inl rfl,(D2.app [.lst []]).m⟩;rwa[q2];rw[Xq hg]at q2;rw[bF (ρ':=[uR lw,some (.tup [.int ni,.int w]),uR (p 0),uI 5,uR T.length,uI mi,none,none,none]) (S':=S2++[.lst []]) (by rwa[q2])];have D3:=D2.app [.lst []];have gl:=Ya.mpr hg;have gl6:go.length<=8:=by
   rw[ego];refine ZP (List.length_filter_le _ _) ?_;rw[S9];exact hm
  let⟨d4,S4,e4,D4,d40,d41⟩:=D3.sip (mm:=(go.length:Nat)) hw hlg ⋯ ⋯;have a4:=E9 (xs:=go) d40 d41;obtain⟨a,ea⟩:∃a,a=go.getD d4.toNat 0:=⟨_,rfl⟩;rw[<-ea]at a4;have ha:a∈go:=by
   have hi:d4.toNat<go.length:=by omega
   rw[ea,ZV,Q7 hi];exact YV hi
  let⟨hai,hao⟩:=hgo a ha;have g3:=D3.g;have g4:=D4.g;rw[bF (ρ':=[uR lw,some (.tup [.int ni,.int w]),uR (p 0),uI 5,uR T.length,uI mi,uI a,none,none]) (S':=S4) (by rwa[g3,QX,e4,g4,a4])];let⟨d5,S5,e5,D5,d50,d51⟩:=D4.sip (mm:=ni) hw hlg ⋯ ⋯;have i0:atI [U.int ni,.int w] 0=some (.int ni):=rfl;have i1:atI [U.int ni,.int w] 1=some (.int w):=rfl;rw[bF (ρ':=[uR lw,some (.tup [.int ni,.int w]),uR (p 0),uI 5,uR T.length,uI mi,uI a,uI d5,none]) (S':=S5) (by rwa[i0,e5])];let⟨c5,N5,R5⟩:=rd D5;have b0:=R5.t0 N5;have b3:=R5.t3 N5;have bo:=R5.ao N5 hai;have vi:=bb (q:=q) hai;have da:=hd a hai;by_cases ht:0<=(M.A a).st;have zt:decide (0<=(M.A a).st)=true:=Xz ht;refine⟨((Kl.wr a).u,S5),?_,.inr ⟨.k (.wr a),rfl,And.intro da.bd trivial,da⟩,D5.m⟩;rwa[b0,vT,b3,vi,bo,vs,zt,Kl.u];have zt:decide (0<=(M.A a).st)=false:=Xq ht;have on:a∈M.ids/\(M.A a).op=true/\(M.A a).st<0:=⟨hai,hao,⋯⟩;rw[bF (ρ':=[uR lw,some (.tup [.int ni,.int w]),uR (p 0),uI 5,uR T.length,uI mi,uI a,uI d5,none]) (S':=S5) (by rwa[b0,vT,b3,vi,bo,vs,zt])];let⟨d6,S6,e6,D6,d60,d61⟩:=D5.sip (mm:=16) hw hlg ∅ ∅;rw[bF (ρ':=[uR lw,some (.tup [.int ni,.int w]),uR (p 0),uI 5,uR T.length,uI mi,uI a,uI d5,uI d6]) (S':=S6) (by rwa[e6])];by_cases h1:d6<7;have z1:decide (d6<7)=true:=Xz h1;refine⟨((Kl.lk a d5).u,S6),?_,.inr ⟨.k (.lk a d5),rfl,And.intro da.bd (And.intro d50 ⋯),da⟩,D6.m⟩;rwa[z1,Kl.u];have z1:decide (d6<7)=false:=Xq h1;rw[bF (ρ':=[uR lw,some (.tup [.int ni,.int w]),uR (p 0),uI 5,uR T.length,uI mi,uI a,uI d5,uI d6]) (S':=S6) (by rwa[z1])];by_cases h2:d6<11;have z2:decide (d6<11)=true:=Xz h2;let⟨d7,S7,e7,D7,d70,d71⟩:=D6.sip (mm:=w) hw hlg ⋯ w1;refine⟨((Kl.pt a d5 d7).u,S7),?_,.inr ⟨.k (.pt a d5 d7),rfl,And.intro da.bd (And.intro d50 ⋯),da⟩,D7.m⟩;rwa[z2,i1,e7,Kl.u];have z2:decide (d6<11)=false:=Xq h2;rw[bF (ρ':=[uR lw,some (.tup [.int ni,.int w]),uR (p 0),uI 5,uR T.length,uI mi,uI a,uI d5,uI d6]) (S':=S6) (by rwa[z2])];have gL:(S6++[O.lst [.tup [.str "take",.int a],.tup [.str "fall",.int a]]])[S6.length]?=some (.lst [.tup [.str "take",.int a],.tup [.str "fall",.int a]]):=by rw[ga0];rfl
  have D7:=D6.app [O.lst [.tup [.str "take",.int a],.tup [.str "fall",.int a]]];by_cases h3:d6=15;have z3:decide (d6=15)=true:=Xz h3;have ix:atI [U.tup [.str "take",.int a],.tup [.str "fall",.int a]] 1=some (.tup [.str "fall",.int a]):=rfl;refine⟨((Kv.fl a).uu,S6++[O.lst [.tup [.str "take",.int a],.tup [.str "fall",.int a]]]),?_,.inr ⟨.fl a,rfl,And.intro da.bd trivial,da⟩,D7.m⟩;rwa[z3,if_true,gL,ix,Kv.uu];have z3:decide (d6=15)=false:=Xq h3;have ix:atI [U.tup [.str "take",.int a],.tup [.str "fall",.int a]] 0=some (.tup [.str "take",.int a]):=rfl;refine⟨((Kl.tk a).u,S6++[O.lst [.tup [.str "take",.int a],.tup [.str "fall",.int a]]]),?_,.inr ⟨.k (.tk a),rfl,And.intro da.bd trivial,da⟩,D7.m⟩;rwa[z3,ZU,if_false,gL,ix,Kl.u]
def Ea:Fn:=fnU 5 2 (fJ nE)
def aCs(a b v:Int):List U:=[.tup [.str "begin",.int a],.tup [.str "look",.int a,.int b],.tup [.str "put",.int a,.int b,.int v],.tup [.str "take",.int a],.tup [.str "write",.int a]]
theorem LK{a b v d:Int}{n:Nat}(h:dm a)(b0:0<=b)(b1:b<n)(d0:0<=d)(d1:d<6):∃k:Kv,atI (aCs a b v++[.tup [.str "fall",.int a]]) d=some k.uu/\Ab n k/\dm k.of:=by
 have:d=0\/d=1\/d=2\/d=3\/d=4\/d=5:=by omega
 rcases this with rfl|rfl|rfl|rfl|rfl|rfl;exact⟨.k (.bg a),rfl,And.intro h.bd trivial,h⟩;exact⟨.k (.lk a b),rfl,And.intro h.bd (And.intro b0 b1),h⟩;exact⟨.k (.pt a b v),rfl,And.intro h.bd (And.intro b0 b1),h⟩;exact⟨.k (.tk a),rfl,And.intro h.bd trivial,h⟩;exact⟨.k (.wr a),rfl,And.intro h.bd trivial,h⟩;exact⟨.fl a,rfl,And.intro h.bd trivial,h⟩
theorem LF{w:Int}(W:Ws pos c T)(hw:pos (.x 9 0)=some lw)(ni:Int)(hni:ni.toNat=n)(n0:1<=ni)(n1:ni<=60)(w0:1<=w)(w1:w<2^60) :
  Wp (Ea [.ref lw,.tup [.int ni,.int w]] T) λr=>∃k:Kv,r.1=k.uu/\Ab n k/\dm k.of/\Ws pos c r.2:=by
 have i0:atI [U.int ni,.int w] 0=some (.int ni):=rfl;have i1:atI [U.int ni,.int w] 1=some (.int w):=rfl;let⟨d1,S1,e1,W1,d10,d11,k1,l1⟩:=W.sip (mm:=7) hw ∅ ∅;let⟨d2,S2,e2,W2,d20,d21,k2,l2⟩:=(W1.app [.lst [.int d1,.int 199]]).sip (mm:=9) hw ∅ ∅;have g2:S2[S1.length]?=some (.lst [.int d1,.int 199]):=by rw[k2 _ (XH (W1.lt hw)),ga0];rfl
 obtain⟨a,ea,da⟩:∃a:Int,atI [U.int d1,.int 199] (if decide (d2=0)=true then 1 else 0)=some (.int a)/\dm a:=by
  by_cases h:d2=0;rw[XO (Xz h)];exact⟨199,rfl,.inr rfl⟩;rw[XS ‹h›];exact⟨d1,rfl,.inl ⟨d10,d11⟩⟩
 unfold Ea;rw[DG];unfold fJ;rw[bF (ρ':=[uR lw,some (.tup [.int ni,.int w]),uI a,none,none]) (S':=S2) (by rwa[e1,e2,g2,ea])];let⟨d3,S3,e3,W3,d30,d31,k3,l3⟩:=W2.sip (mm:=ni) hw ⋯ ⋯;rw[bF (ρ':=[uR lw,some (.tup [.int ni,.int w]),uI a,uI d3,none]) (S':=S3) (by rwa[i0,e3])];let⟨d4,S4,e4,W4,d40,d41,k4,l4⟩:=W3.sip (mm:=w) hw ⋯ w1;rw[bF (ρ':=[uR lw,some (.tup [.int ni,.int w]),uI a,uI d3,uR S4.length]) (S':=S4++[.lst (aCs a d3 d4)]) (by unfold aCs;rwa[i1,e4])];obtain⟨S5,hS5⟩:∃S5,S5=S4++[O.lst (aCs a d3 d4)]++[O.lst [.tup [.str "fall",.int a]]]:=⟨_,rfl⟩;have W5:Ws pos c S5:=by rw[hS5];exact(W4.app _).app _
 have y0:S5[S4.length]?=some (.lst (aCs a d3 d4)):=by rw[hS5];exact aK (by rw[ga0];rfl)
 have y1:S5[(S4++[O.lst (aCs a d3 d4)]).length]?=some (.lst [.tup [.str "fall",.int a]]):=by rw[hS5,ga0];rfl
 have eA:sG (.ref S4.length) (.ref (S4++[O.lst (aCs a d3 d4)]).length) S5=some (.ref S5.length,S5++[.lst (aCs a d3 d4++[.tup [.str "fall",.int a]])]):=by
  show nh (.ref S4.length) (.ref (S4++[O.lst (aCs a d3 d4)]).length) S5=_;unfold nh;simp only[y0,y1];exact XO (show 5+1<=LIM by unfold LIM;omega)
 let⟨d5,S6,e5,W6,d50,d51,k5,l5⟩:=(W5.app [.lst (aCs a d3 d4++[.tup [.str "fall",.int a]])]).sip (mm:=6) hw ∅ ∅;have g6:S6[S5.length]?=some (.lst (aCs a d3 d4++[.tup [.str "fall",.int a]])):=by rw[k5 _ (XH (W5.lt hw)),ga0];rfl
 let⟨k,ek,ak,dk⟩:=LK (v:=d4) (n:=n) da d30 ⋯ d50 d51;refine⟨(k.uu,S6),?_,k,rfl,ak,dk,W6⟩;have el:jn (ag (jh (ag (cC (.str "fall")) (ag (ah 2) aE))) aE) [uR lw,some (.tup [.int ni,.int w]),uI a,uI d3,uR S4.length] (S4++[.lst (aCs a d3 d4)])=some (.ref (S4++[O.lst (aCs a d3 d4)]).length,S5):=by rw[hS5];rwa[]
 generalize aCs a d3 d4++[U.tup [.str "fall",.int a]]=zs at *;generalize aCs a d3 d4=ys at *;rwa[el,eA,e5,g6,ek]
end
variable{pk:Nat->Nat}{zO:O}
section
variable{CA:Addr}{i l:Nat}{qk:Int->Nat->Nat}{u:U}
def Eb(cK cA:Cl)(zO:O):Fn:=fnU 1 1 (k7 (qJ cK cA zO) (Bl cK) (qL cK) (Bk cK) cK)
theorem Be(M1:Mm pos c T)(Rk:Kr cK cA i pos c K pk qk)(hz:T[l]?=some zO)(h64:K.ids.length<64):Eb cK cA zO [.ref (pk 0)] T=some (.tup [.tup (K.bx.map U.int),.int K.tk,.ref T.length,.ref (T++[O.lst K.ev]).length],T++[.lst K.ev]++[.lst ((dE K).map U.int)]):=by
 have k0:=M1.get (Rk.pk 0 ∅) Rk.c0;have e1:=Hi M1 Rk;have e2:=Am M1 Rk;have e3:=Hj M1 Rk;have N1:=M1.app [.lst K.ev];have k1:=N1.get (Rk.pk 0 ∅) Rk.c0;have e4:=Ah (z:=zO) (l:=l) N1 Rk (aK hz) h64;unfold Eb;rw[uY];generalize hS1:T++[O.lst K.ev]=S1 at *;generalize (dE K).map U.int=os at *;generalize K.bx.map U.int=bs at *;rwa[k7,k0,e1,e2,e3,k1,e4]
theorem JE{l1 l2 l3 l4:Nat}{bs os:List Int}{ev:List U}{x:Int}(hev:∀x∈ev,EvL x)(h1:S[l1]?=some (.lst ev))(h2:S[l2]?=some (.lst (os.map U.int)))(h3:S[l3]?=some (.lst ev))(h4:S[l4]?=some (.lst (os.map U.int))):iC 3 S (.tup [.tup (bs.map U.int),.int x,.ref l1,.ref l2]) (.tup [.tup (bs.map U.int),.int x,.ref l3,.ref l4]):=by
 have li:∀y:Int,Lay 1 S (.int y):=λy=>⟨.int y,.int y,by simp[YY],by simp[PyData.depth]⟩;have L:∀ns:List Int,dN 1 S (ns.map U.int) (ns.map U.int):=λns=>dN.all λu hu=>by let⟨y,_,rfl⟩:=ZT.mp hu;exact li y
 have li2:Lay 2 S (.int x):=⟨.int x,.int x,by simp[YY],by simp[PyData.depth]⟩;exact iC.tup (dN.cons (iC.tup (L bs)) (dN.cons (.refl li2) (dN.cons (iC.lst h1 h3 (dN.all λu hu=>(hev u hu).lay _)) (dN.cons (iC.lst h2 h4 (L os)) dN.nil))))
theorem lyr:∀t,(PyData.str (rfW t)).canLay0=true:=by
 have h1:(PyData.str "noattempt").canLay0=true:=by decide +kernel
 have h2:(PyData.str "nostep").canLay0=true:=by decide +kernel
 intro t;cases t;exact h2;exact h1
theorem inR{d:PyData}{b:Bool}(h1:Dt S u d)(h2:lU d)(h3:b=([.str "noattempt",.str "nostep"]:List PyData).any (λz=>z.eqv d)):EW false u (.tup [.str "noattempt",.str "nostep"]) S=some (.bl b,S):=by
 have:=Hz (x:=u) (y:=.tup [.str "noattempt",.str "nostep"]) (S:=S) (b:=b) false ⟨d,[.str "noattempt",.str "nostep"],h1,.inr (.tup (.cons (.str _) (.cons (.str _) .nil))),h2,by have h1:=lyr true;have h2:=lyr false;unfold rfW at h1 h2;simp[YW,h1,h2],h3⟩;simpa using this
theorem Lc:EW false (.str (rfW t)) (.tup [.str "noattempt",.str "nostep"]) S=some (.bl true,S):=inR (.str _) (Ad (lyr t)) (by cases t<;>simp[yV,rfW])
theorem OD(h:AnU u):EW false u (.tup [.str "noattempt",.str "nostep"]) S=some (.bl false,S):=by
 cases h with
 |no=>exact inR .non Hd (by simp[PyData.eqv])
 |nu v=>exact inR (.tup (.cons (.str _) (.cons (.int _) .nil))) (Ae lyn) (by simp[PyData.eqv])
 |fa=>exact inR (.tup (.cons (.str _) .nil)) (Aa (ly ∅)) (by simp[PyData.eqv])
 |wd w hw=>
  refine inR (.str _) (Ad (ly hw)) ?_;simp only[Zn,List.any_nil,Bool.or_false,yV];have:∀w∈(["done","falls","taken","written",""]:List Str),false=(decide (("noattempt":Str)=w)||decide (("nostep":Str)=w)):=by decide +kernel
  exact this w hw
def nF(cK cA:Cl)(CA CP:Addr)(zO:O):Fn:=fnU 6 3 (ja (Eb cK cA zO) gE (nL cK cA CA CP) mj)
theorem EV{r0 r1 r2 r3 r4 r5:Option U}(M1:Mm pos c T)(Rk:Kr cK cA i pos c K pk qk)(R:Mr j pos c M p q)(Z:Sm K M)(hz:T[l]?=some zO)(h64:K.ids.length<64)(ev:∀x∈K.ev,EvL x) :
  ∃X,(bV (cOp (ql false) (cCB (Eb cK cA zO) (ag (ah 0) aE)) (jh (ag (cCB kx (ag (cOp fIx (ah 1) (cC (.str "boxes"))) aE)) (ag (cOp fIx (ah 1) (cC (.str "clock"))) (ag (cOp fIx (ah 1) (cC (.str "log"))) (ag (cCB mj (ag (ah 1) aE)) aE)))))) [uR (pk 0),uR (p 0),r2,r3,r4,r5] T).bind kFn=some (.bl true,T++X):=by
 have e1:=Be (cK:=cK) (cA:=cA) M1 Rk hz h64;obtain⟨T2,eT2⟩:∃T2,T2=T++[O.lst K.ev]++[O.lst ((dE K).map U.int)]:=⟨_,rfl⟩;have N2:=(M1.app [.lst K.ev]).app [.lst ((dE K).map U.int)];have y1:T2[T.length]?=some (.lst K.ev):=by rw[eT2];exact aK (by rw[ga0];rfl)
 have y2:T2[(T++[O.lst K.ev]).length]?=some (.lst ((dE K).map U.int)):=by rw[eT2,ga0];rfl
 rw[<-eT2]at N2 e1;have g0:=R.t0 N2;have g1:=R.t1 N2;have g4:=R.t4 N2;rw[Z.lg]at g4;rw[Z.bx]at g1;rw[Z.ck]at g0;let⟨X3,l3,e3,y3⟩:=zR N2 R (by rw[Z.ids];exact h64);rw[Z.ord]at y3;have s:=(JE (S:=T2++X3) (bs:=K.bx) (x:=K.tk) ev (aK y1) (aK y2) (aK g4) y3).eq ∅;refine⟨[O.lst K.ev]++([O.lst ((dE K).map U.int)]++X3),?_⟩;have eX:T++([O.lst K.ev]++([O.lst ((dE K).map U.int)]++X3))=T2++X3:=by rw[eT2];simp only[ZJ]
 rw[eX];generalize K.bx.map U.int=bs at *;generalize (dE K).map U.int=os at *;generalize (T++[O.lst K.ev]).length=a2 at *;generalize T.length=a1 at *;rwa[e1,g0,vB,g1,vC,vL,e3,s]
end
section
variable{CA:Addr}{k:Kv}
abbrev fL(cK cA:Cl)(CA CP:Addr)(zO:O)(f:Fn->Fn->Fn->Fn->Fn->Fn->Fn->Cl->CS):CS:=f xn ml qH qM (nF cK cA CA CP zO) Ea (nH cK) cK
def Tv(cK cA:Cl)(zO:O)(lw n:Nat)(pk p:Nat->Nat)(m:Nat)(T:Sto):Prop:=∃(pos:Pl->Option Nat) (c:Pl->O) (K:Kc) (M:Mo) (qk q:Int->Nat->Nat) (z:Int),Mm pos c T/\pos (.x 9 0)=some lw/\c (.x 9 0)=.lst [.int z]/\pos (.x 0 0)=some 0/\c (.x 0 0)=zO/\Kr cK cA 0 pos c K pk qk/\Mr 7 pos c M p q/\Sm K M/\Ki K n/\Kb K m/\Lb M m/\(∀a∈K.ids,dm a)/\∀x∈K.ev,EvL x
def K2{K:Kc}(B:Kb K m):Kb K (m+1):=⟨by have:=B.ev;omega,by have:=B.tk;omega,by have:=B.ids;omega⟩
theorem Tv.su(H:Tv cK cA zO lw n pk p m T):Tv cK cA zO lw n pk p (m+1) T:=by
 let⟨pos,c,K,M,qk,q,z,M1,hw,cw,h0,c0,Rk,R,Z,I,B,L,hd,ev⟩:=H;exact⟨pos,c,K,M,qk,q,z,M1,hw,cw,h0,c0,Rk,R,Z,I,K2 B,L.su,hd,ev⟩
theorem PZ{K:Kc}{k:Kv}(h:∀x∈K.ev,EvL x):∀x∈(jB K k).2.ev,EvL x:=by
 cases k with
 |k x=>exact HB h
 |fl a=>exact j8 h (.two _ ∅ _)
theorem Le{M:Mo}(h:∀a∈M.ids,dm a)(hk:dm k.of):∀a∈(rJ M k).2.ids,dm a:=by
 cases k with
 |fl a=>exact h
 |k x=>
  cases x with
  |bg a=>
   intro y hy;have hy':y∈M.ids++[a]:=hy;rcases ZF.mp hy' with z|z;exact h y z;rw[ZX.mp z];exact hk
  |lk a b=>rw[qy (k:=.lk a b) (λ_ z=>nomatch z)];exact h
  |pt a b v=>exact h
  |tk a=>rw[qy (k:=.tk a) (λ_ z=>nomatch z)];exact h
  |wr a=>rw[qy (k:=.wr a) (λ_ z=>nomatch z)];exact h
theorem vZ(hne:CA≠CP)(hnA:cA.ns.length=6)(H:Tv cK cA zO lw n pk p m T)(hm:m<=100)(hb:Ab n k)(hdk:dm k.of):Wp (nF cK cA CA CP zO [.ref (pk 0),.ref (p 0),k.uu] T) λr=>r.1=.bl true/\Tv cK cA zO lw n pk p (m+1) r.2:=by
 let⟨pos,c,K,M,qk,q,z,M1,hw,cw,h0,c0,Rk,R,Z,I,B,L,hd,ev⟩:=H;have e0:T[0]?=some zO:=M1.get h0 c0;have h64:K.ids.length<64:=by have:=OH I.ids hd;omega
 have ea:=Be (cK:=cK) (cA:=cA) M1 Rk e0 h64;have N0:=(M1.app [.lst K.ev]).app [.lst ((dE K).map U.int)];obtain⟨T0,eT0⟩:∃T0,T0=T++[O.lst K.ev]++[O.lst ((dE K).map U.int)]:=⟨_,rfl⟩;have y1:T0[T.length]?=some (.lst K.ev):=by rw[eT0];exact aK (by rw[ga0];rfl)
 have y2:T0[(T++[O.lst K.ev]).length]?=some (.lst ((dE K).map U.int)):=by rw[eT0,ga0];rfl
 rw[<-eT0]at N0 ea;have b1:=B.ev;have b2:=B.ids;unfold nF;rw[OJ];unfold ja;rcases DX (M:=M) hb with dk|⟨t,rf⟩;have vk:=dk.v Z;have mv:=dk.mv Z I;let⟨a1,a2⟩:=Z.call I vk;let⟨⟨u2,T2⟩,e2,rfl,pos2,c2,q2,N2,R2,F2⟩:=CY N0 R (Z.mw I L ⋯) (by rw[Z.lg];omega) (by rw[Z.ids];omega) (λa ha=>by have:=L a ha;omega) mv;have Rk2:Kr cK cA 0 pos2 c2 K pk qk:=Rk.fm F2 ∅;let⟨⟨u3,T3⟩,e3,rfl,pos3,c3,qk3,N3,Rk3,F3⟩:=DV (CA:=CA) (CP:=CP) hnA N2 Rk2 I B ⋯ vk;have R3:Mr 7 pos3 c3 (rJ M k).2 p q2:=R2.fm F3 ∅;have fr:∀i f,pos3 (.x i f)=pos (.x i f)/\c3 (.x i f)=c (.x i f):=λi f=>by
  let⟨f1,f2⟩:=F2 (.x i f) (λh=>h);let⟨f3,f4⟩:=F3 (.x i f) (λh=>h);exact⟨f3.trans f1,f4.trans f2⟩
 have B3:=FW (k:=k) B;have I3:=FV I vk;have hd3:∀a∈(jB K k).2.ids,dm a:=by rw[<-a2.ids];exact Le (by rw[Z.ids];exact hd) hdk
 have e0':T3[0]?=some zO:=N3.get ((fr 0 0).1.trans h0) ((fr 0 0).2.trans c0);have h64':(jB K k).2.ids.length<64:=by have:=OH I3.ids hd3;omega
 rw[a1]at e2;have s1:ql true (jB K k).1 (jB K k).1 T3=some (.bl false,T3):=iC.ne (.refl (O8.lay T3)) ∅;have s2:=OD (S:=T3) (O8 (K:=K) (k:=k));let⟨X4,e4⟩:=EV (r0:=none) (r1:=none) (r2:=some k.uu) (r3:=some (.tup [.tup (K.bx.map U.int),.int K.tk,.ref T.length,.ref (T++[O.lst K.ev]).length])) (r4:=some (jB K k).1) (r5:=some (jB K k).1) N3 Rk3 R3 a2 e0' h64' (PZ ev);refine⟨(.bl true,T3++X4),?_,rfl,pos3,c3,_,_,qk3,q2,z,N3.app X4,(fr 9 0).1.trans hw,(fr 9 0).2.trans cw,(fr 0 0).1.trans h0,(fr 0 0).2.trans c0,Rk3,R3,a2,I3,B3,L.call mv,hd3,PZ ev⟩;generalize hk:k.uu=ku at *;generalize hv:(jB K k).1=vu at *;generalize U.tup [.tup (K.bx.map U.int),.int K.tk,.ref T.length,.ref (T++[O.lst K.ev]).length]=au at *;rw[bF (ρ':=[uR (pk 0),uR (p 0),some ku,some au,none,none]) (S':=T0) (by rwa[ea])];rw[bF (ρ':=[uR (pk 0),uR (p 0),some ku,some au,some vu,none]) (S':=T2) (by rwa[e2])];rw[bF (ρ':=[uR (pk 0),uR (p 0),some ku,some au,some vu,some vu]) (S':=T3) (by rwa[e3])];rw[bF (ρ':=[uR (pk 0),uR (p 0),some ku,some au,some vu,some vu]) (S':=T3) (by rwa[s1])];rw[bF (ρ':=[uR (pk 0),uR (p 0),some ku,some au,some vu,some vu]) (S':=T3) (by rwa[s2])];exact e4;have e2:=CZ N0 R rf;let⟨X,e3⟩:=HL (CA:=CA) (CP:=CP) hne Z N0 Rk hb rf;have N3:=N0.app X;have e0':(T0++X)[0]?=some zO:=N3.get h0 c0;have s1:ql true (.str (rfW t)) (.str (rfW t)) (T0++X)=some (.bl false,T0++X):=iC.ne (k:=1) (.refl ⟨_,.str _,lyr t,by simp[PyData.depth]⟩) ∅;have s2:=Lc (S:=T0++X) (t:=t);have e5:=Be (cK:=cK) (cA:=cA) N3 Rk e0' h64;have N5:=(N3.app [.lst K.ev]).app [.lst ((dE K).map U.int)];obtain⟨T5,eT5⟩:∃T5,T5=T0++X++[O.lst K.ev]++[O.lst ((dE K).map U.int)]:=⟨_,rfl⟩;have w1:T5[(T0++X).length]?=some (.lst K.ev):=by rw[eT5];exact aK (by rw[ga0];rfl)
 have w2:T5[(T0++X++[O.lst K.ev]).length]?=some (.lst ((dE K).map U.int)):=by rw[eT5,ga0];rfl
 have w3:T5[T.length]?=some (.lst K.ev):=by rw[eT5];exact aK (aK (aK y1))
 have w4:T5[(T++[O.lst K.ev]).length]?=some (.lst ((dE K).map U.int)):=by rw[eT5];exact aK (aK (aK y2))
 rw[<-eT5]at N5 e5;have s3:=(JE (S:=T5) (bs:=K.bx) (x:=K.tk) ev w1 w2 w3 w4).ne ∅;let⟨X6,e6⟩:=EV (r0:=none) (r1:=none) (r2:=some k.uu) (r3:=some (.tup [.tup (K.bx.map U.int),.int K.tk,.ref T.length,.ref (T++[O.lst K.ev]).length])) (r4:=some (.str (rfW t))) (r5:=some (.str (rfW t))) N5 Rk R Z (N5.get h0 c0) h64 ev;refine⟨(.bl true,T5++X6),?_,rfl,pos,c,K,M,qk,q,z,N5.app X6,hw,cw,h0,c0,Rk,R,Z,I,K2 B,L.su,hd,ev⟩;generalize hk:k.uu=ku at *;generalize U.tup [.tup (K.bx.map U.int),.int K.tk,.ref T.length,.ref (T++[O.lst K.ev]).length]=au at *;generalize U.tup [.tup (K.bx.map U.int),.int K.tk,.ref (T0++X).length,.ref (T0++X++[O.lst K.ev]).length]=av at *;generalize U.str (rfW t)=vu at *;rw[bF (ρ':=[uR (pk 0),uR (p 0),some ku,some au,none,none]) (S':=T0) (by rwa[ea])];rw[bF (ρ':=[uR (pk 0),uR (p 0),some ku,some au,some vu,none]) (S':=T0) (by rwa[e2])];generalize T0++X=T3 at *;rw[bF (ρ':=[uR (pk 0),uR (p 0),some ku,some au,some vu,some vu]) (S':=T3) (by rwa[e3])];rw[bF (ρ':=[uR (pk 0),uR (p 0),some ku,some au,some vu,some vu]) (S':=T3) (by rwa[s1])];rw[bF (ρ':=[uR (pk 0),uR (p 0),some ku,some au,some vu,some vu]) (S':=T5) (by rwa[s2,e5,s3])];exact e6
theorem Tv.ws{pos:Pl->Option Nat}{c:Pl->O}{K:Kc}{M:Mo}{qk q:Int->Nat->Nat}{S:Sto}(W:Ws pos c S)(hw:pos (.x 9 0)=some lw)(h0:pos (.x 0 0)=some 0)(c0:c (.x 0 0)=zO)(Rk:Kr cK cA 0 pos c K pk qk)(R:Mr 7 pos c M p q)(Z:Sm K M)(I:Ki K n)(B:Kb K m)(L:Lb M m)(hd:∀a∈K.ids,dm a)(ev:∀x∈K.ev,EvL x):Tv cK cA zO lw n pk p m S:=
 let ⟨z,N⟩:=W
 ⟨pos,_,K,M,qk,q,z,N,hw,bJ,h0,(aB nofun).trans c0,Rk.fx Fx.upd,R.fx Fx.upd,Z,I,B,L,hd,ev⟩
theorem Tv.z0(H:Tv cK cA zO lw n pk p m T):T[0]?=some zO:=by
 let⟨pos,c,K,M,qk,q,z,M1,hw,cw,h0,c0,_⟩:=H;exact M1.get h0 c0
section
variable{r0 r1 r4 r7 r8 r9:Option U}{ni w:Int}(hne:CA≠CP)(hnA:cA.ns.length=6)(hni:ni.toNat=n)(n0:1<=ni)(n1:ni<=60)(w0:1<=w)(w1:w<2^60)
include hne hnA hni n0 n1 w0 w1
theorem Dm(H:Tv cK cA zO lw n pk p m T)(hm:m<=100):∃S',fL cK cA CA CP zO nC [r0,r1,uR lw,some (.tup [.int ni,.int w]),r4,uR (pk 0),uR (p 0),r7,r8,r9] T=some (.nx,[r0,r1,uR lw,some (.tup [.int ni,.int w]),r4,uR (pk 0),uR (p 0),r7,r8,r9],S')/\Tv cK cA zO lw n pk p (m+1) S':=by
 have H0:=H;let⟨pos,c,K,M,qk,q,z,M1,hw,cw,h0,c0,Rk,R,Z,I,B,L,hd,ev⟩:=H;have W:Ws pos c T:=⟨z,by rw[yP cw];exact M1⟩;let⟨⟨u,S1⟩,e1,k,rfl,ak,dk,W1⟩:=LF W hw ni hni n0 n1 w0 w1;let⟨⟨u2,S2⟩,e2,rfl,H2⟩:=vZ hne hnA (Tv.ws W1 hw h0 c0 Rk R Z I B L hd ev) hm ak dk;refine⟨S2,?_,H2⟩;unfold fL nC;generalize k.uu=ku at *;rwa[e1,e2]
theorem rV:∀(xs:List Nat) (m:Nat) (T:Sto) (r9:Option U),Tv cK cA zO lw n pk p m T->m+xs.length<=100->∃r9' S',dH (λ_=>True) (gNm 9) (fL cK cA CA CP zO nC) (xs.map λi:Nat=>U.int (i:Int)) [r0,r1,uR lw,some (.tup [.int ni,.int w]),r4,uR (pk 0),uR (p 0),r7,r8,r9] T=some (.nx,[r0,r1,uR lw,some (.tup [.int ni,.int w]),r4,uR (pk 0),uR (p 0),r7,r8,r9'],S')/\Tv cK cA zO lw n pk p (m+xs.length) S'
 |[],m,T,r9,H,_=>⟨r9,T,fe trivial,H⟩
 |x::xs,m,T,r9,H,hn=>by
  rw[QK]at hn;let⟨S1,e,H1⟩:=Dm (r0:=r0) (r1:=r1) (r4:=r4) (r7:=r7) (r8:=r8) (r9:=uI x) hne hnA hni n0 n1 w0 w1 H ⋯;let⟨r9',S',e',h'⟩:=rV xs (m+1) S1 (uI x) H1 ⋯;exact⟨r9',S',(gy trivial rfl e).trans e',by rw[QK,show m+(xs.length+1)=m+1+xs.length by omega];exact h'⟩
theorem FX(H:Tv cK cA zO lw n pk p m T)(hm:m<=90):∃r8' r9' S',fL cK cA CA CP zO nB [r0,r1,uR lw,some (.tup [.int ni,.int w]),r4,uR (pk 0),uR (p 0),r7,r8,r9] T=some (.nx,[r0,r1,uR lw,some (.tup [.int ni,.int w]),r4,uR (pk 0),uR (p 0),r7,r8',r9'],S')/\Tv cK cA zO lw n pk p (m+4) S':=by
 let⟨pos,c,K,M,qk,q,z,M1,hw,cw,h0,c0,Rk,R,Z,I,B,L,hd,ev⟩:=H;let⟨⟨u,S1⟩,e1,hk,W1⟩:=DJ (m:=M.ids.length) M1 R hw cw rfl (by rw[Z.ids];exact hd) (by rw[Z.ids];exact OH I.ids hd) ni hni n0 n1 w0 w1;dsimp only at hk W1;have H1:=Tv.ws W1 hw h0 c0 Rk R Z I B L hd ev;have st:∃S2,(∀{cr:CS},aT (dh (A4 (aG (cOp uQ (ah 8) (cC .non))) (sS (aG (cCB (nF cK cA CA CP zO) (ag (ah 5) (ag (ah 6) (ag (ah 8) aE))))))) (bV (cC (.bl false))) bI) cr [r0,r1,uR lw,some (.tup [.int ni,.int w]),r4,uR (pk 0),uR (p 0),r7,some u,r9] S1=cr [r0,r1,uR lw,some (.tup [.int ni,.int w]),r4,uR (pk 0),uR (p 0),r7,some u,r9] S2)/\Tv cK cA zO lw n pk p (m+1) S2:=by
  rcases hk with rfl|⟨k,rfl,ak,dk⟩;exact⟨S1,λ{cr}=>bF (by rwa[yx,rW]),H1.su⟩
  ·let⟨⟨u2,S2⟩,e2,rfl,H2⟩:=vZ hne hnA H1 ⋯ ak dk;have kn:rQ k.uu=false:=by
    cases k with
    |fl a=>rfl
    |k x=>cases x<;>rfl
   refine⟨S2,λ{cr}=>bF ?_,H2⟩;generalize k.uu=ku at *;rwa[yx,kn,e2]
 let⟨S2,e2,H2⟩:=st;let⟨r9',S3,e3,H3⟩:=rV (r0:=r0) (r1:=r1) (r4:=r4) (r7:=r7) (r8:=some u) hne hnA hni n0 n1 w0 w1 (ZO 3) (m+1) S2 r9 H2 (by simp;omega);refine⟨some u,r9',S3,?_,by rw[show m+4=m+1+(ZO 3).length from rfl];exact H3⟩;have ef:oQ (c6 (ag (cC (.int 3)) aE)) (gNm 9) (fL cK cA CA CP zO nC) [r0,r1,uR lw,some (.tup [.int ni,.int w]),r4,uR (pk 0),uR (p 0),r7,some u,r9] S2=some (.nx,[r0,r1,uR lw,some (.tup [.int ni,.int w]),r4,uR (pk 0),uR (p 0),r7,some u,r9'],S3):=by
  unfold oQ;rw[p7 (n:=3) (S1:=S2) rfl ∅ ∅,v7];exact e3
 unfold fL nB;unfold fL at ef;rw[bF (ρ':=[r0,r1,uR lw,some (.tup [.int ni,.int w]),r4,uR (pk 0),uR (p 0),r7,some u,r9]) (S':=S1) (by rwa[e1])];rw[e2];exact ef
theorem vO:∀(xs:List Nat) (m:Nat) (T:Sto) (r7 r8 r9:Option U),Tv cK cA zO lw n pk p m T->m+4*xs.length<=90->∃ρ' S',dH (λ_=>True) (gNm 7) (fL cK cA CA CP zO nB) (xs.map λi:Nat=>U.int (i:Int)) [r0,r1,uR lw,some (.tup [.int ni,.int w]),r4,uR (pk 0),uR (p 0),r7,r8,r9] T=some (.nx,ρ',S')/\S'[0]?=some zO/\ρ'.length=10/\ρ'[0]?=some r0
 |[],m,T,r7,r8,r9,H,_=>⟨_,T,fe trivial,H.z0,rfl,rfl⟩
 |x::xs,m,T,r7,r8,r9,H,hn=>by
  rw[QK]at hn;let⟨r8',r9',S1,e,H1⟩:=FX (r0:=r0) (r1:=r1) (r4:=r4) (r7:=uI x) (r8:=r8) (r9:=r9) hne hnA hni n0 n1 w0 w1 H ⋯;let⟨ρ',S',e',h'⟩:=vO xs (m+4) S1 (uI x) r8' r9' H1 ⋯;exact⟨ρ',S',(gy trivial rfl e).trans e',h'⟩
end
def HW:Pl->Option Nat:=λs=>if s=.x 0 0 then some 0 else none
theorem HF{ns:List Int}{k:Int}{r2 r3 r4 r5 r6 r7 r8 r9:Option U}(hne:CA≠CP)(hnK:cK.ns.length=6)(hnA:cA.ns.length=6)(k0:0<=k)(hz:T[0]?=some zO):∃ρ' S',fL cK cA CA CP zO nz [some (.kl ns),uI k,r2,r3,r4,r5,r6,r7,r8,r9] T=some (.nx,ρ',S')/\S'[0]?=some zO/\ρ'.length=10/\ρ'[0]?=some (some (.kl ns)):=by
 have M0:Mm HW (λ_=>zO) T:=by
  refine⟨λs q h=>?_,λs s' q h h'=>?_⟩;unfold HW at h;split at h;cases h;exact hz;cases h;unfold HW at h h';split at h;split at h';rename_i a b;rw[a,b];cases h';cases h
 let⟨z1,ew⟩:=FR (S:=T) ns k0;have W1:Ws (dG HW (.x 9 0) T.length) (λ_=>zO) (T++[.lst [.int z1]]):=⟨z1,M0.new (.x 9 0) (.lst [.int z1]) []⟩;let⟨⟨u1,S1⟩,e1,ni,w,st,eu1,n0,n1,w0,w1,ls,⟨x1,M1⟩,_⟩:=zV W1 mH (λs p h=>let ⟨_,M⟩:=W1;M.lt h);dsimp only at eu1 M1;subst eu1;let⟨⟨u2,S2⟩,e2,eu2,pos2,c2,M2,R2,F2⟩:=KI (cA:=cA) (j:=0) (x:=.tup [.int ni,.int w]) hnK (show st.length<=900 by omega) M1;dsimp only at eu2 M2;subst eu2;have e3:=CQ (T:=S2) (show st.length<=900 by omega);let⟨pos3,c3,M3,R3,F3⟩:=CO (j:=7) (st:=st) M2;generalize hS3:S2++[O.dic (mD 0 (pMo S2.length)),.lst (st.map U.int),.lst [.int 0],.lst ((QR st.length (0:Int)).map U.int),.dic [],.lst []]=S3 at *;have fr:∀i f,pos3 (.x i f)=dG HW (.x 9 0) T.length (.x i f)/\c3 (.x i f)=aJ (λ_=>zO) (.x 9 0) (.lst [.int x1]) (.x i f):=λi f=>by
  let⟨f1,f2⟩:=F2 (.x i f) (λh=>h);let⟨f3,f4⟩:=F3 (.x i f) (λh=>h);exact⟨f3.trans f1,f4.trans f2⟩
 have p0:pos3 (.x 0 0)=some 0:=(fr 0 0).1.trans (by simp[dG,HW]);have cz:c3 (.x 0 0)=zO:=(fr 0 0).2.trans (by simp[aJ]);have H:Tv cK cA zO T.length ni.toNat (CH S1.length) (pMo S2.length) 0 S3:=by
  refine⟨pos3,c3,xT st,m0 st,_,_,x1,M3,(fr 9 0).1.trans mH,(fr 9 0).2.trans bJ,p0,cz,R2.fm F3 ∅,R3,?_,Ki.new ls ⋯,Kb.new,(λa ha=>nomatch ha),(λa ha=>nomatch ha),(λx hx=>nomatch hx)⟩;refine⟨rfl,rfl,rfl,rfl,rfl,Int.le_refl 0,(λa ha=>nomatch ha),λb o=>⟨(λh=>nomatch h),λh=>nomatch h.1⟩⟩
 let⟨ρ',S',el,hz',hρ⟩:=vO (CA:=CA) (CP:=CP) (r0:=some (.kl ns)) (r1:=uI k) (r4:=some (.tup (st.map U.int))) (w:=w) hne hnA rfl n0 ⋯ w0 ⋯ (ZO 20) 0 S3 r7 r8 r9 H nofun;refine⟨ρ',S',?_,hz',hρ⟩;have ef:oQ (c6 (ag (cC (.int 20)) aE)) (gNm 7) (fL cK cA CA CP zO nB) [some (.kl ns),uI k,uR T.length,some (.tup [.int ni,.int w]),some (.tup (st.map U.int)),uR S1.length,uR S2.length,r7,r8,r9] S3=some (.nx,ρ',S'):=by
  unfold oQ;rw[p7 (n:=20) (S1:=S3) rfl ∅ ∅,v7];exact el
 unfold fL nz;unfold fL at ef;generalize hss:st.map U.int=ss at *;rw[bF (ρ':=[some (.kl ns),uI k,uR T.length,r3,r4,r5,r6,r7,r8,r9]) (S':=T++[.lst [.int z1]]) (by rwa[ew])];rw[bF (ρ':=[some (.kl ns),uI k,uR T.length,some (.tup [.int ni,.int w]),some (.tup ss),r5,r6,r7,r8,r9]) (S':=S1) (by rwa[e1])];rw[bF (ρ':=[some (.kl ns),uI k,uR T.length,some (.tup [.int ni,.int w]),some (.tup ss),uR S1.length,r6,r7,r8,r9]) (S':=S2) (by rwa[e2])];rw[bF (ρ':=[some (.kl ns),uI k,uR T.length,some (.tup [.int ni,.int w]),some (.tup ss),uR S1.length,uR S2.length,r7,r8,r9]) (S':=S3) (by rwa[e3])];exact ef
theorem xf{ns:List Int}(hne:CA≠CP)(hnK:cK.ns.length=6)(hnA:cA.ns.length=6):∀(xs:List Nat) (ρ:Rho) (T:Sto),T[0]?=some zO->ρ.length=10->ρ[0]?=some (some (.kl ns))->∃ρ' S',dH (λ_=>True) (gNm 1) (fL cK cA CA CP zO nz) (xs.map λi:Nat=>U.int (i:Int)) ρ T=some (.nx,ρ',S')
 |[],ρ,T,_,_,_=>⟨ρ,T,fe trivial⟩
 |x::xs,ρ,T,hz,hl,h0=>by
  match ρ,hl,h0 with
  |[a,b,r2,r3,r4,r5,r6,r7,r8,r9],_,h0=>
   cases h0;let⟨ρ1,S1,e,hz1,l1,h1⟩:=HF (CA:=CA) (CP:=CP) (ns:=ns) (k:=(x:Int)) (r2:=r2) (r3:=r3) (r4:=r4) (r5:=r5) (r6:=r6) (r7:=r7) (r8:=r8) (r9:=r9) hne hnK hnA ⋯ hz;let⟨ρ',S',e'⟩:=xf hne hnK hnA xs ρ1 S1 hz1 l1 h1;exact⟨ρ',S',(gy trivial rfl e).trans e'⟩
theorem KR(hne:CA≠CP)(hnK:cK.ns.length=6)(hnA:cA.ns.length=6)(ns:List Int)(hl:ns.length<=63):∃ρ' S',HG xn ml qH qM (nF cK cA CA CP zO) Ea (nH cK) cK [some (.kl ns),none,none,none,none,none,none,none,none,none] [zO]=some (.rt (.bl true),ρ',S'):=by
 obtain⟨n,hn,n0,n1⟩:∃n:Int,ag (cCB Lj (ag (cC (.int 2)) (ag (cCB Li (ag (cC (.int 6)) (ag (cCB sF (ag (ah 0) aE)) aE))) aE))) aE [some (.kl ns),none,none,none,none,none,none,none,none,none] [zO]=some ([.int n],[zO])/\0<=n/\n<=6:=by
  have h1:∀i j:Int,Li [.int i,.int j] [zO]=some (.int (if j<i then j else i),[zO]):=λi j=>rfl;have h2:∀i j:Int,Lj [.int i,.int j] [zO]=some (.int (if j>i then j else i),[zO]):=λi j=>rfl;refine⟨if (if ((ns.length:Nat):Int)<6 then((ns.length:Nat):Int)else 6)>2 then(if ((ns.length:Nat):Int)<6 then((ns.length:Nat):Int)else 6)else 2,?_,⋯,⋯⟩;have h3:sF [.kl ns] [zO]=some (.int (ns.length:Nat),[zO]):=rfl;rwa[h1,h2,h3]
 let⟨ρ',S',e⟩:=xf (cK:=cK) (cA:=cA) (zO:=zO) (ns:=ns) hne hnK hnA (ZO n.toNat) [some (.kl ns),none,none,none,none,none,none,none,none,none] [zO] rfl rfl rfl;have ef:oQ (c6 (ag (cCB Lj (ag (cC (.int 2)) (ag (cCB Li (ag (cC (.int 6)) (ag (cCB sF (ag (ah 0) aE)) aE))) aE))) aE)) (gNm 1) (fL cK cA CA CP zO nz) [some (.kl ns),none,none,none,none,none,none,none,none,none] [zO]=some (.nx,ρ',S'):=by
  unfold oQ;rw[p7 hn n0 ⋯,v7];exact e
 unfold HG;unfold fL at ef;rw[bF ef];exact⟨_,_,rfl⟩
end
theorem He{P:Z7}{w:ZR}{K:Q1}{h:Heap}{mg:Str->Option Q3}{st:ZC}{k:Nat}{sp:Sp}{fa:Addr}(d:LV K "law" st)(X:K.In h)(G:h.Ns mainGlobals mg)(hfa:mg "law"=some (.ref fa))(ok:∀fd,Fun K "law" "law" st fa fd->∀base:Heap,Bo mg base->kF P w K mg base CX0 k fa fd ["script"] sp)
  (b:∀(kV doc pm:Q3) (an:Option Addr) (cdv ct v:Q3),bindArgs (YB "law" "law" (jN st) (cM st) (ax st) .none kV doc pm an cdv ct) ⟨[v],[]⟩=pure [(("script":Str),v)]:=by intros;rfl) :
  ∃fd:Zo,(∀(s:Q4) (v:Q3),BindsTo s fd ⟨[v],[]⟩ [("script",v)])/\∀base:Heap,K.In base->base.Ns mainGlobals mg->Bo mg base->kF P w K mg base CX0 k fa fd ["script"] sp:=by
 let⟨f,a,fd,F⟩:=d;cases hfa.symm.trans (PySem.W.mg_of X G a);refine⟨fd,λs v=>?_,λbase _ _ bm=>ok fd F base bm⟩;let⟨oc,od,kV,doc,pm,an,cdv,ct,osl,rfl,lk,hcd⟩:=F.ex;exact .of_eq (b kV doc pm an cdv ct v)
theorem LJ{l:PySem.W.OpenLaw}{w:ZR}{K:Q1}{h:Heap}{mg:Str->Option Q3}{fa:Addr}(X:K.In h)(G:h.Ns mainGlobals mg)(hfa:mg "law"=some (.ref fa))
  {y84:Addr}
  {y86:Addr}
  (ds:LU K [("_law_well",jD),("_law_sip",kJ),("_law_world",iJ),("_law_held",jG),("_law_still",iK),("_law_model",iN),("_law_ended",iO),("_law_look",jF),("_law_take",jE),("_law_write",iI),("_law_call",jH),("_law_order",iM),("_law_asked",iP),("_law_drawn_call",dQ),("_law_any_call",fD),("_law_all",kK),("_law_right",iL),("law",Gh)])
  (y82:Im K "Attempt" y84 ["glance","looked","puts","stamp","unwritten","is_open"] [("__init__","Attempt.__init__",gu),("instant","Attempt.instant",dR)])
  (y83:Im K "Keeper" y86 ["boxes","marks","holders","ticks","events","known"] [("__init__","Keeper.__init__",gU),("end","Keeper.end",iS),("found","Keeper.found",dZ),("untaken","Keeper.untaken",cV),("is_barred","Keeper.is_barred",dB),("has_changed","Keeper.has_changed",cI),("would_fall","Keeper.would_fall",cX),("look_anew","Keeper.look_anew",dA),("begin","Keeper.begin",d8),("look","Keeper.look",eZ),("put","Keeper.put",fR),("take","Keeper.take",eY),("write","Keeper.write",dY),("fall","Keeper.fall",e8),("log","Keeper.log",iR),("order","Keeper.order",gi),("now","Keeper.now",iQ),("clock","Keeper.clock",gq)])
  (zs:My K P6)
  {cO pO:Addr} (cod:HV K y86 "order" cO pO) {y90 y89 y93 y94 y92 y91:Addr} (xk:O5 K y90 y89 y93 y94 y92 y91) :
  ∃fd:Zo,(∀(s:Q4) (v:Q3),BindsTo s fd ⟨[v],[]⟩ [("script",v)])/\∀base:Heap,K.In base->base.Ns mainGlobals mg->Bo mg base->kF l.prog w K mg base CX0 8 fa fd ["script"] (vU pO K):=by
 obtain⟨y69,y80,y67,y74,y62,y63,y60,y75,y77,y54,y68,y48,y52,y10,y15,y78,y64,y88,-⟩:=ds;obtain⟨y24,y9,-⟩:=y82.ms;have y85:=y82.tc;obtain⟨y37,y65,y25,y12,y6,y1,y2,y7,y28,y34,y46,y41,y23,y42,y44,y27,y49,y29,-⟩:=y83.ms;have y87:=y83.tc;have B:=zs.blt X G;have V:=xk.k X G;have hne:y90≠y89:=λe=>by
  have b:=xk.as;rw[<-e]at b;exact absurd (xk.aa.symm.trans b) ∅
 refine He y88 X G hfa λfd R_ base bm=>?_;have y31:=n6 (P:=l.prog) (w:=w) (base:=base) (k:=0) (y82.mkd y24 X G) B y85;have y8:=kW (P:=l.prog) (w:=w) (base:=base) (k:=0) (y9.mt) B y85;have y35:=qd (P:=l.prog) (w:=w) (base:=base) (k:=0) (y83.mkd y37 X G) B y87;have y58:=sC (P:=l.prog) (w:=w) (base:=base) (k:=0) (y65.mt) B y87 y85;have y19:=nZ (P:=l.prog) (w:=w) (base:=base) (k:=0) (y25.mt) B y87 y85;have y13:=lR (P:=l.prog) (w:=w) (base:=base) (k:=1) (y12.mt) B y87 y85 y19;have y4:=kq (P:=l.prog) (w:=w) (base:=base) (k:=0) (y6.mt) B y87;have y0:=ju (P:=l.prog) (w:=w) (base:=base) (k:=0) (y1.mt) B y87 y85;have y3:=jL (P:=l.prog) (w:=w) (base:=base) (k:=1) (y2.mt) B y87 y85 y4 y0;have y5:=ko (P:=l.prog) (w:=w) (base:=base) (k:=0) (y7.mt) B y87 y85;have y26:=n5 (P:=l.prog) (w:=w) (base:=base) (k:=1) (y28.mt) B y87 y85 y31;have y36:=qc (P:=l.prog) (w:=w) (base:=base) (k:=2) (y34.mt) B y87 y85 y13 y3 (y58.mono ∅) (y5.mono ∅);have y66:=sk (P:=l.prog) (w:=w) (base:=base) (k:=2) (y46.mt) B y87 y85 y13;have y38:=qb (P:=l.prog) (w:=w) (base:=base) (k:=2) (y41.mt) B y87 y85 y13 (y58.mono ∅) (y4.mono ∅) (y0.mono ∅);have y20:=nX (P:=l.prog) (w:=w) (base:=base) (k:=1) (y23.mt) B y87 y85 y19 y58;have y32:=qe (P:=l.prog) (w:=w) (base:=base) (k:=2) (y42.mt) B y87 y13 (y58.mono ∅);have y55:=sy (P:=l.prog) (w:=w) (base:=base) (k:=0) (y44.mt) B y87;have y22:=nY (P:=l.prog) (w:=w) (base:=base) (k:=1) (y27.mt) cod bm B y87 y85 y8;have y56:=sx (P:=l.prog) (w:=w) (base:=base) (k:=0) (y49.mt) B y87;have y21:=n4 (P:=l.prog) (w:=w) (base:=base) (k:=0) (y29.mt) B y87;have y70:=uH (P:=l.prog) (w:=w) (base:=base) (k:=0) (y69.df X G) B;have y79:=xV (P:=l.prog) (w:=w) (base:=base) (k:=0) (y80.df X G) B;have y59:=sd (P:=l.prog) (w:=w) (base:=base) (k:=1) (y67.df X G) B y79;have y73:=uL (P:=l.prog) (w:=w) (base:=base) (k:=0) (y74.df X G) B;have y45:=se (P:=l.prog) (w:=w) (base:=base) (k:=1) (y62.df X G) B y73;have y43:=sh (P:=l.prog) (w:=w) (base:=base) (k:=0) (y63.df X G) B;have y50:=si (P:=l.prog) (w:=w) (base:=base) (k:=0) (y60.df X G) B;have y71:=uK (P:=l.prog) (w:=w) (base:=base) (k:=2) (y75.df X G) B (Has.mono y73 ∅) y45 (Has.mono y50 ∅);have y72:=uJ (P:=l.prog) (w:=w) (base:=base) (k:=2) (y77.df X G) B (Has.mono y50 ∅) y45 (Has.mono y73 ∅);have y47:=rZ (P:=l.prog) (w:=w) (base:=base) (k:=1) (y54.df X G) B y50;have y76:=uM (P:=l.prog) (w:=w) (base:=base) (k:=3) (y68.df X G) B y71 y72 (Has.mono y47 ∅) (Has.mono y50 ∅);have y53:=sg (P:=l.prog) (w:=w) (base:=base) (k:=0) (y48.df X G) B;have y30:=nQ (P:=l.prog) (w:=w) (base:=base) (k:=0) (y25.mt) B V y87 y85;have y14:=lO (P:=l.prog) (w:=w) (base:=base) (k:=1) (y12.mt) B V y87 y85 y19 y30;have y17:=nR (P:=l.prog) (w:=w) (base:=base) (k:=0) (y28.mt) B V y87;have y40:=pA (P:=l.prog) (w:=w) (base:=base) (k:=2) (y34.mt) B V y87 y14;have y61:=rl (P:=l.prog) (w:=w) (base:=base) (k:=2) (y46.mt) B V y87 y14;have y39:=px (P:=l.prog) (w:=w) (base:=base) (k:=2) (y41.mt) B V y87 y14;have y18:=nO (P:=l.prog) (w:=w) (base:=base) (k:=1) (y23.mt) B V y87 y85 y19 y30;have y33:=pB (P:=l.prog) (w:=w) (base:=base) (k:=2) (y42.mt) B V y87 y14;have y57:=sj (P:=l.prog) (w:=w) (base:=base) (k:=3) (y52.df X G) B V y87 (y26.mono ∅) y36 y66 y38 (y20.mono ∅) y32 (y17.mono ∅) y40 y61 y39 (y18.mono ∅) y33;have y11:=kR (P:=l.prog) (w:=w) (base:=base) (k:=1) (y10.df X G) B y79;have y16:=mY (P:=l.prog) (w:=w) (base:=base) (k:=1) (y15.df X G) B y79;have y81:=xW (P:=l.prog) (w:=w) (base:=base) (k:=5) (y78.df X G) B y87 y22 (y55.mono ∅) (y21.mono ∅) (y56.mono ∅);have y51:=sf (P:=l.prog) (w:=w) (base:=base) (k:=6) (y64.df X G) B y81 (Has.mono y76 ∅) (Has.mono y57 ∅) (Has.mono y53 ∅);exact OE (P:=l.prog) (w:=w) (base:=base) (k:=6) R_ B y87 (Has.mono y70 ∅) (Has.mono y59 ∅) (Has.mono y43 ∅) (Has.mono y11 ∅) y51 (Has.mono y16 ∅) (y35.mono ∅) λns hl=>KR (cK:=⟨y86,_⟩) (cA:=⟨y84,_⟩) hne rfl rfl ns hl
theorem Qn{l:PySem.W.OpenLaw}{q:Z7}{de:List Str}{XP:(Str->Option Q3)->Heap->Prop}{YP:ZR->Heap->Prop}{d:DefRec}{K:Params->Q1}(p:Addr)(hn:l.most=some 63)(hdf:d.params.defaults=[])
  (hY:∀(w:ZR) (h:Heap),YP w h->(K w.params).In h/\h.get? p=some (PySem.W.tabObj #[])) (hK:∀w:ZR,(K w.params).lookup p=none) (hC:∀w:ZR,∃c,PySem.W.codeHdIn (K w.params) c p=true)
  (F:∀(w:ZR) (mg:Str->Option Q3) (fa:Addr) (h:Heap),(K w.params).In h->h.Ns mainGlobals mg->mg d.name=some (.ref fa)->
   ∃fd:Zo,(∀(s:Q4) (u:Q3),BindsTo s fd ⟨[u],[]⟩ [("script",u)])/\∀base:Heap,(K w.params).In base->base.Ns mainGlobals mg->Bo mg base->kF l.prog w (K w.params) mg base CX0 8 fa fd ["script"] (vU p (K w.params))) :
  PySem.W.WalkO q de XP YP l.row.toRowW d [] (λf vs=>PySem.call f vs):=
 L2.BO (n:=63) (k:=8) (x:="script") (p:=p) (sp:=λw=>vU p (K w.params)) hn ∅ hdf ⟨rfl,∅,∅,rfl⟩ hY hK hC F (λ_ _ a ns hl hO hS=>⟨a,ns,rfl,KU hO hS,hl,hO.1,λ_=>rfl⟩)
end OL
namespace PySem.W.Fast
def tw14036153012928185112:=0
def tw1546366214202621755:=0
def tw18259340516679377616:=0
def tw5769304546015599676:=0
def tw7592425651870966688:=0
def tw17463748758239521430:=0
def tw14415019642936953929:=0
def tw9841276905687097014:=0
def tw10151656193279791812:=0
def tw9110099575271298655:=0
def tw6544808669285388611:=0
def tw16305204289115520934:=0
def tw8076214495571839262:=0
def tw13067370178820628133:=0
def tw15631659038756958923:=0
def tw474831257518916119:=0
def tw9623764860573970181:=0
def tw9829859547659075264:=0
def tw17432569986116427019:=0
def tw16459865538262109371:=0
def tw16508779677943577375:=0
def tw13260224770302686546:=0
def tw2745898968638910650:=0
def tw12848863960698850728:=0
def tw14898280123054647334:=0
def tw3314775321111808303:=0
def tw15910663417982538830:=0
def tw11084819529585172321:=0
def tw2628199440629507843:=0
def tw1922770745541717593:=0
def tw11513680321300180234:=0
def tw8087588125807681049:=0
def tw1546977575339519914:=0
def tw16566283319877911101:=0
def tw14187280724374247206:=0
def tw8193065373906787488:=0
def tw18435266890878531535:=0
def tw7392754746969423534:=0
def tw8586696702729603233:=0
end PySem.W.Fast
open PySem PySem.W PyProof.Rows
open OP in
set_option maxRecDepth 100000 in
set_option maxHeartbeats 0 in
theorem PySem.Challenge.cw_oneglance_k33_keeper_refusals_holds : PySem.Challenge.rw_oneglance_k33_keeper_refusals.Holds := by
 w_on; o_law; k_head; (case hw => w_witness2)
 k_fill
 refine OL.Qn (l := PySem.Challenge.rw_oneglance_k33_keeper_refusals) 246 rfl rfl (λw h Y => ⟨PySem.W.km_in_of Y, PySem.W.km_tabs_of Y 246 nofun⟩) (λw => by kernel_rfl) (λw => ⟨250, by kernel_rfl⟩) ?F;case F =>
  intro w mg fa h KX G hmg;refine' OL.LJ KX G hmg ?ds ?y82 ?y83 ?zs ?cod ?xk
  (case ds => (repeat (refine' ⟨Qy ?a ?l ?c ?k, ?_⟩; (case a => k_is); (case l => k_is); (case c => k_is); (case k => k_is))); exact trivial)
  (case y82 => (refine' ⟨?a, ?b, ?c, ?d, ?e, ?f, ?g, ?n, ?m⟩; (case a => k_is); (case b => k_is); (case c => k_is); (case d => k_is); (case e => k_is); (case f => k_is); (case g => k_is); (case n => (repeat (refine' ⟨?a, ?_⟩; (case a => k_is))); exact trivial); (case m => (repeat (refine' ⟨Pt ?a ?i ?l ?c ?k, ?_⟩; (case a => k_is); (case i => k_is); (case l => k_is); (case c => k_is); (case k => k_is))); exact trivial)))
  (case y83 => (refine' ⟨?a, ?b, ?c, ?d, ?e, ?f, ?g, ?n, ?m⟩; (case a => k_is); (case b => k_is); (case c => k_is); (case d => k_is); (case e => k_is); (case f => k_is); (case g => k_is); (case n => (repeat (refine' ⟨?a, ?_⟩; (case a => k_is))); exact trivial); (case m => (repeat (refine' ⟨Pt ?a ?i ?l ?c ?k, ?_⟩; (case a => k_is); (case i => k_is); (case l => k_is); (case c => k_is); (case k => k_is))); exact trivial)))
  (case zs => (repeat (refine' ⟨?a, ?_⟩; (case a => k_is))); exact trivial)
  (case cod => exact ⟨_, _, _, by k_is, by k_is, rfl, rfl, by kernel_rfl⟩)
  (case xk => (refine' ⟨?ga, ?gs, ?gg, ?gr, ?gt, ?gm, ?gv, ?xa, ?xs, ?ea, ?es, ?aa, ?as1, ?sa, ?ss, ?va, ?vs, ?oa, ?os⟩; (case ga => k_is); (case gs => k_is); (case gg => k_is); (case gr => k_is); (case gt => k_is); (case gm => k_is); (case gv => k_is); (case xa => (refine' ⟨?a, ?b, ?c, ?d, ?e, ?f, ?g, ?h, ?i, ?j⟩; (case a => k_is); (case b => k_is); (case c => k_is); (case d => k_is); (case e => k_is); (case f => k_is); (case g => k_is); (case h => k_is); (case i => kernel_rfl); (case j => kernel_rfl))); (case xs => (refine' ⟨?a, ?b, ?c, ?d, ?e, ?f, ?g, ?h, ?i, ?j⟩; (case a => k_is); (case b => k_is); (case c => k_is); (case d => k_is); (case e => k_is); (case f => k_is); (case g => k_is); (case h => k_is); (case i => kernel_rfl); (case j => kernel_rfl))); (case ea => kernel_rfl); (case es => kernel_rfl); (case aa => kernel_rfl); (case as1 => kernel_rfl); (case sa => kernel_rfl); (case ss => kernel_rfl); (case va => kernel_rfl); (case vs => kernel_rfl); (case oa => kernel_rfl); (case os => kernel_rfl)))
